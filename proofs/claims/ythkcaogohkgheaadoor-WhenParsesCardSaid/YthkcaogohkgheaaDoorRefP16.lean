/-
  What the document's Parse does (chapter 16), up to the great test; no condition but the text's length.
-/
import Derived.Test.YthkcaogohkgheaaDoorRefT16
import Derived.StillTailTactics
namespace Go.Proofs.YthkcaogohkgheaaDoor
set_option maxRecDepth 100000
open Go.RowKit
open Go.Lib (decDigits itoa)

theorem at16 (s : List UInt8) (i : Int) (j : Nat) (hi : i = (j : Int)) (h : j < s.length) (w : World) :
    (Instr.index 9 (.string ⟨s.toArray⟩) (.int .i64 i)).run Tryd.prog w = .ok (.int .u8 ((byteW s j).toNat : Int)) w := at_txt s .i64 i j hi h w
theorem fld16 (s : List UInt8) (i k : Int) (a b : Nat) (hi : i = (a : Int)) (hk : k = (b : Int)) (hab : a ≤ b) (hb : b ≤ s.length) (w : World) :
    (Instr.slice 9 (.string ⟨s.toArray⟩) (some (.int .i64 i)) (some (.int .i64 k)) none).run Tryd.prog w = .ok (.string ⟨(fld s a b).toArray⟩) w := by
  subst hi hk
  rw [run_slice_string w _ _ .i64 .i64 (a : Int) (b : Int) Tryd.underlying9 (by omega) (by omega) (by simp [ByteArray.size]; omega), Lib.extract_eq]
  unfold fld
  simp
theorem fst16 (s : List UInt8) (k : Int) (b : Nat) (hk : k = (b : Int)) (hb : b ≤ s.length) (w : World) :
    (Instr.slice 9 (.string ⟨s.toArray⟩) none (some (.int .i64 k)) none).run Tryd.prog w = .ok (.string ⟨(fld s 0 b).toArray⟩) w := by
  subst hk
  rw [run_slice_string_h w _ _ Tryd.underlying9 .i64 (b : Int) (by omega) (by simp [ByteArray.size]; omega), Lib.extract_eq]
  unfold fld
  simp

/-- A text of another shape. -/
theorem shape16 (s : List UInt8) (h : fracW s = none) :
    ((s.length ≠ 24) ∨ (s.length = 24 ∧ (byteW s 19 ≠ 46 ∨ byteW s 23 ≠ 90))) ∧ (s.length ≠ 20 ∨ (s.length = 20 ∧ byteW s 19 ≠ 90)) := by
  unfold fracW at h
  split at h
  · cases h
  · rename_i h1
    split at h
    · rename_i h2
      by_cases a : s.length = 24
      · refine ⟨.inr ⟨a, ?_⟩, .inl (by omega)⟩
        by_cases b : byteW s 19 = 46
        · exact .inr fun c => h1 ⟨a, b, c⟩
        · exact .inl b
      · refine ⟨.inl a, ?_⟩
        by_cases b : s.length = 20
        · refine .inr ⟨b, ?_⟩
          rcases h2 with h2 | h2
          · exact absurd b h2
          · exact h2
        · exact .inl b
    · cases h
theorem ne16 {a : UInt8} {b : Nat} {k : Int} (h : a ≠ UInt8.ofNat b) (hk : k = (b : Int)) : ((a.toNat : Int) == k) = false ∧ ((a.toNat : Int) != k) = true := by
  have e : ((a.toNat : Int) == k) = false := beq_eq_false_iff_ne.2 (fun e => h (by
    have : a.toNat = b := by omega
    rw [← this, UInt8.ofNat_toNat]))
  exact ⟨e, by rw [bne, e]; rfl⟩
set_option maxHeartbeats 2000000 in
theorem parse16_none (s : List UInt8) (h : fracW s = none) (w : World) :
    Calls Tryd.prog 11 #[.string ⟨s.toArray⟩] w fun e w' => e = .returned (.tuple #[.int .i64 0, .bool false]) ∧ w' = w := by
  obtain ⟨h1, h2⟩ := shape16 s h
  clear h
  rcases h1 with a | ⟨a, h1⟩
  · have d1 : ((s.length : Int) == 24) = false := beq_eq_false_iff_ne.2 (by omega)
    rcases h2 with b | ⟨b, h2⟩
    · have d2 : ((s.length : Int) == 20) = false := beq_eq_false_iff_ne.2 (by omega)
      have d3 : ((s.length : Int) != 20) = true := by rw [bne, d2]; rfl
      clear a b
      go_enter Tryd.func11, Tryd.ntmps11
      go_wp2_with fail
      go_ret2
      exact ⟨rfl, rfl⟩
    · have d2 : ((s.length : Int) == 20) = true := by rw [b]; rfl
      have d3 : ((s.length : Int) != 20) = false := by rw [bne, d2]; rfl
      have x := at16 s 19 19 rfl (by omega)
      obtain ⟨e1, e2⟩ := ne16 (b := 90) (k := 90) h2 rfl
      generalize byteW s 19 = c at *
      clear a b h2
      go_enter Tryd.func11, Tryd.ntmps11
      go_wp2_with fail
      go_ret2
      exact ⟨rfl, rfl⟩
  · have d1 : ((s.length : Int) == 24) = true := by rw [a]; rfl
    have d2 : ((s.length : Int) == 20) = false := by rw [a]; rfl
    have d3 : ((s.length : Int) != 20) = true := by rw [a]; rfl
    have x := at16 s 19 19 rfl (by omega)
    have x' := at16 s 23 23 rfl (by omega)
    by_cases g : byteW s 19 = 46
    · have h3 := h1.resolve_left (fun e => e g)
      obtain ⟨e1, e2⟩ := ne16 (b := 90) (k := 90) h3 rfl
      have e3 : (((byteW s 19).toNat : Int) == 46) = true := by rw [g]; rfl
      generalize byteW s 19 = c at *
      generalize byteW s 23 = c' at *
      clear a h1 h2 h3 g
      go_enter Tryd.func11, Tryd.ntmps11
      go_wp2_with fail
      go_ret2
      exact ⟨rfl, rfl⟩
    · obtain ⟨e1, e2⟩ := ne16 (b := 46) (k := 46) g rfl
      generalize byteW s 19 = c at *
      clear a h1 h2 g
      go_enter Tryd.func11, Tryd.ntmps11
      go_wp2_with fail
      go_ret2
      exact ⟨rfl, rfl⟩
end Go.Proofs.YthkcaogohkgheaaDoor
