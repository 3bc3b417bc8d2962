/-
  What the document's run and Lexeme do; no condition but the text's length.
-/
import Derived.Test.YthkcaogohkgheaaDoorRefI16
import Derived.Test.YthkcaogohkgheaaDoorLexMath

namespace Go.Proofs.YthkcaogohkgheaaDoor
open Go.RowKit
theorem at_txt (l : List UInt8) (kd : IntKind) (i : Int) (j : Nat) (hi : i = (j : Int)) (hj : j < l.length) (w : World) :
    (Instr.index 9 (.string ⟨l.toArray⟩) (.int kd i)).run Tryd.prog w = .ok (.int .u8 ((l.getD j 0).toNat : Int)) w := by
  subst hi
  rw [run_index_string w _ _ _ _ Tryd.underlying9, dif_pos ⟨by omega, by simp [ByteArray.size]; omega⟩]
  have e : (⟨l.toArray⟩ : ByteArray)[((j : Int)).toNat]'(by simp [ByteArray.size]; omega) = l.getD j 0 := by
    show l.toArray[((j : Int)).toNat]'(by simp; omega) = l.getD j 0
    simp [List.getD, hj]
  rw [e]
theorem slice_from (s : List UInt8) (a : Nat) (i : Int) (hi : i = (a : Int)) (ha : a ≤ s.length) (w : World) :
    (Instr.slice 9 (.string ⟨s.toArray⟩) (some (.int .i64 i)) none none).run Tryd.prog w = .ok (.string ⟨(s.drop a).toArray⟩) w := by
  subst hi
  rw [run_slice_string_l w _ _ Tryd.underlying9 .i64 (a : Int) (by omega) (by simp [ByteArray.size]; omega), Lib.extract_eq]
  simp only [ByteArray.size, List.size_toArray, Int.toNat_natCast]
  rw [List.take_of_length_le (by simp)]
theorem isD_low {c : UInt8} (h : c.toNat < 48) : isD c = false := by simp [isD]; omega
theorem isD_high {c : UInt8} (h : 57 < c.toNat) : isD c = false := by simp [isD]; omega
theorem isD_mid {c : UInt8} (h0 : ¬ c.toNat < 48) (h1 : ¬ 57 < c.toNat) : isD c = true := by simp [isD]; omega
theorem trim_le (l : List UInt8) : (trim l).length ≤ l.length := by
  cases l with
  | nil => exact Nat.le_refl _
  | cons c t =>
    simp only [trim]
    split <;> simp
theorem unsign_le (l : List UInt8) : (unsign l).length ≤ l.length := by
  cases l with
  | nil => exact Nat.le_refl _
  | cons c t =>
    simp only [unsign]
    split <;> simp
theorem byte_ne {a b : UInt8} (h : ¬ a = b) : a.toNat ≠ b.toNat := fun e => h (UInt8.toNat_inj.1 e)
theorem run_nil : run [] = 0 := rfl
theorem run_le (u : List UInt8) : run u ≤ u.length := by
  unfold run
  exact (List.takeWhile_sublist isD).length_le
theorem run_drop {s : List UInt8} {k : Nat} (h : k < s.length) : run (s.drop k) = if isD (s.getD k 0) = true then run (s.drop (k + 1)) + 1 else 0 := by
  have e : s.getD k 0 = s[k] := by rw [List.getD_eq_getElem?_getD, List.getElem?_eq_getElem h]; rfl
  rw [List.drop_eq_getElem_cons h, e]
  unfold run
  rw [List.takeWhile_cons]
  split <;> simp
/-! ### What the tests see -/
theorem head_facts (c : UInt8) (t : List UInt8) : decide (0 < ((c :: t).length : Int)) = true ∧ decide (0 < (c :: t).length) = true ∧
    (∀ w : World, (Instr.index 9 (.string ⟨(c :: t).toArray⟩) (.int .i64 0)).run Tryd.prog w = .ok (.int .u8 (c.toNat : Int)) w) ∧
    (∀ w : World, (Instr.slice 9 (.string ⟨(c :: t).toArray⟩) (some (.int .i64 1)) none none).run Tryd.prog w = .ok (.string ⟨t.toArray⟩) w) ∧ ¬ (c :: t) = [] ∧ (!(c :: t).isEmpty) = true := by
  refine ⟨by simp, by simp, fun w => at_txt (c :: t) .i64 0 0 rfl (by simp) w, fun w => ?_, by simp, rfl⟩
  have := slice_from (c :: t) 1 1 rfl (by simp) w
  exact this
theorem dot_slice (c : UInt8) (t : List UInt8) (n : Nat) (h : n ≤ t.length) (w : World) :
    (Instr.slice 9 (.string ⟨(c :: t).toArray⟩) (some (.int .i64 (1 + (n : Int)))) none none).run Tryd.prog w = .ok (.string ⟨(t.drop n).toArray⟩) w := by
  have := slice_from (c :: t) (n + 1) (1 + (n : Int)) (by omega) (by simp; omega) w
  rw [List.drop_succ_cons] at this
  exact this
theorem isE_cases {c : UInt8} (h : isE c = true) : ((c.toNat : Int) == 101) = true ∨ (((c.toNat : Int) == 101) = false ∧ ((c.toNat : Int) == 69) = true) := by
  simp only [isE, Bool.or_eq_true, beq_iff_eq] at h
  rcases h with rfl | rfl
  · left; rfl
  · right; exact ⟨rfl, rfl⟩
theorem isE_not {c : UInt8} (h : isE c = false) : ((c.toNat : Int) == 101) = false ∧ ((c.toNat : Int) == 69) = false := by
  simp only [isE, Bool.or_eq_false_iff, beq_eq_false_iff_ne] at h
  have h1 := byte_ne h.1
  have h2 := byte_ne h.2
  have e1 : (101 : UInt8).toNat = 101 := rfl
  have e2 : (69 : UInt8).toNat = 69 := rfl
  exact ⟨beq_eq_false_iff_ne.2 (by omega), beq_eq_false_iff_ne.2 (by omega)⟩
theorem nought_cases {c : UInt8} {n : Nat} (h : ¬ (c = 48 ∧ 1 < n)) : ((c.toNat : Int) == 48) = false ∨ (((c.toNat : Int) == 48) = true ∧ decide (1 < (n : Int)) = false ∧ decide (1 < n) = false) := by
  by_cases hc : c = 48
  · right
    have hn : ¬ 1 < n := fun e => h ⟨hc, e⟩
    exact ⟨by rw [hc]; rfl, by simp; omega, by simpa using hn⟩
  · left
    have := byte_ne hc
    have e : (48 : UInt8).toNat = 48 := rfl
    exact beq_eq_false_iff_ne.2 (by omega)
/-- A sign ahead of an exponent's digits: a plus, a minus, none. -/
theorem sign_cases (x : List UInt8) (h0 : x ≠ []) : decide (0 < (x.length : Int)) = true ∧ decide (0 < x.length) = true ∧ ∃ c : UInt8, (∀ w : World, (Instr.index 9 (.string ⟨x.toArray⟩) (.int .i64 0)).run Tryd.prog w = .ok (.int .u8 (c.toNat : Int)) w) ∧
    ((unsign x = x ∧ ((c.toNat : Int) == 43) = false ∧ ((c.toNat : Int) == 45) = false) ∨
     ((∀ w : World, (Instr.slice 9 (.string ⟨x.toArray⟩) (some (.int .i64 1)) none none).run Tryd.prog w = .ok (.string ⟨(unsign x).toArray⟩) w) ∧ (((c.toNat : Int) == 43) = true ∨ ((c.toNat : Int) == 43) = false ∧ ((c.toNat : Int) == 45) = true))) := by
  cases x with
  | nil => exact absurd rfl h0
  | cons c t =>
    obtain ⟨h1, h1n, h3, h4, _, _⟩ := head_facts c t
    refine ⟨h1, h1n, c, h3, ?_⟩
    have e43 : (43 : UInt8).toNat = 43 := rfl
    have e45 : (45 : UInt8).toNat = 45 := rfl
    by_cases h43 : c = 43
    · right
      refine ⟨?_, .inl (by rw [h43]; rfl)⟩
      rw [show unsign (c :: t) = t by simp [unsign, h43]]
      exact h4
    · have n43 := byte_ne h43
      by_cases h45 : c = 45
      · right
        refine ⟨?_, .inr ⟨beq_eq_false_iff_ne.2 (by omega), by rw [h45]; rfl⟩⟩
        rw [show unsign (c :: t) = t by simp [unsign, h45]]
        exact h4
      · have n45 := byte_ne h45
        left
        exact ⟨by simp [unsign, h43, h45], beq_eq_false_iff_ne.2 (by omega), beq_eq_false_iff_ne.2 (by omega)⟩
/-- A sign at the front: a minus; none. -/
theorem minus_cases (s : List UInt8) (h0 : s ≠ []) :
    (decide (0 < (s.length : Int)) = true ∧ decide (0 < s.length) = true ∧ (∀ w : World, (Instr.index 9 (.string ⟨s.toArray⟩) (.int .i64 0)).run Tryd.prog w = .ok (.int .u8 45) w) ∧ (∀ w : World, (Instr.slice 9 (.string ⟨s.toArray⟩) (some (.int .i64 1)) none none).run Tryd.prog w = .ok (.string ⟨(trim s).toArray⟩) w) ∧ True) ∨
    (trim s = s ∧ decide (0 < (s.length : Int)) = true ∧ decide (0 < s.length) = true ∧ s ≠ [] ∧ (((s.getD 0 0).toNat : Int) == 45) = false) := by
  cases s with
  | nil => exact absurd rfl h0
  | cons c t =>
    obtain ⟨h1, h1n, h3, h4, _, _⟩ := head_facts c t
    by_cases hc : c = 45
    · left
      subst hc
      exact ⟨h1, h1n, h3, h4, trivial⟩
    · right
      have := byte_ne hc
      have e : (45 : UInt8).toNat = 45 := rfl
      exact ⟨by simp [trim, hc], h1, h1n, by simp, beq_eq_false_iff_ne.2 (by simp only [List.getD_cons_zero]; omega)⟩
end Go.Proofs.YthkcaogohkgheaaDoor
