/-
  What the document's noughts and run (of chapter 15) do; no condition but the text's length, or how many noughts are wanted.
-/
import Derived.Test.YtkkoefiennccoaaGreatDoorRefL15
import Derived.Test.YtkkoefiennccoaaGreatDoorRefK14
import Derived.Test.YtkkoefiennccoaaGreatDoorDecitText
import Derived.Laws.Concat
import Derived.Deep.Cut
import Derived.Deep.DeepCutAuto
import Derived.Deep.CutBlock
namespace Go.Proofs.YtkkoefiennccoaaGreatDoor
open Go.RowKit
open Go.Lib (decDigits itoa)

theorem dcat (a b : Array UInt8) (u v : List UInt8) (ha : a = u.toArray) (hb : b = v.toArray) (h : u.length + v.length ≤ 1000000000) (w : World) :
    (Op.stringOp .add ⟨a⟩ ⟨b⟩).run Tryz.prog w = .ok (.string ⟨(u ++ v).toArray⟩) w := by
  subst ha
  subst hb
  rw [run_string_add_sum w ⟨u.toArray⟩ ⟨v.toArray⟩ (by simp [ByteArray.size]; omega), cat_str]
/-- The same, told as another row. -/
theorem dcat_is {a b : Array UInt8} {u v t : List UInt8} (ha : a = u.toArray) (hb : b = v.toArray) (ht : u ++ v = t) (h : u.length + v.length ≤ 1000000000) (w : World) :
    (Op.stringOp .add ⟨a⟩ ⟨b⟩).run Tryz.prog w = .ok (.string ⟨t.toArray⟩) w := by
  rw [← ht]; exact dcat a b u v ha hb h w
theorem upto15 (s : List UInt8) (b : Nat) (i : Int) (hi : i = (b : Int)) (hb : b ≤ s.length) (w : World) :
    (Instr.slice 9 (.string ⟨s.toArray⟩) none (some (.int .i64 i)) none).run Tryz.prog w = .ok (.string ⟨(s.take b).toArray⟩) w := by
  subst hi
  rw [run_slice_string_h w _ _ Tryz.underlying9 .i64 (b : Int) (by omega) (by simp [ByteArray.size]; omega), Lib.extract_eq]
  simp
theorem part15 (s : List UInt8) (a b : Nat) (i j : Int) (hi : i = (a : Int)) (hj : j = (b : Int)) (hab : a ≤ b) (hb : b ≤ s.length) (w : World) :
    (Instr.slice 9 (.string ⟨s.toArray⟩) (some (.int .i64 i)) (some (.int .i64 j)) none).run Tryz.prog w = .ok (.string ⟨((s.drop a).take (b - a)).toArray⟩) w := by
  subst hi hj
  rw [run_slice_string w _ _ .i64 .i64 (a : Int) (b : Int) Tryz.underlying9 (by omega) (by omega) (by simp [ByteArray.size]; omega), Lib.extract_eq]
  simp

set_option maxHeartbeats 1000000 in
theorem noughts_any (n : Int) (hn : n ≤ 1000000) (w : World) :
    Calls Tryz.prog 21 #[.int .i64 n] w fun e w' => e = .returned (.string ⟨(List.replicate n.toNat 48).toArray⟩) ∧ w' = w := by
  obtain ⟨N, hN⟩ : ∃ N, N = n.toNat := ⟨_, rfl⟩
  rw [← hN]
  have HN := Lib.hid hN
  have Hb := Lib.hid hn
  clear hN hn
  go_enter Tryz.func21, Tryz.ntmps21
  go_wp2_with fail
  go_loopw [3, 4] (fun s i wr => wr = w ∧ ∃ k : Nat, k ≤ N ∧ i = .int .i64 (k : Int) ∧ s = .string ⟨(List.replicate k 48).toArray⟩) (fun _ i _ => N - (intOf i).toNat)
  case atStart => exact ⟨rfl, 0, by omega, rfl, rfl⟩
  case round =>
    obtain ⟨rfl, k, hk, rfl, rfl⟩ := hrel
    by_cases hlt : k < N
    · have d1 : decide ((k : Int) < n) = true := decide_eq_true (by have := HN.out; omega)
      have kb : (k : Int) < 1000000 := by have := HN.out; have := Hb.out; omega
      have k1 := dcat_is (a := (List.replicate k (48 : UInt8)).toArray) (b := #[48]) (v := [48]) (t := List.replicate (k + 1) 48) rfl rfl (by rw [← List.replicate_succ']) (by simp; omega)
      generalize ht : List.replicate (k + 1) (48 : UInt8) = t at *
      have HT := Lib.hid ht
      clear ht
      generalize List.replicate k (48 : UInt8) = u at *
      go_wp2_with fail
      go_roundw
      case rel => exact ⟨trivial, k + 1, by omega, ret_val (by omega), by rw [HT.out]⟩
      case measure => simp [intOf]; omega
    · have d1 : decide ((k : Int) < n) = false := decide_eq_false (by have := HN.out; omega)
      obtain rfl : k = N := by omega
      go_wp2_with fail
      go_ret
      exact ⟨rfl, rfl⟩

set_option maxHeartbeats 2000000 in
theorem run15_any (s : List UInt8) (hs : s.length ≤ 1000000000) (w : World) :
    Calls Tryz.prog 46 #[.string ⟨s.toArray⟩] w fun x w' => x = .returned (.int .i64 (run s : Int)) ∧ w' = w := by
  obtain ⟨r, hr⟩ : ∃ r, r = run s := ⟨_, rfl⟩
  rw [← hr]
  have HR : Hid (r = 0 + run (s.drop 0)) := show _ = _ by rw [hr]; simp
  clear hr
  obtain ⟨N, hN⟩ : ∃ N, N = s.length := ⟨_, rfl⟩
  have HN := Lib.hid hN
  have HNb : Hid (N ≤ 1000000000) := show _ ≤ _ by rw [hN]; exact hs
  clear hN hs
  go_enter Tryz.func46, Tryz.ntmps46
  go_wp2_with fail
  go_loopw [3] (fun i wr => wr = w ∧ ∃ k : Nat, k ≤ N ∧ i = .int .i64 (k : Int) ∧ r = k + run (s.drop k)) (fun i _ => N - (intOf i).toNat)
  case atStart => exact ⟨rfl, 0, by omega, rfl, HR.out⟩
  case round =>
    obtain ⟨rfl, k, hk, rfl, hf⟩ := hrel
    have HF := Lib.hid hf
    have hkb : k ≤ 1000000000 := by have := HNb.out; omega
    clear hf
    by_cases hlt : k < N
    · have d1 : decide ((k : Int) < (s.length : Int)) = true := by rw [← HN.out]; simp; omega
      have d1n : decide (k < s.length) = true := by rw [← HN.out]; simpa using hlt
      have x1 := at_txt s .i64 (k : Int) k rfl (by rw [← HN.out]; exact hlt) wr
      have HA := Lib.hid (run_drop (s := s) (k := k) (by rw [← HN.out]; exact hlt))
      generalize s.getD k 0 = c at x1 HA
      by_cases c1 : c.toNat < 48
      · have d2 : decide (48 ≤ (c.toNat : Int)) = false := by simp; omega
        have HE : Hid (r = k) := show _ = _ by rw [HF.out, HA.out, isD_low c1]; simp
        clear HA HF c1
        go_wp2_with fail
        go_ret
        exact ⟨by rw [HE.out]; rfl, rfl⟩
      · have d2 : decide (48 ≤ (c.toNat : Int)) = true := by simp; omega
        by_cases c2 : 57 < c.toNat
        · have d3 : decide ((c.toNat : Int) ≤ 57) = false := by simp; omega
          have HE : Hid (r = k) := show _ = _ by rw [HF.out, HA.out, isD_high c2]; simp
          clear HA HF c1 c2
          go_wp2_with fail
          go_ret
          exact ⟨by rw [HE.out]; rfl, rfl⟩
        · have d3 : decide ((c.toNat : Int) ≤ 57) = true := by simp; omega
          have HE : Hid (r = (k + 1) + run (s.drop (k + 1))) := show _ = _ by rw [HF.out, HA.out, isD_mid c1 c2]; simp; omega
          clear HA HF c1 c2
          go_wp2_with fail
          go_roundw
          case rel => exact ⟨trivial, k + 1, by omega, ret_val (by omega), HE.out⟩
          case measure => simp [intOf]; omega
    · obtain rfl : k = N := by omega
      have d1 : decide ((k : Int) < (s.length : Int)) = false := by rw [← HN.out]; simp
      have d1n : decide (k < s.length) = false := by rw [← HN.out]; simp
      have HE : Hid (r = k) := show _ = _ by rw [HF.out, List.drop_eq_nil_of_le (by rw [← HN.out]; omega), run_nil]; simp
      clear HF
      go_wp2_with fail
      go_ret
      exact ⟨by rw [HE.out]; rfl, rfl⟩

end Go.Proofs.YtkkoefiennccoaaGreatDoor
