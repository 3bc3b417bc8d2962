/-
  What the document's Whole and Zero of texts (chapter 2) and Named (chapter 17) do; no condition but bounds.
-/
import Derived.Test.YtfpocpmcoobjkaaDoorRef2T
import Derived.Test.YtfpocpmcoobjkaaDoorOfStr
import Derived.Test.YtfpocpmcoobjkaaDoorRefS17
namespace Go.Proofs.YtfpocpmcoobjkaaDoor
set_option maxRecDepth 100000
open Go.RowKit

set_option maxHeartbeats 1000000 in
theorem refWhole_any (s : List UInt8) (hs : s.length ≤ 100000000) (w : World) :
    Calls Tryd.prog 54 #[.string ⟨s.toArray⟩] w fun e w' => e = .returned (.bool (wholeB s)) ∧ Below w.heap.size w w' := by
  obtain ⟨c, W1, hrun, hrow, hb⟩ := bytes_of_str s w
  have cC := Lib.hid (ref_check_any _ _ c s W1 (hrow.held rfl) hs)
  have HB := Lib.hid hb
  clear hrow hb hs
  go_enter Tryd.func54, Tryd.ntmps54
  go_wp2_with fail
  refine (cC.out).mono ?_
  rintro e w1 ⟨rfl, rfl⟩
  clear cC hrun
  go_wp2_with fail
  go_ret
  exact ⟨rfl, HB.out⟩
/-- Has a text a byte 0? -/
def zeroB (s : List UInt8) : Bool := s.any fun c => c == 0
theorem zero_step {s : List UInt8} {k : Nat} (h : k < s.length) : zeroB (s.drop k) = ((s.getD k 0 == 0) || zeroB (s.drop (k + 1))) := by
  unfold zeroB
  rw [List.drop_eq_getElem_cons h, List.any_cons]
  simp [List.getD, h]
theorem at_txt (l : List UInt8) (kd : IntKind) (i : Int) (j : Nat) (hi : i = (j : Int)) (hj : j < l.length) (w : World) :
    (Instr.index 9 (.string ⟨l.toArray⟩) (.int kd i)).run Tryd.prog w = .ok (.int .u8 ((l.getD j 0).toNat : Int)) w := by
  subst hi
  rw [run_index_string w _ _ _ _ Tryd.underlying9, dif_pos ⟨by omega, by simp [ByteArray.size]; omega⟩]
  have e : (⟨l.toArray⟩ : ByteArray)[((j : Int)).toNat]'(by simp [ByteArray.size]; omega) = l.getD j 0 := by
    show l.toArray[((j : Int)).toNat]'(by simp; omega) = l.getD j 0
    simp [List.getD, hj]
  rw [e]
set_option maxHeartbeats 1000000 in
theorem refZero_any (s : List UInt8) (hs : s.length ≤ 1000000000) (w : World) :
    Calls Tryd.prog 55 #[.string ⟨s.toArray⟩] w fun e w' => e = .returned (.bool (zeroB s)) ∧ w' = w := by
  obtain ⟨R, hR⟩ : ∃ R, R = zeroB s := ⟨_, rfl⟩
  rw [← hR]
  have HR : Hid (R = zeroB (s.drop 0)) := hR
  have HL := Lib.hid hs
  clear hR hs
  go_enter Tryd.func55, Tryd.ntmps55
  go_wp2_with fail
  go_loopw [3] (fun i wr => wr = w ∧ ∃ k : Nat, k ≤ s.length ∧ i = .int .i64 (k : Int) ∧ R = zeroB (s.drop k)) (fun i _ => s.length - natV i)
  case atStart => exact ⟨rfl, 0, Nat.zero_le _, rfl, HR.out⟩
  case round =>
    obtain ⟨rfl, k, hk, rfl, hr⟩ := hrel
    have hl := HL.out
    by_cases hlt : k < s.length
    · have d1 : decide ((k : Int) < (s.length : Int)) = true := decide_eq_true (by omega)
      have d1n : decide (k < s.length) = true := decide_eq_true hlt
      have x1 := at_txt s .i64 (k : Int) k rfl hlt wr
      rw [zero_step hlt] at hr
      have HK1 : Hid (k + 1 ≤ s.length) := hlt
      have u2 : Hid (wrap64 ((k : Int) + 1) = ((k + 1 : Nat) : Int)) := show _ = _ from w64 (by omega) (by omega)
      generalize s.getD k 0 = c at *
      by_cases hc : c = 0
      · have e1 : ((c.toNat : Int) == 0) = true := by rw [hc]; rfl
        have HE : Hid (R = true) := show _ = _ from hr.trans (by rw [hc]; rfl)
        clear hr hc hk hl
        go_wp2_with fail
        go_ret
        exact ⟨by rw [HE.out]; rfl, rfl⟩
      · have e1 : ((c.toNat : Int) == 0) = false := beq_eq_false_iff_ne.2 (fun h => hc (by
          have h2 : c.toNat = 0 := by omega
          exact UInt8.toNat_inj.1 h2))
        have HE : Hid (R = zeroB (s.drop (k + 1))) := show _ = _ from hr.trans (by rw [show (c == 0) = false from beq_eq_false_iff_ne.2 hc]; rfl)
        clear hr hc hk hl
        go_wp2_with fail
        go_roundw
        case rel => exact ⟨trivial, k + 1, HK1.out, by first | rfl | rw [u2.out], HE.out⟩
        case measure => (try rw [u2.out]); have := HK1.out; simp [natV]; omega
    · obtain rfl : k = s.length := by omega
      have d1 : decide ((s.length : Int) < (s.length : Int)) = false := decide_eq_false (by omega)
      have d1n : decide (s.length < s.length) = false := decide_eq_false (by omega)
      have HE : Hid (R = false) := show _ = _ by rw [hr, List.drop_length]; rfl
      clear hr hlt hk hl
      go_wp2_with fail
      go_ret
      exact ⟨by rw [HE.out]; rfl, rfl⟩
/-- May a text be a Name? -/
def namedB (s : List UInt8) : Bool := wholeB s && !zeroB s
set_option maxHeartbeats 1000000 in
theorem refNamed_any (s : List UInt8) (hs : s.length ≤ 100000000) (w : World) :
    Calls Tryd.prog 44 #[.string ⟨s.toArray⟩] w fun e w' => e = .returned (.bool (namedB s)) ∧ Below w.heap.size w w' := by
  have cW := Lib.hid fun w => refWhole_any s hs w
  have cZ := Lib.hid fun w => refZero_any s (Nat.le_trans hs (by decide)) w
  obtain ⟨R, hR⟩ : ∃ R, R = namedB s := ⟨_, rfl⟩
  rw [← hR]
  unfold namedB at hR
  generalize wholeB s = a at *
  generalize zeroB s = b at *
  have HR := Lib.hid hR
  clear hR hs
  cases a <;> cases b
  all_goals
    go_enter Tryd.func44, Tryd.ntmps44
    go_wp2_with fail
    refine (cW.out _).mono ?_
    rintro e w1 ⟨rfl, B1⟩
    have HB := Lib.hid B1
    clear B1 cW
    go_wp2_with (go_at_call 55; (with_reducible refine (cZ.out _).mono ?_); rintro e w5 ⟨rfl, hw⟩; subst w5)
    go_ret
    exact ⟨by rw [HR.out]; rfl, HB.out⟩
end Go.Proofs.YtfpocpmcoobjkaaDoor
