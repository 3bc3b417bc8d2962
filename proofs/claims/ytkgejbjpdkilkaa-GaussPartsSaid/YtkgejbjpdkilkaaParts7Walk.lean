/-
  The law GaussParts, walked: it returns true and writes nothing that was there; for all parts.
-/
import Derived.Test.YtkgejbjpdkilkaaAwake7
namespace Go.Proofs.Ytkgejbjpdkilkaa
open Go.RowKit

theorem great_0 : Great 0 := ⟨by decide, by decide⟩

set_option maxHeartbeats 400000 in
theorem parts7_any (a b : Int) (w : World) : Calls Try.prog 3 #[.int .i64 a, .int .i64 b] w fun e w' => e = .returned (.bool true) ∧ Below w.heap.size w w' := by
  by_cases h : Small a ∧ Small b
  · obtain ⟨sa, sb⟩ := h
    have cO := Lib.hid (of_small sa sb)
    have cP := Lib.hid (parts_yes (whole_int_small sa) (whole_int_small sb) sa.great sb.great)
    have cA := Lib.hid (small_yes sa)
    have cB := Lib.hid (small_yes sb)
    clear sa sb
    go_enter Try.func3, Try.ntmps3
    go_wp2_with fail
    refine (awake_any _).mono ?_
    rintro e w1 ⟨rfl, hw⟩; subst w1
    go_wp2_with fail
    refine (cO.out _).mono ?_
    rintro e w1 ⟨rfl, hw⟩; subst w1
    go_wp2_with fail
    refine (cP.out _).mono ?_
    rintro e w1 ⟨rfl, hw⟩; subst w1
    go_wp2_with fail
    refine (cA.out _).mono ?_
    rintro e w1 ⟨rfl, hw⟩; subst w1
    go_wp2_with fail
    refine (cB.out _).mono ?_
    rintro e w1 ⟨rfl, hw⟩; subst w1
    go_wp2_with fail
    go_ret
    exact ⟨by simp, Below.refl _ _⟩
  · have cO := Lib.hid (of_else h)
    have cP := Lib.hid (parts_yes whole_0 whole_0 great_0 great_0)
    by_cases sa : Small a
    · have cA := Lib.hid (small_yes sa)
      have cB := Lib.hid (small_no (fun sb => h ⟨sa, sb⟩))
      clear sa h
      go_enter Try.func3, Try.ntmps3
      go_wp2_with fail
      refine (awake_any _).mono ?_
      rintro e w1 ⟨rfl, hw⟩; subst w1
      go_wp2_with fail
      refine (cO.out _).mono ?_
      rintro e w1 ⟨rfl, hw⟩; subst w1
      go_wp2_with fail
      refine (cP.out _).mono ?_
      rintro e w1 ⟨rfl, hw⟩; subst w1
      go_wp2_with fail
      refine (cA.out _).mono ?_
      rintro e w1 ⟨rfl, hw⟩; subst w1
      go_wp2_with fail
      refine (cB.out _).mono ?_
      rintro e w1 ⟨rfl, hw⟩; subst w1
      go_wp2_with fail
      go_ret
      exact ⟨rfl, Below.refl _ _⟩
    · have cA := Lib.hid (small_no sa)
      clear sa h
      go_enter Try.func3, Try.ntmps3
      go_wp2_with fail
      refine (awake_any _).mono ?_
      rintro e w1 ⟨rfl, hw⟩; subst w1
      go_wp2_with fail
      refine (cO.out _).mono ?_
      rintro e w1 ⟨rfl, hw⟩; subst w1
      go_wp2_with fail
      refine (cP.out _).mono ?_
      rintro e w1 ⟨rfl, hw⟩; subst w1
      go_wp2_with fail
      refine (cA.out _).mono ?_
      rintro e w1 ⟨rfl, hw⟩; subst w1
      go_wp2_with fail
      go_ret
      exact ⟨rfl, Below.refl _ _⟩

end Go.Proofs.Ytkgejbjpdkilkaa
