/-
  What deci's fits, expAt, Split, Join and Plain do; for all bits, all coefficients below 2^128 and all exponents of an int; no other condition.
-/
import Derived.Test.YtkkoefiennccoaaDoorRefK14
import Derived.Laws.BitsAllLaws
import Derived.Laws.BitsLemmas
namespace Go.Proofs.YtkkoefiennccoaaDoor
set_option maxRecDepth 100000
open Go.RowKit
set_option maxHeartbeats 400000 in
theorem fits_core (c1 c0 r : Int) (b : Bool) (w : World)
    (cC : Hid (∀ w, Calls Tryd.prog 34 #[.agg #[.int .u64 c1, .int .u64 c0], .agg #[.int .u64 542101086242752, .int .u64 4003012203950112768]] w fun e w' => e = .returned (.int .i64 r) ∧ Below w.heap.size w w')) (hr : decide (r < 0) = b) :
    Calls Tryd.prog 19 #[.agg #[.int .u64 c1, .int .u64 c0]] w fun e w' => e = .returned (.bool b) ∧ Below w.heap.size w w' := by
  go_enter Tryd.func19, Tryd.ntmps19
  go_wp2_with fail
  refine (cC.out _).mono ?_
  rintro e w1 ⟨rfl, B1⟩
  have HB := Lib.hid (low_a (Below.refl _ _) B1)
  clear B1 cC
  go_wp2_with fail
  go_ret
  exact ⟨by first | rfl | (simp; done), HB.out⟩
theorem fits_any (c : Nat) (w : World) : Calls Tryd.prog 19 #[wv c] w fun e w' => e = .returned (.bool (decide (c < 10000000000000000000000000000000000))) ∧ Below w.heap.size w w' := by
  refine fits_core _ _ _ _ w (Lib.hid fun w => cmp_any c 10000000000000000000000000000000000 w) ?_
  unfold cmpI
  by_cases q : c < 10000000000000000000000000000000000
  · rw [if_pos q, decide_eq_true q]; rfl
  · rw [if_neg q, decide_eq_false q]
    split <;> rfl
set_option maxHeartbeats 400000 in
theorem exp47 (X D F x : Int) (w : World) (hD : X / 140737488355328 = D) (hG : bits .and .u64 D 16383 = F) (hF1 : wrap64 F = F) (hx : wrap64 (F - 6176) = x) :
    Calls Tryd.prog 28 #[.int .u64 X, .int .i64 47] w fun e w' => e = .returned (.int .i64 x) ∧ w = w' := by
  go_enter Tryd.func28, Tryd.ntmps28
  go_wp2_with fail
  go_ret
  exact ⟨by first | rfl | (rw [← hx]; rfl), rfl⟩
set_option maxHeartbeats 400000 in
theorem exp49 (X D F x : Int) (w : World) (hD : X / 562949953421312 = D) (hG : bits .and .u64 D 16383 = F) (hF1 : wrap64 F = F) (hx : wrap64 (F - 6176) = x) :
    Calls Tryd.prog 28 #[.int .u64 X, .int .i64 49] w fun e w' => e = .returned (.int .i64 x) ∧ w = w' := by
  go_enter Tryd.func28, Tryd.ntmps28
  go_wp2_with fail
  go_ret
  exact ⟨by first | rfl | (rw [← hx]; rfl), rfl⟩
end Go.Proofs.YtkkoefiennccoaaDoor
