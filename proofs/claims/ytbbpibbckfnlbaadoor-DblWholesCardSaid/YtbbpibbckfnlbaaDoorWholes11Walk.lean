/-
  The law DblWholes, walked: it returns true and writes nothing that was there; for all patterns and numbers.
-/
import Derived.Test.YtbbpibbckfnlbaaDoorAwake11
import Derived.Test.YtbbpibbckfnlbaaDoorRefJ11
import Derived.Test.YtbbpibbckfnlbaaDoorRefW11
namespace Go.Proofs.YtbbpibbckfnlbaaDoor
open Go.RowKit

set_option maxHeartbeats 1000000 in
theorem wholes_walk (x v a : Int) (p : Nat) (b c : Bool) (w : World)
    (c1 : Hid (∀ w, Laid w → Calls Tryd.prog 9 #[.int .u64 x] w fun r w' => r = .returned (.tuple #[.int .i64 a, .bool b]) ∧ w' = w)) (hL : Hid (Laid w))
    (c2 : Hid (∀ w, Calls Tryd.prog 10 #[.int .u64 x] w fun r w' => r = .returned (.tuple #[.int .i64 a, .bool b]) ∧ w' = w))
    (c3 : Hid (∀ w, Laid w → Calls Tryd.prog 11 #[.int .i64 v] w fun r w' => r = .returned (.tuple #[.int .u64 (p : Int), .bool c]) ∧ w' = w))
    (c4 : Hid (∀ w, Calls Tryd.prog 12 #[.int .i64 v] w fun r w' => r = .returned (.tuple #[.int .u64 (p : Int), .bool c]) ∧ w' = w)) :
    Calls Tryd.prog 4 #[.int .u64 x, .int .i64 v] w fun r w' => r = .returned (.bool true) ∧ Below w.heap.size w w' := by
  go_enter Tryd.func4, Tryd.ntmps4
  go_wp2_with fail
  refine (awake_any _).mono ?_
  rintro r w1 ⟨rfl, hw⟩; subst w1
  go_wp2_with fail
  refine (c1.out _ hL.out).mono ?_
  rintro r w1 ⟨rfl, hw⟩; subst w1
  go_wp2_with fail
  refine (c2.out _).mono ?_
  rintro r w1 ⟨rfl, hw⟩; subst w1
  go_wp2_with fail
  refine (c3.out _ hL.out).mono ?_
  rintro r w1 ⟨rfl, hw⟩; subst w1
  go_wp2_with fail
  refine (c4.out _).mono ?_
  rintro r w1 ⟨rfl, hw⟩; subst w1
  go_wp2_with fail
  go_ret
  exact ⟨by simp, Below.refl _ _⟩

theorem wholes_any (x v : Int) (hx : 0 ≤ x ∧ x ≤ 18446744073709551615) (hv : -9223372036854775808 ≤ v ∧ v ≤ 9223372036854775807) (w : World) (hL : Laid w) :
    Calls Tryd.prog 4 #[.int .u64 x, .int .i64 v] w fun r w' => r = .returned (.bool true) ∧ Below w.heap.size w w' := by
  obtain ⟨n, rfl⟩ : ∃ n : Nat, x = (n : Int) := ⟨x.toNat, by omega⟩
  obtain ⟨s, r, hr, rfl⟩ := pat_parts (x := n) (by omega)
  exact wholes_walk _ v _ _ _ _ w (Lib.hid fun w hL => whole_any s r hr w hL) (Lib.hid hL) (Lib.hid fun w => refWhole_any s r hr w) (Lib.hid fun w hL => of_any v hv w hL) (Lib.hid fun w => ofInt_any v hv w)

end Go.Proofs.YtbbpibbckfnlbaaDoor
