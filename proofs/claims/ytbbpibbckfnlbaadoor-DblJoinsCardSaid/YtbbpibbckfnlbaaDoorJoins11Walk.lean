/-
  The law DblJoins, walked: it returns true and writes nothing that was there; for all numbers.
-/
import Derived.Test.YtbbpibbckfnlbaaDoorAwake11
import Derived.Test.YtbbpibbckfnlbaaDoorRefJ11
namespace Go.Proofs.YtbbpibbckfnlbaaDoor
open Go.RowKit

set_option maxHeartbeats 1000000 in
theorem joins_walk (s : Bool) (m e : Int) (p : Nat) (b : Bool) (w : World)
    (cJ : Hid (∀ w, Laid w → Calls Tryd.prog 7 #[.bool s, .int .u64 m, .int .i64 e] w fun r w' => r = .returned (.tuple #[.int .u64 (p : Int), .bool b]) ∧ w' = w)) (hL : Hid (Laid w))
    (cR : Hid (∀ w, Calls Tryd.prog 8 #[.bool s, .int .u64 m, .int .i64 e] w fun r w' => r = .returned (.tuple #[.int .u64 (p : Int), .bool b]) ∧ w' = w)) :
    Calls Tryd.prog 3 #[.bool s, .int .u64 m, .int .i64 e] w fun r w' => r = .returned (.bool true) ∧ Below w.heap.size w w' := by
  go_enter Tryd.func3, Tryd.ntmps3
  go_wp2_with fail
  refine (awake_any _).mono ?_
  rintro r w1 ⟨rfl, hw⟩; subst w1
  go_wp2_with fail
  refine (cJ.out _ hL.out).mono ?_
  rintro r w1 ⟨rfl, hw⟩; subst w1
  go_wp2_with fail
  refine (cR.out _).mono ?_
  rintro r w1 ⟨rfl, hw⟩; subst w1
  go_wp2_with fail
  go_ret
  exact ⟨by simp, Below.refl _ _⟩

theorem joins_any (s : Bool) (m e : Int) (hm : 0 ≤ m ∧ m ≤ 18446744073709551615) (w : World) (hL : Laid w) :
    Calls Tryd.prog 3 #[.bool s, .int .u64 m, .int .i64 e] w fun r w' => r = .returned (.bool true) ∧ Below w.heap.size w w' := by
  obtain ⟨n, rfl⟩ : ∃ n : Nat, m = (n : Int) := ⟨m.toNat, by omega⟩
  exact joins_walk s n e _ _ w (Lib.hid fun w hL => join_any s n e (by omega) w hL) (Lib.hid hL) (Lib.hid fun w => refJoin_any s n e (by omega) w)

end Go.Proofs.YtbbpibbckfnlbaaDoor
