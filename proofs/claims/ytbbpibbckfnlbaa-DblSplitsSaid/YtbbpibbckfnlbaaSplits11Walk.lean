/-
  The law DblSplits, walked: it returns true and writes nothing that was there; for all patterns.
-/
import Derived.Test.YtbbpibbckfnlbaaAwake11
namespace Go.Proofs.Ytbbpibbckfnlbaa
open Go.RowKit

set_option maxHeartbeats 1000000 in
theorem splits_walk (x k m e : Int) (s : Bool) (w : World)
    (c1 : Hid (∀ w, Calls Try.prog 7 #[.int .u64 x] w fun r w' => r = .returned (.tuple #[.int .i64 k, .bool s, .int .u64 m, .int .i64 e]) ∧ w' = w))
    (c2 : Hid (∀ w, Calls Try.prog 8 #[.int .u64 x] w fun r w' => r = .returned (.tuple #[.int .i64 k, .bool s, .int .u64 m, .int .i64 e]) ∧ w' = w)) :
    Calls Try.prog 3 #[.int .u64 x] w fun r w' => r = .returned (.bool true) ∧ Below w.heap.size w w' := by
  go_enter Try.func3, Try.ntmps3
  go_wp2_with fail
  refine (awake_any _).mono ?_
  rintro r w1 ⟨rfl, hw⟩; subst w1
  go_wp2_with fail
  refine (c1.out _).mono ?_
  rintro r w1 ⟨rfl, hw⟩; subst w1
  go_wp2_with fail
  refine (c2.out _).mono ?_
  rintro r w1 ⟨rfl, hw⟩; subst w1
  go_wp2_with fail
  go_ret
  exact ⟨by simp, Below.refl _ _⟩

theorem splits_any (x : Int) (hx : 0 ≤ x ∧ x ≤ 18446744073709551615) (w : World) :
    Calls Try.prog 3 #[.int .u64 x] w fun r w' => r = .returned (.bool true) ∧ Below w.heap.size w w' := by
  obtain ⟨n, rfl⟩ : ∃ n : Nat, x = (n : Int) := ⟨x.toNat, by omega⟩
  obtain ⟨s, r, hr, rfl⟩ := pat_parts (x := n) (by omega)
  exact splits_walk _ _ _ _ s w (Lib.hid fun w => split_any s r hr w) (Lib.hid fun w => refSplit_any s r hr w)

end Go.Proofs.Ytbbpibbckfnlbaa
