/-
  The law's first question (what the document's example tells) is answered true. No condition.
-/
import Derived.Test.YtbbpibbckfnlbaaDblA
namespace Go.Proofs.Ytbbpibbckfnlbaa
open Go.RowKit

set_option maxHeartbeats 1000000 in
theorem awake_any (w : World) : Calls Try.prog 6 #[] w fun e w' => e = .returned (.bool true) ∧ w' = w := by
  have cS : Hid (∀ w, Calls Try.prog 7 #[.int .u64 4609434218613702656] w fun r w' => r = .returned (.tuple #[.int .i64 2, .bool false, .int .u64 6755399441055744, .int .i64 (-52)]) ∧ w' = w) := fun w => split_any false 4609434218613702656 (by decide) w
  go_enter Try.func6, Try.ntmps6
  go_wp2_with fail
  refine (cS.out _).mono ?_
  rintro e w1 ⟨rfl, hw⟩; subst w1
  go_wp2_with fail
  go_ret
  exact ⟨rfl, rfl⟩

end Go.Proofs.Ytbbpibbckfnlbaa
