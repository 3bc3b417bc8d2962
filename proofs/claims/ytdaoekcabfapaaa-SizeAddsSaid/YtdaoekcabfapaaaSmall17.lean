/-
  What is left of some room, and the book's Place (chapter 17's laws); no condition but bounds.
-/
import Derived.Test.YtdaoekcabfapaaaRefC17

namespace Go.Proofs.Ytdaoekcabfapaaa
set_option maxRecDepth 100000
open Go.RowKit
theorem roomL_each : ∀ (xs : List Nat) (a : Int), -1 ≤ a → 0 ≤ roomL a xs → ∀ x ∈ xs, (x : Int) ≤ a
  | [], _, _, _, x, hx => by cases hx
  | y :: ys, a, h, g, x, hx => by
    rw [roomL] at g
    split at g
    · omega
    · rename_i q
      rcases List.mem_cons.1 hx with rfl | hx
      · omega
      · have := roomL_each ys (a - y) (by omega) g x hx
        omega
end Go.Proofs.Ytdaoekcabfapaaa
