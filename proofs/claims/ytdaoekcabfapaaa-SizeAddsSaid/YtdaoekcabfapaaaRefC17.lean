/-
  A row of numbers in a later world; no condition.
-/
import Derived.Test.YtdaoekcabfapaaaRefG17
import Derived.Test.YtdaoekcabfapaaaBookV17

namespace Go.Proofs.Ytdaoekcabfapaaa
set_option maxRecDepth 100000
open Go.RowKit
theorem Ints.on {w w' : World} {A : Option Addr} {n : Nat} {xs : List Int} (h : Ints w (· < w.heap.size) A n xs) (hB : Below w.heap.size w w') : Ints w' (· < w'.heap.size) A n xs :=
  (h.keep (fun k hk => hB.block k hk)).weaken (fun _ hk => Nat.lt_of_lt_of_le hk hB.size)
end Go.Proofs.Ytdaoekcabfapaaa
