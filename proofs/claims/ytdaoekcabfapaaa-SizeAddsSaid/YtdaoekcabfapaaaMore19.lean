/-
  How a list's size grows with one Kid more (chapter 19): pure.
-/
import Derived.Test.YtdaoekcabfapaaaSizeMath
namespace Go.Proofs.Ytdaoekcabfapaaa

theorem sizeO_more (o : OwnV) (a b : Nat) (hk : o.kind = 3 ∨ o.kind = 4 ∨ o.kind = 15) : sizeO o (a + b) = sizeO o a + b := by
  rcases hk with h | h | h <;> simp [sizeO, h] <;> omega
theorem size_more {o : OwnV} {l : List Kid} (nm : List UInt8) (t : Tree) (hk : o.kind = 3 ∨ o.kind = 4 ∨ o.kind = 15) : sizeT (.node o (l ++ [(nm, t)])) = sizeT (.node o l) + nm.length + 2 + sizeT t := by
  rw [sizeT, sizeT, sizeK_snoc, show sizeK l + nm.length + 2 + sizeT t = sizeK l + (nm.length + 2 + sizeT t) by omega, sizeO_more o _ _ hk]
  omega
end Go.Proofs.Ytdaoekcabfapaaa
