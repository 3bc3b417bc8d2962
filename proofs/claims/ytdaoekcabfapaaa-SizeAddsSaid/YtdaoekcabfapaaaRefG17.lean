/-
  What the document's longer does (chapter 17): a path and one number more; no condition but bounds.
-/
import Derived.Test.YtdaoekcabfapaaaTreeAt
import Derived.Test.YtdaoekcabfapaaaRefA17
import Derived.Test.YtdaoekcabfapaaaOwnRow

namespace Go.Proofs.Ytdaoekcabfapaaa
set_option maxRecDepth 100000
open Go.RowKit
theorem info_int : (Try.prog.info? 3).map (fun i => (i.zero, i.size, i.bytes)) = some (some (.int .i64 0), 1, 8) := by kernel_rfl
theorem Ints.cellsAt {w : World} {M : Nat → Prop} {A : Option Addr} {n : Nat} {xs : List Int} (h : Ints w M A n xs) (hn : 0 < n) : ∃ ad, A = some ad ∧ ∀ j v, (intCells xs)[j]? = some v → w.cell? (ad.add j) = some v := by
  obtain ⟨b, o, e, _, hc⟩ := h.2 hn
  refine ⟨_, e, fun j v hj => ?_⟩
  have hl : j < xs.length := by
    have := (List.getElem?_eq_some_iff.1 hj).1
    simpa [intCells] using this
  rw [Addr.add_lit, hc j (by have := h.1; omega), ← hj]
  simp [intCells, List.getD, hl]
theorem own_ints_new {w : World} {base n c : Nat} {e : TypeId} {A : Option Addr} {xs : List Int} (h : w.ownsRow base e 1 (.slice A n c) n (intCells xs)) : Ints w (fun b => base ≤ b ∧ b < w.heap.size) A n xs := by
  have hl : xs.length = n := by have := h.1; simp [intCells] at this; omega
  refine ⟨hl, fun hn => ?_⟩
  obtain ⟨g, e, hb, hlt, hc⟩ := own_cell h hn
  refine ⟨g, 0, e, ⟨hb, hlt⟩, fun i hi => ?_⟩
  rw [Nat.zero_add, hc i hi]
  have : i < xs.length := by omega
  simp [intCells, List.getD, this]
theorem Ints.weaken {w : World} {M M' : Nat → Prop} {A : Option Addr} {n : Nat} {xs : List Int} (h : Ints w M A n xs) (hk : ∀ k, M k → M' k) : Ints w M' A n xs :=
  ⟨h.1, fun hn => by
    obtain ⟨b, o, e, hm, hc⟩ := h.2 hn
    exact ⟨b, o, e, hk b hm, hc⟩⟩
end Go.Proofs.Ytdaoekcabfapaaa
