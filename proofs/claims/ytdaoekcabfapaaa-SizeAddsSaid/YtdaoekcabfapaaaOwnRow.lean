/-
  Rows that a call itself made and appended to, read as bytes and as numbers; no condition beyond what each lemma asks.
-/
import Derived.Test.YtdaoekcabfapaaaIsRow
namespace Go.Proofs.Ytdaoekcabfapaaa
open Go.RowKit

theorem own_cell {w : World} {base n c : Nat} {e : TypeId} {A : Option Addr} {zs : List Value} (h : w.ownsRow base e 1 (.slice A n c) n zs) (hn : 0 < n) :
    ∃ g, A = some ⟨g, 0, none⟩ ∧ base ≤ g ∧ g < w.heap.size ∧ ∀ i, i < n → w.cell? ⟨g, i, none⟩ = zs[i]? := by
  rcases h.2 with ⟨_, e⟩ | ⟨g, cap, cur, e, hb, hg, hnc, _, hs, ht⟩
  · omega
  · injection e with e1 e2 e3
    refine ⟨g, e1, hb, block_lt hg, fun i hi => ?_⟩
    rw [block_cell hg, ← ht]
    have hi' : i < cur.size := by omega
    simp [hi, hi']
theorem own_bytes {w : World} {base n c : Nat} {e : TypeId} {A : Option Addr} {bs : List UInt8} (h : w.ownsRow base e 1 (.slice A n c) n (cellsOf bs)) : Held w (· < w.heap.size) A n bs := by
  have hl : bs.length = n := by have := h.1; rw [cellsOf_length] at this; omega
  refine ⟨hl, fun hn => ?_⟩
  obtain ⟨g, e, _, hlt, hc⟩ := own_cell h hn
  refine ⟨g, 0, e, hlt, fun i hi => ?_⟩
  rw [Nat.zero_add, hc i hi, cellsOf_get bs i (by omega)]
/-- Numbers of int. -/
def intCells (xs : List Int) : List Value := xs.map fun x => Value.int .i64 x
theorem intCells_one (xs : List Int) : ∀ u ∈ intCells xs, u.oneCell' = true := by
  intro u hu
  obtain ⟨b, _, rfl⟩ := List.mem_map.1 hu
  rfl
theorem own_ints {w : World} {base n c : Nat} {e : TypeId} {A : Option Addr} {xs : List Int} (h : w.ownsRow base e 1 (.slice A n c) n (intCells xs)) : Ints w (· < w.heap.size) A n xs := by
  have hl : xs.length = n := by have := h.1; simp [intCells] at this; omega
  refine ⟨hl, fun hn => ?_⟩
  obtain ⟨g, e, _, hlt, hc⟩ := own_cell h hn
  refine ⟨g, 0, e, hlt, fun i hi => ?_⟩
  rw [Nat.zero_add, hc i hi]
  have : i < xs.length := by omega
  simp [intCells, List.getD, this]

end Go.Proofs.Ytdaoekcabfapaaa
