/-
  []byte(s): the row of bytes that it lays, read and written; no condition beyond what each lemma asks.
-/
import Derived.Test.YtfpocpmcoobjkaaDoorBase
import Derived.Laws.IdiomStrings
namespace Go.Proofs.YtfpocpmcoobjkaaDoor
open Go.RowKit

/-- Block g holds the bytes bs ahead of whatever else, and nothing of them is frozen. -/
def RowAt (w : World) (g : Nat) (bs : List UInt8) : Prop :=
  ∃ (rest : List Value) (fr : Nat × Nat), w.heap[g]? = some (.cells (cellsOf bs ++ rest).toArray 5 fr) ∧ bs.length ≤ fr.1
theorem RowAt.lt {w : World} {g : Nat} {bs : List UInt8} (h : RowAt w g bs) : g < w.heap.size := by
  obtain ⟨_, _, hg, _⟩ := h
  exact block_lt hg
theorem RowAt.cell {w : World} {g : Nat} {bs : List UInt8} (h : RowAt w g bs) {i : Nat} (hi : i < bs.length) : w.cell? ⟨g, i, none⟩ = some (.int .u8 ((bs.getD i 0).toNat : Int)) := by
  obtain ⟨rest, fr, hg, _⟩ := h
  rw [block_cell hg, List.getElem?_toArray, List.getElem?_append_left (by rw [cellsOf_length]; exact hi), cellsOf_get bs i hi]
theorem RowAt.frozen {w : World} {g : Nat} {bs : List UInt8} (h : RowAt w g bs) {i : Nat} (hi : i < bs.length) : w.frozen? ⟨g, i, none⟩ = false := by
  obtain ⟨rest, ⟨lo, hi'⟩, hg, hl⟩ := h
  simp only [World.frozen?, hg]
  have : ¬ lo ≤ i := by simp at hl; omega
  simp [this]
theorem RowAt.set {w : World} {g : Nat} {bs : List UInt8} (h : RowAt w g bs) {i : Nat} (hi : i < bs.length) (c : UInt8) : RowAt (w.setCell ⟨g, i, none⟩ (.int .u8 (c.toNat : Int))) g (bs.set i c) := by
  obtain ⟨rest, fr, hg, hl⟩ := h
  refine ⟨rest, fr, ?_, by rw [List.length_set]; exact hl⟩
  rw [block_set hg, List.setIfInBounds_toArray, List.set_append_left _ _ (by rw [cellsOf_length]; exact hi)]
  simp [cellsOf, List.map_set]
theorem RowAt.held {w : World} {g : Nat} {bs : List UInt8} (h : RowAt w g bs) {n : Nat} (hn : bs.length = n) : Held w (· < w.heap.size) (some ⟨g, 0, none⟩) n bs := by
  subst hn
  exact ⟨rfl, fun _ => ⟨g, 0, rfl, h.lt, fun i hi => by rw [Nat.zero_add]; exact h.cell hi⟩⟩
theorem RowAt.keep {w w' : World} {g : Nat} {bs : List UInt8} (h : RowAt w g bs) (hk : w'.heap[g]? = w.heap[g]?) : RowAt w' g bs := by
  obtain ⟨rest, fr, hg, hl⟩ := h
  exact ⟨rest, fr, hk.trans hg, hl⟩
/-- []byte(s). -/
theorem bytes_of_str (u : List UInt8) (w : World) : ∃ c w', (convert 9 23 (.string ⟨u.toArray⟩)).run Tryd.prog w = .ok (.slice (some ⟨w.heap.size, 0, none⟩) u.length c) w' ∧ RowAt w' w.heap.size u ∧ Below w.heap.size w w' := by
  refine ⟨_, _, run_bytes_of_string w 9 23 5 ⟨u.toArray⟩ Tryd.underlying9 Tryd.underlying23 Tryd.underlying5, ?_, ?_⟩
  · obtain ⟨m, hm⟩ : ∃ m, m = grownCap w (⟨u.toArray⟩ : ByteArray).size 0 5 := ⟨_, rfl⟩
    rw [← hm]
    have e : bytesRow ⟨u.toArray⟩ m = (cellsOf u ++ List.replicate (m - u.length) (Value.int .u8 0)).toArray := by
      unfold bytesRow
      simp [cellsOf, ByteArray.size]
    rw [e]
    exact ⟨List.replicate (m - u.length) (Value.int .u8 0), _, heap_alloc_new w.drew _, by simp [cellsOf_length]⟩
  · exact (Below.refl _ _).drew.alloc (Nat.le_refl _) _

end Go.Proofs.YtfpocpmcoobjkaaDoor
