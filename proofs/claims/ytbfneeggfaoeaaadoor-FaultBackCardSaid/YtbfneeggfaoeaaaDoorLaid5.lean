/-
  What the package-level variables hold that the calls read: the names, the powers of ten, some number of the library's; no condition beyond what each lemma asks.
-/
import Derived.Test.YtbfneeggfaoeaaaDoorShelf5
namespace Go.Proofs.YtbfneeggfaoeaaaDoor
open Go.RowKit

/-- The names as cells. -/
def nameCells : Array Value := #[.string ⟨#[79, 75]⟩, .string ⟨#[69, 65, 82, 71]⟩, .string ⟨#[69, 83, 72, 79, 82, 84]⟩, .string ⟨#[69, 70, 79, 82, 77]⟩, .string ⟨#[69, 84, 69, 88, 84]⟩, .string ⟨#[69, 75, 73, 78, 68]⟩, .string ⟨#[69, 76, 69, 78]⟩, .string ⟨#[69, 77, 79, 82, 69]⟩, .string ⟨#[69, 68, 69, 69, 80]⟩, .string ⟨#[69, 83, 73, 90, 69]⟩, .string ⟨#[69, 78, 85, 77]⟩, .string ⟨#[69, 87, 82, 65, 80]⟩, .string ⟨#[69, 77, 65, 80]⟩]
theorem nameCells_at_fin : ∀ i : Fin 13, nameCells[i.val]? = some (.string ⟨(nameAt i.val).toArray⟩) := by
  intro i
  rcases i with ⟨i, h⟩
  rcases (by omega : i = 0 ∨ i = 1 ∨ i = 2 ∨ i = 3 ∨ i = 4 ∨ i = 5 ∨ i = 6 ∨ i = 7 ∨ i = 8 ∨ i = 9 ∨ i = 10 ∨ i = 11 ∨ i = 12) with rfl | rfl | rfl | rfl | rfl | rfl | rfl | rfl | rfl | rfl | rfl | rfl | rfl <;> rfl
theorem nameCells_at {i : Nat} (h : i < 13) : nameCells[i]? = some (.string ⟨(nameAt i).toArray⟩) := nameCells_at_fin ⟨i, h⟩

/-- What the calls of this layer lean on. -/
structure Laid (w : World) : Prop where
  names : ∀ i, i < 13 → w.cell? ⟨0, i, none⟩ = some (.string ⟨(nameAt i).toArray⟩)
  pows : Pows w
  most : ∃ m, w.cell? ⟨1, 0, none⟩ = some (.int .i64 m)
  size : 5 ≤ w.heap.size

theorem gNames : Tryd.prog.globalNamed "propylon/fault.names" = some 0 := by kernel_rfl
theorem gPows : Tryd.prog.globalNamed "internal/strconv.uint64pow10" = some 2 := by kernel_rfl
theorem Laid.on {B : Nat} {w w' : World} (h : Laid w) (hb : Below B w w') (hB : 5 ≤ B) : Laid w' where
  names := fun i hi => (hb.cell (p := ⟨0, i, none⟩) (Nat.lt_of_lt_of_le (show 0 < 5 by decide) hB)).trans (h.names i hi)
  pows := by
    have h1 := h.pows
    unfold Pows Lib.TabIs World.var? at *
    rw [gPows] at *
    simp only [Option.bind_some] at *
    rw [hb.block _ (by omega)]
    exact h1
  most := by
    obtain ⟨m, hm⟩ := h.most
    exact ⟨m, (hb.cell (p := ⟨1, 0, none⟩) (Nat.lt_of_lt_of_le (show 1 < 5 by decide) hB)).trans hm⟩
  size := Nat.le_trans h.size hb.size
theorem Laid.drewN {w : World} (h : Laid w) (n : Nat) : Laid (w.drewN n) := h.on (B := 5) ⟨rfl, rfl, rfl, Nat.le_refl _, fun _ _ => rfl⟩ (Nat.le_refl _)

end Go.Proofs.YtbfneeggfaoeaaaDoor
