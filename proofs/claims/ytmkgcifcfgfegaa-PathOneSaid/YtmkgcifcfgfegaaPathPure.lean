/-
  Laws of cells that the walks of chapter 18 use; no condition beyond what each asks.
-/
import Derived.Test.YtmkgcifcfgfegaaPathMath
import Derived.Test.YtmkgcifcfgfegaaLib18
namespace Go.Proofs.Ytmkgcifcfgfegaa
open Go.RowKit

theorem two_new2 (w : World) (o1 o2 : Obj) : Below w.heap.size w ((w.alloc o1).alloc o2) := ((Below.refl _ _).alloc (Nat.le_refl _) _).alloc (by simp) _
theorem heap_two2 (w : World) (o1 o2 : Obj) : ((w.alloc o1).alloc o2).heap[w.heap.size + 1]? = some o2 := by
  have := heap_alloc_new (w.alloc o1) o2
  simpa using this
theorem nine_set {w : World} {g : Nat} {a b c d e f x y z A B C D E F X Y Z : Value} {t : TypeId} (h : w.heap[g]? = some (.cells #[a, b, c, d, e, f, x, y, z] t (0, 0))) :
    (((((((((w.setCell ⟨g, 0, none⟩ A).setCell ⟨g, 1, none⟩ B).setCell ⟨g, 2, none⟩ C).setCell ⟨g, 3, none⟩ D).setCell ⟨g, 4, none⟩ E).setCell ⟨g, 5, none⟩ F).setCell ⟨g, 6, none⟩ X).setCell ⟨g, 7, none⟩ Y).setCell ⟨g, 8, none⟩ Z).heap[g]? = some (.cells #[A, B, C, D, E, F, X, Y, Z] t (0, 0)) := by
  have q := (block_set (block_set (block_set (block_set (block_set (block_set (block_set (block_set (block_set h 0 A) 1 B) 2 C) 3 D) 4 E) 5 F) 6 X) 7 Y) 8 Z)
  simpa only [List.setIfInBounds_toArray, List.set_cons_zero, List.set_cons_succ] using q
theorem block_keep1 {w : World} {g k : Nat} (hne : ¬ k = g) (i : Nat) (u : Value) : (w.setCell ⟨k, i, none⟩ u).heap[g]? = w.heap[g]? := by
  simp [World.setCell, Array.getElem?_modify, hne]
theorem keep_nine {w : World} {g k : Nat} (hne : ¬ g = k) (A C D E F G X Y Z : Value) : (((((((((w.setCell ⟨g, 0, none⟩ A).setCell ⟨g, 1, none⟩ C).setCell ⟨g, 2, none⟩ D).setCell ⟨g, 3, none⟩ E).setCell ⟨g, 4, none⟩ F).setCell ⟨g, 5, none⟩ G).setCell ⟨g, 6, none⟩ X).setCell ⟨g, 7, none⟩ Y).setCell ⟨g, 8, none⟩ Z).heap[k]? = w.heap[k]? := by
  rw [block_keep1 hne, block_keep1 hne, block_keep1 hne, block_keep1 hne, block_keep1 hne, block_keep1 hne, block_keep1 hne, block_keep1 hne, block_keep1 hne]
theorem below_nine {a w : World} {B g : Nat} (h : Below B a w) (hg : B ≤ g) (A C D E F G X Y Z : Value) : Below B a (((((((((w.setCell ⟨g, 0, none⟩ A).setCell ⟨g, 1, none⟩ C).setCell ⟨g, 2, none⟩ D).setCell ⟨g, 3, none⟩ E).setCell ⟨g, 4, none⟩ F).setCell ⟨g, 5, none⟩ G).setCell ⟨g, 6, none⟩ X).setCell ⟨g, 7, none⟩ Y).setCell ⟨g, 8, none⟩ Z) := (((((((((h.setCell (p := ⟨g, 0, none⟩) hg A).setCell (p := ⟨g, 1, none⟩) hg C).setCell (p := ⟨g, 2, none⟩) hg D).setCell (p := ⟨g, 3, none⟩) hg E).setCell (p := ⟨g, 4, none⟩) hg F).setCell (p := ⟨g, 5, none⟩) hg G).setCell (p := ⟨g, 6, none⟩) hg X).setCell (p := ⟨g, 7, none⟩) hg Y).setCell (p := ⟨g, 8, none⟩) hg Z)
theorem results_row2 {fn : Func} {p u : Tmp} {ty : TypeId} (h : fn.results = #[.cell p ty, .tmp u]) (tmps : Array Value) {P : Program} (w : World) (g : Nat) (cs : Array Value)
    (hp : tmps.getD p undef = .pointer (some ⟨g, 0, none⟩)) (hl : (loadVar ty ⟨g, 0, none⟩).run P w = .ok (.agg cs) w) :
    (results fn tmps).run P w = .ok (.tuple #[.agg cs, tmps.getD u undef]) w := by
  rw [results_cell_tmp h, hp]
  simp [asAddr, hl]
end Go.Proofs.Ytmkgcifcfgfegaa
