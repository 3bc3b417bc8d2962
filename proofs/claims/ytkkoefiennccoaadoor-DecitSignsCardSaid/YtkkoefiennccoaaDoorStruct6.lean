/-
  A number of 128 bits that came in, and how cells are kept from call to call; nothing is assumed beyond what each lemma asks.
-/
import Derived.Test.YtkkoefiennccoaaDoorWideG
import Derived.Deep.Fields
import Derived.Deep.Slices
namespace Go.Proofs.YtkkoefiennccoaaDoor
set_option maxRecDepth 100000
open Go.ChangeShapes Go.WideShapes Go.ChangeAt Go.RowKit Go.Deep
section
variable {H : Type} {enc : TypeId × Value → H} {P : Program} {w : World} {base : Nat} {spare : Nat → Bool} {held : Bool}
/-- The cells of a struct, field by field. -/
theorem fields_of {t : TypeId} {fs : Array Field} {fuel : Nat} {cs : List Value} {x : DataW H × List MemPlace} (hs : P.underlying t = some (.struct fs)) (hone : oneCellFields P fs = true) (hC : P.cellsOf t = fs.size)
    (h : DataW.trod enc P w base spare held fuel t cs = some x) :
    cs.length = fs.size ∧ ∃ n, ∀ (i : Nat) (f : Field), fs[i]? = some f → ∃ y, DataW.trod enc P w base spare held n f.type [cs.getD i undef] = some y := by
  obtain ⟨xs, n, _, _, hl, hx, hf⟩ := DataW.trod_struct hs h
  refine ⟨hl.trans hC, n, fun i f hi => ?_⟩
  obtain ⟨ho, hc⟩ := hone_of hone i f hi
  have hlt : i < fs.size := (Array.getElem?_eq_some_iff.1 hi).1
  have h1 := hf i f hi
  rw [ho, hc, take1_drop cs i undef (by omega)] at h1
  exact ⟨xs[i]'(by omega), h1.trans (List.getElem?_eq_getElem (by omega))⟩
/-- A struct by value. -/
theorem agg_of {r : Reach} {b0 : Nat} {t : TypeId} {fs : Array Field} {v : Value} {d : DataW H} {p : List MemPlace} (hs : P.underlying t = some (.struct fs)) (hone : oneCellFields P fs = true) (hC : P.cellsOf t = fs.size)
    (hv : Value.okWide P w r b0 t v) (h : DataW.Trod enc P w base spare held t v d p) :
    ∃ cs : List Value, v = .agg cs.toArray ∧ cs.length = fs.size ∧ ∃ n, ∀ (i : Nat) (f : Field), fs[i]? = some f → ∃ y, DataW.trod enc P w base spare held n f.type [cs.getD i undef] = some y := by
  obtain ⟨cs, rfl, _⟩ := okWide_struct hs hv
  obtain ⟨fuel, hf⟩ := h
  obtain ⟨hl, hn⟩ := fields_of hs hone hC hf
  exact ⟨cs.toList, by simp, hl, hn⟩
end
/-- A number that came in: it is below 2^128, and its two halves are its cells. -/
theorem wide_of {H : Type} {enc : TypeId × Value → H} {w : World} {base : Nat} {spare : Nat → Bool} {held : Bool} {r : Reach} {b0 : Nat} {v : Value} {d : DataW H} {p : List MemPlace}
    (hv : Value.okWide Tryd.prog w r b0 29 v) (h : DataW.Trod enc Tryd.prog w base spare held 29 v d p) :
    ∃ n, n < 340282366920938463463374607431768211456 ∧ v = wv n := by
  obtain ⟨cs, rfl, hl, k, hf⟩ := agg_of Tryd.underlying29 (by kernel_rfl) (by kernel_rfl) hv h
  match cs, hl with
  | [c0, c1], _ =>
    obtain ⟨y0, h0⟩ := hf 0 _ rfl
    obtain ⟨y1, h1⟩ := hf 1 _ rfl
    obtain ⟨n, e0, _, wn⟩ := DataW.trod_int Tryd.underlying22 h0
    obtain ⟨x, e1, _, wx⟩ := DataW.trod_int Tryd.underlying22 h1
    simp only [List.getD_cons_succ, List.getD_cons_zero, List.cons.injEq, and_true] at e0 e1
    subst e0
    subst e1
    obtain ⟨a, b⟩ := Go.bounds_u64 wn
    obtain ⟨c, d⟩ := Go.bounds_u64 wx
    refine ⟨n.toNat * 18446744073709551616 + x.toNat, by omega, ?_⟩
    have en : n = (((n.toNat * 18446744073709551616 + x.toNat) / 18446744073709551616 : Nat) : Int) := by omega
    have ex : x = (((n.toNat * 18446744073709551616 + x.toNat) % 18446744073709551616 : Nat) : Int) := by omega
    unfold wv
    rw [← en, ← ex]
theorem nat_u64 {x : Int} (h : (Lit.int .u64 x).wf = true) : ∃ n : Nat, n < 18446744073709551616 ∧ x = (n : Int) := by
  obtain ⟨a, b⟩ := Go.bounds_u64 h
  exact ⟨x.toNat, by omega, by omega⟩
theorem keep_p {V w' : World} {p : Addr} {v : Value} (h : V.cell? p = some v) (B : Below V.heap.size V w') : w'.cell? p = some v := (B.cell (cell_lt h)).trans h
theorem keep_a {V w' : World} {o : Obj} {p : Addr} {v : Value} (h : V.cell? p = some v) (B : Below (V.alloc o).heap.size (V.alloc o) w') : w'.cell? p = some v := keep_p (cell_past o h) B
theorem keep_n {V w' : World} {x y : Value} {t : TypeId} (B : Below (V.alloc (.cells #[x, y] t)).heap.size (V.alloc (.cells #[x, y] t)) w') : w'.cell? ⟨V.heap.size, 0, none⟩ = some x ∧ w'.cell? ⟨V.heap.size, 1, none⟩ = some y :=
  ⟨keep_p (by simp [go_sem]) B, keep_p (by simp [go_sem]) B⟩
theorem low_a {w V w' : World} {o : Obj} (h : Below w.heap.size w V) (B : Below (V.alloc o).heap.size (V.alloc o) w') : Below w.heap.size w w' := (h.alloc h.size o).trans (B.mono (h.alloc h.size o).size)
theorem low_p {w V w' : World} (h : Below w.heap.size w V) (B : Below V.heap.size V w') : Below w.heap.size w w' := h.trans (B.mono h.size)
end Go.Proofs.YtkkoefiennccoaaDoor
