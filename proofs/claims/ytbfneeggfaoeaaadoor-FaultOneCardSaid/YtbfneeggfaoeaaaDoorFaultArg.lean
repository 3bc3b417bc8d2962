/-
  A reason that came in, as a walk is told of it; no condition beyond what each lemma asks.
-/
import Derived.Test.YtbfneeggfaoeaaaDoorFrame5
import Derived.Deep.Fields
import Derived.Deep.Slices
import Derived.ChangeSlices
namespace Go.Proofs.YtbfneeggfaoeaaaDoor
open Go.ChangeShapes Go.WideShapes Go.ChangeAt Go.RowKit Go.Deep

section
variable {H : Type} {enc : TypeId × Value → H} {P : Program} {w : World} {base : Nat} {spare : Nat → Bool} {held : Bool}
/-- The cells of a struct, field by field. -/
theorem fields_of {t : TypeId} {fs : Array Field} {fuel : Nat} {cs : List Value} {x : DataW H × List MemPlace} (hs : P.underlying t = some (.struct fs)) (hone : oneCellFields P fs = true) (hC : P.cellsOf t = fs.size)
    (h : DataW.trod enc P w base spare held fuel t cs = some x) :
    cs.length = fs.size ∧ ∃ n, ∀ (i : Nat) (f : Field), fs[i]? = some f → ∃ y, DataW.trod enc P w base spare held n f.type [cs.getD i undef] = some y := by
  obtain ⟨xs, n, _, _, hl, hx, hf⟩ := DataW.trod_struct hs h
  refine ⟨hl.trans hC, n, fun i f hi => ?_⟩
  obtain ⟨ho, hc⟩ := hone_of hone i f hi
  have hlt : i < fs.size := (Array.getElem?_eq_some_iff.1 hi).1
  have h1 := hf i f hi
  rw [ho, hc, take1_drop cs i undef (by omega)] at h1
  exact ⟨xs[i]'(by omega), h1.trans (List.getElem?_eq_getElem (by omega))⟩
/-- A struct by value. -/
theorem agg_of {r : Reach} {b0 : Nat} {t : TypeId} {fs : Array Field} {v : Value} {d : DataW H} {p : List MemPlace} (hs : P.underlying t = some (.struct fs)) (hone : oneCellFields P fs = true) (hC : P.cellsOf t = fs.size)
    (hv : Value.okWide P w r b0 t v) (h : DataW.Trod enc P w base spare held t v d p) :
    ∃ cs : List Value, v = .agg cs.toArray ∧ cs.length = fs.size ∧ ∃ n, ∀ (i : Nat) (f : Field), fs[i]? = some f → ∃ y, DataW.trod enc P w base spare held n f.type [cs.getD i undef] = some y := by
  obtain ⟨cs, rfl, _⟩ := okWide_struct hs hv
  obtain ⟨fuel, hf⟩ := h
  obtain ⟨hl, hn⟩ := fields_of hs hone hC hf
  exact ⟨cs.toList, by simp, hl, hn⟩
end

/-- What a reason is told by. -/
theorem fault_of {H : Type} {enc : TypeId × Value → H} {w : World} {base : Nat} {held : Bool} {r : Reach} {b0 : Nat} {v : Value} {d : DataW H} {p : List MemPlace}
    (hv : Value.okWide Tryd.prog w r b0 30 v) (h : DataW.Trod enc Tryd.prog w base (fun _ => true) held 30 v d p) :
    ∃ (e a : Int) (A : Option Addr) (n c : Nat) (xs : List Int), v = .agg #[.int .i64 e, .int .i64 a, .slice A n c] ∧ Ints w (· < w.heap.size) A n xs ∧ a ≤ (top : Int) ∧ ∀ x ∈ xs, x ≤ (top : Int) := by
  obtain ⟨cs, rfl, hl, k, hf⟩ := agg_of Tryd.underlying30 (by kernel_rfl) (by kernel_rfl) hv h
  match cs, hl with
  | [c0, c1, c2], _ =>
    obtain ⟨y0, h0⟩ := hf 0 _ rfl
    obtain ⟨y1, h1⟩ := hf 1 _ rfl
    obtain ⟨y2, h2⟩ := hf 2 _ rfl
    obtain ⟨e, e0, _, _⟩ := DataW.trod_int Tryd.underlying23 h0
    obtain ⟨a, e1, _, w1⟩ := DataW.trod_int Tryd.underlying3 h1
    simp only [List.getD_cons_succ, List.getD_cons_zero, List.cons.injEq, and_true] at e0 e1
    subst e0 e1
    have ha : a ≤ (top : Int) := (Go.bounds_i64 w1).2
    rcases open_ints Tryd.underlying28 Tryd.underlying3 (by kernel_rfl) h2 with ⟨hcs, _⟩ | ⟨x, l, c, zs, hcs, _, hl, hm, hz, _, hcell, hwz⟩
    · simp only [List.getD_cons_succ, List.getD_cons_zero, List.cons.injEq, and_true] at hcs
      subst hcs
      exact ⟨e, a, none, 0, 0, [], rfl, ⟨rfl, fun h => absurd h (by omega)⟩, ha, by simp⟩
    · simp only [List.getD_cons_succ, List.getD_cons_zero, List.cons.injEq, and_true] at hcs
      subst hcs
      have hrow : IsRow .i64 w (some x) l c zs := .inr ⟨_, rfl, hl, hm, by simpa using hz, hcell, hwz⟩
      have hzl : zs.length = c := by simpa using hz
      refine ⟨e, a, some x, l, c, zs.take l, rfl, ?_, ha, fun y hy => (Go.bounds_i64 (hwz y (List.mem_of_mem_take hy))).2⟩
      refine ⟨by simp; omega, fun hn => ?_⟩
      obtain ⟨b, o, sp⟩ := x
      have hsp : sp = none := by
        have := World.cell?_spot (hcell 0 (by omega))
        simpa [Addr.add] using this
      subst hsp
      refine ⟨b, o, rfl, World.block_lt_of_cell? w ⟨b, o, none⟩ (by simpa [Addr.add] using hcell 0 (by omega)), fun i hi => ?_⟩
      have h1 := hcell i (by omega)
      rw [Addr.add_lit] at h1
      rw [h1]
      simp [List.getD, hi, show i < zs.length by omega]

end Go.Proofs.YtbfneeggfaoeaaaDoor
