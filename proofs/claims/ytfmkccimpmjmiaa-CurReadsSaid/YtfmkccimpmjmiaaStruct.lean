/-
  A struct whose fields are one cell each, as it is read: its cells and each field's own reading; nothing is assumed of the struct beyond that.
-/
import Derived.Test.YtfmkccimpmjmiaaAwake
import Derived.Deep.Fields
import Derived.Deep.Slices
namespace Go.Proofs.Ytfmkccimpmjmiaa
open Go.ChangeShapes Go.WideShapes Go.ChangeAt Go.RowKit Go.Deep

/-- A list out of what there is for each place. -/
theorem list_of {α : Type} (d : α) (P : Nat → α → Prop) : ∀ n, (∀ i, i < n → ∃ x, P i x) → ∃ l : List α, l.length = n ∧ ∀ i, i < n → P i (l.getD i d)
  | 0, _ => ⟨[], rfl, fun i hi => absurd hi (by omega)⟩
  | n + 1, h => by
    obtain ⟨l, hl, hp⟩ := list_of d P n (fun i hi => h i (by omega))
    obtain ⟨x, hx⟩ := h n (by omega)
    refine ⟨l ++ [x], by simp [hl], fun i hi => ?_⟩
    by_cases hin : i < n
    · have : (l ++ [x]).getD i d = l.getD i d := by simp [List.getD, List.getElem?_append, hl, hin]
      rw [this]
      exact hp i hin
    · have hi' : i = n := by omega
      subst hi'
      have : (l ++ [x]).getD i d = x := by simp [List.getD, ← hl]
      rw [this]
      exact hx

section
variable {H : Type} {enc : TypeId × Value → H} {P : Program} {w : World} {base : Nat} {spare : Nat → Bool} {held : Bool}
/-- The cells of a struct, field by field. -/
theorem fields_of {t : TypeId} {fs : Array Field} {fuel : Nat} {cs : List Value} {x : DataW H × List MemPlace} (hs : P.underlying t = some (.struct fs)) (hone : oneCellFields P fs = true) (hC : P.cellsOf t = fs.size)
    (h : DataW.trod enc P w base spare held fuel t cs = some x) :
    cs.length = fs.size ∧ ∃ n, ∀ (i : Nat) (f : Field), fs[i]? = some f → ∃ y, DataW.trod enc P w base spare held n f.type [cs.getD i undef] = some y := by
  obtain ⟨xs, n, _, _, hl, hx, hf⟩ := DataW.trod_struct hs h
  refine ⟨hl.trans hC, n, fun i f hi => ?_⟩
  obtain ⟨ho, hc⟩ := hone_of hone i f hi
  have hlt : i < fs.size := (Array.getElem?_eq_some_iff.1 hi).1
  have h1 := hf i f hi
  rw [ho, hc, take1_drop cs i undef (by omega)] at h1
  exact ⟨xs[i]'(by omega), h1.trans (List.getElem?_eq_getElem (by omega))⟩
/-- A struct by value. -/
theorem agg_of {r : Reach} {b0 : Nat} {t : TypeId} {fs : Array Field} {v : Value} {d : DataW H} {p : List MemPlace} (hs : P.underlying t = some (.struct fs)) (hone : oneCellFields P fs = true) (hC : P.cellsOf t = fs.size)
    (hv : Value.okWide P w r b0 t v) (h : DataW.Trod enc P w base spare held t v d p) :
    ∃ cs : List Value, v = .agg cs.toArray ∧ cs.length = fs.size ∧ ∃ n, ∀ (i : Nat) (f : Field), fs[i]? = some f → ∃ y, DataW.trod enc P w base spare held n f.type [cs.getD i undef] = some y := by
  obtain ⟨cs, rfl, _⟩ := okWide_struct hs hv
  obtain ⟨fuel, hf⟩ := h
  obtain ⟨hl, hn⟩ := fields_of hs hone hC hf
  exact ⟨cs.toList, by simp, hl, hn⟩
end

/-- What a Put is told by: five cells, of which the second and the fourth are numbers. -/
theorem put_of {H : Type} {enc : TypeId × Value → H} {w : World} {base : Nat} {spare : Nat → Bool} {held : Bool} {r : Reach} {b0 : Nat} {v : Value} {d : DataW H} {p : List MemPlace}
    (hv : Value.okWide Try.prog w r b0 43 v) (h : DataW.Trod enc Try.prog w base spare held 43 v d p) :
    ∃ (c0 c2 c4 : Value) (n x : Int), v = .agg #[c0, .int .i64 n, c2, .int .u64 x, c4] ∧ (Lit.int .u64 x).wf = true := by
  obtain ⟨cs, rfl, hl, k, hf⟩ := agg_of Try.underlying43 (by kernel_rfl) (by kernel_rfl) hv h
  match cs, hl with
  | [c0, c1, c2, c3, c4], _ =>
    obtain ⟨y1, h1⟩ := hf 1 _ rfl
    obtain ⟨y3, h3⟩ := hf 3 _ rfl
    obtain ⟨n, e1, _, _⟩ := DataW.trod_int Try.underlying3 h1
    obtain ⟨x, e3, _, wx⟩ := DataW.trod_int Try.underlying33 h3
    simp only [List.getD_cons_succ, List.getD_cons_zero, List.cons.injEq, and_true] at e1 e3
    subst e1
    subst e3
    exact ⟨c0, c2, c4, n, x, rfl, wx⟩
end Go.Proofs.Ytfmkccimpmjmiaa
