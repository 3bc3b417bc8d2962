/-
  Two numbers by their parts that came in (a struct by value), and whether all four parts are small; nothing is assumed beyond what each lemma asks.
-/
import Derived.Test.YtkgejbjpdkilkaaAwake7
import Derived.Deep.Fields
import Derived.Deep.Slices
namespace Go.Proofs.Ytkgejbjpdkilkaa
open Go.ChangeShapes Go.WideShapes Go.ChangeAt Go.RowKit Go.Deep

section
variable {H : Type} {enc : TypeId × Value → H} {P : Program} {w : World} {base : Nat} {spare : Nat → Bool} {held : Bool}
/-- The cells of a struct, field by field. -/
theorem fields_of {t : TypeId} {fs : Array Field} {fuel : Nat} {cs : List Value} {x : DataW H × List MemPlace} (hs : P.underlying t = some (.struct fs)) (hone : oneCellFields P fs = true) (hC : P.cellsOf t = fs.size)
    (h : DataW.trod enc P w base spare held fuel t cs = some x) :
    cs.length = fs.size ∧ ∃ n, ∀ (i : Nat) (f : Field), fs[i]? = some f → ∃ y, DataW.trod enc P w base spare held n f.type [cs.getD i undef] = some y := by
  obtain ⟨xs, n, _, _, hl, hx, hf⟩ := DataW.trod_struct hs h
  refine ⟨hl.trans hC, n, fun i f hi => ?_⟩
  obtain ⟨ho, hc⟩ := hone_of hone i f hi
  have hlt : i < fs.size := (Array.getElem?_eq_some_iff.1 hi).1
  have h1 := hf i f hi
  rw [ho, hc, take1_drop cs i undef (by omega)] at h1
  exact ⟨xs[i]'(by omega), h1.trans (List.getElem?_eq_getElem (by omega))⟩
/-- A struct by value. -/
theorem agg_of {r : Reach} {b0 : Nat} {t : TypeId} {fs : Array Field} {v : Value} {d : DataW H} {p : List MemPlace} (hs : P.underlying t = some (.struct fs)) (hone : oneCellFields P fs = true) (hC : P.cellsOf t = fs.size)
    (hv : Value.okWide P w r b0 t v) (h : DataW.Trod enc P w base spare held t v d p) :
    ∃ cs : List Value, v = .agg cs.toArray ∧ cs.length = fs.size ∧ ∃ n, ∀ (i : Nat) (f : Field), fs[i]? = some f → ∃ y, DataW.trod enc P w base spare held n f.type [cs.getD i undef] = some y := by
  obtain ⟨cs, rfl, _⟩ := okWide_struct hs hv
  obtain ⟨fuel, hf⟩ := h
  obtain ⟨hl, hn⟩ := fields_of hs hone hC hf
  exact ⟨cs.toList, by simp, hl, hn⟩
end

/-- A Two that came in: its four parts. -/
theorem two_of {H : Type} {enc : TypeId × Value → H} {w : World} {base : Nat} {spare : Nat → Bool} {held : Bool} {r : Reach} {b0 : Nat} {v : Value} {d : DataW H} {p : List MemPlace}
    (hv : Value.okWide Try.prog w r b0 38 v) (h : DataW.Trod enc Try.prog w base spare held 38 v d p) :
    ∃ a b c d : Int, v = .agg #[.int .i64 a, .int .i64 b, .int .i64 c, .int .i64 d] := by
  obtain ⟨cs, rfl, hl, k, hf⟩ := agg_of Try.underlying38 (by kernel_rfl) (by kernel_rfl) hv h
  match cs, hl with
  | [c0, c1, c2, c3], _ =>
    obtain ⟨y0, h0⟩ := hf 0 _ rfl
    obtain ⟨y1, h1⟩ := hf 1 _ rfl
    obtain ⟨y2, h2⟩ := hf 2 _ rfl
    obtain ⟨y3, h3⟩ := hf 3 _ rfl
    obtain ⟨n0, e0, _, _⟩ := DataW.trod_int Try.underlying3 h0
    obtain ⟨n1, e1, _, _⟩ := DataW.trod_int Try.underlying3 h1
    obtain ⟨n2, e2, _, _⟩ := DataW.trod_int Try.underlying3 h2
    obtain ⟨n3, e3, _, _⟩ := DataW.trod_int Try.underlying3 h3
    simp only [List.getD_cons_succ, List.getD_cons_zero, List.cons.injEq, and_true] at e0 e1 e2 e3
    subst e0 e1 e2 e3
    exact ⟨n0, n1, n2, n3, rfl⟩

theorem cell_lt {V : World} {p : Addr} {v : Value} (h : V.cell? p = some v) : p.block < V.heap.size := by
  rcases Nat.lt_or_ge p.block V.heap.size with h1 | h1
  · exact h1
  · exfalso
    unfold World.cell? at h
    rw [Array.getElem?_eq_none h1] at h
    cases h
theorem keep_p {V w' : World} {p : Addr} {v : Value} (h : V.cell? p = some v) (B : Below V.heap.size V w') : w'.cell? p = some v := (B.cell (cell_lt h)).trans h

/-- Where the parts lie. -/
structure TwoAt (w : World) (g : Nat) (a b c d : Int) : Prop where
  c0 : w.cell? ⟨g, 0, none⟩ = some (.int .i64 a)
  c1 : w.cell? ⟨g, 1, none⟩ = some (.int .i64 b)
  c2 : w.cell? ⟨g, 2, none⟩ = some (.int .i64 c)
  c3 : w.cell? ⟨g, 3, none⟩ = some (.int .i64 d)
theorem TwoAt.keep {V w' : World} {g : Nat} {a b c d : Int} (h : TwoAt V g a b c d) (B : Below V.heap.size V w') : TwoAt w' g a b c d := ⟨keep_p h.c0 B, keep_p h.c1 B, keep_p h.c2 B, keep_p h.c3 B⟩
theorem two_at (w : World) (t : TypeId) (a b c d : Int) : TwoAt (w.alloc (.cells #[.int .i64 a, .int .i64 b, .int .i64 c, .int .i64 d] t)) w.heap.size a b c d :=
  ⟨by simp [go_sem], by simp [go_sem], by simp [go_sem], by simp [go_sem]⟩

set_option maxHeartbeats 400000 in
theorem fits_yes {a b c d : Int} (sa : Small a) (sb : Small b) (sc : Small c) (sd : Small d) (w : World) :
    Calls Try.prog 16 #[.agg #[.int .i64 a, .int .i64 b, .int .i64 c, .int .i64 d]] w fun e w' => e = .returned (.bool true) ∧ Below w.heap.size w w' := by
  have cA := Lib.hid (small_yes sa)
  have cB := Lib.hid (small_yes sb)
  have cC := Lib.hid (small_yes sc)
  have cD := Lib.hid (small_yes sd)
  clear sa sb sc sd
  go_enter Try.func16, Try.ntmps16
  go_wp2_with fail
  refine (cA.out _).mono ?_
  rintro e w1 ⟨rfl, hw⟩; subst w1
  go_wp2_with fail
  refine (cB.out _).mono ?_
  rintro e w1 ⟨rfl, hw⟩; subst w1
  go_wp2_with fail
  refine (cC.out _).mono ?_
  rintro e w1 ⟨rfl, hw⟩; subst w1
  go_wp2_with fail
  refine (cD.out _).mono ?_
  rintro e w1 ⟨rfl, hw⟩; subst w1
  go_wp2_with fail
  go_ret
  exact ⟨rfl, (Below.refl _ _).alloc (by simp) _⟩

set_option maxHeartbeats 400000 in
theorem fits_no {a b c d : Int} (h : ¬ (Small a ∧ Small b ∧ Small c ∧ Small d)) (w : World) :
    Calls Try.prog 16 #[.agg #[.int .i64 a, .int .i64 b, .int .i64 c, .int .i64 d]] w fun e w' => e = .returned (.bool false) ∧ Below w.heap.size w w' := by
  by_cases sa : Small a
  · have cA := Lib.hid (small_yes sa)
    by_cases sb : Small b
    · have cB := Lib.hid (small_yes sb)
      by_cases sc : Small c
      · have cC := Lib.hid (small_yes sc)
        have cD := Lib.hid (small_no (fun sd => h ⟨sa, sb, sc, sd⟩))
        clear sa sb sc h
        go_enter Try.func16, Try.ntmps16
        go_wp2_with fail
        refine (cA.out _).mono ?_
        rintro e w1 ⟨rfl, hw⟩; subst w1
        go_wp2_with fail
        refine (cB.out _).mono ?_
        rintro e w1 ⟨rfl, hw⟩; subst w1
        go_wp2_with fail
        refine (cC.out _).mono ?_
        rintro e w1 ⟨rfl, hw⟩; subst w1
        go_wp2_with fail
        refine (cD.out _).mono ?_
        rintro e w1 ⟨rfl, hw⟩; subst w1
        go_wp2_with fail
        go_ret
        exact ⟨rfl, (Below.refl _ _).alloc (by simp) _⟩
      · have cC := Lib.hid (small_no sc)
        clear sa sb sc h
        go_enter Try.func16, Try.ntmps16
        go_wp2_with fail
        refine (cA.out _).mono ?_
        rintro e w1 ⟨rfl, hw⟩; subst w1
        go_wp2_with fail
        refine (cB.out _).mono ?_
        rintro e w1 ⟨rfl, hw⟩; subst w1
        go_wp2_with fail
        refine (cC.out _).mono ?_
        rintro e w1 ⟨rfl, hw⟩; subst w1
        go_wp2_with fail
        go_ret
        exact ⟨rfl, (Below.refl _ _).alloc (by simp) _⟩
    · have cB := Lib.hid (small_no sb)
      clear sa sb h
      go_enter Try.func16, Try.ntmps16
      go_wp2_with fail
      refine (cA.out _).mono ?_
      rintro e w1 ⟨rfl, hw⟩; subst w1
      go_wp2_with fail
      refine (cB.out _).mono ?_
      rintro e w1 ⟨rfl, hw⟩; subst w1
      go_wp2_with fail
      go_ret
      exact ⟨rfl, (Below.refl _ _).alloc (by simp) _⟩
  · have cA := Lib.hid (small_no sa)
    clear sa h
    go_enter Try.func16, Try.ntmps16
    go_wp2_with fail
    refine (cA.out _).mono ?_
    rintro e w1 ⟨rfl, hw⟩; subst w1
    go_wp2_with fail
    go_ret
    exact ⟨rfl, (Below.refl _ _).alloc (by simp) _⟩

end Go.Proofs.Ytkgejbjpdkilkaa
