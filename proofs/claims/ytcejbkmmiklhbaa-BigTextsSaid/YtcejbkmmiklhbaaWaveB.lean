/-
  wave's turnedSums, Four and quarter: of fit numbers, and of others. No condition beyond what each contract says.
-/
import Derived.Test.YtcejbkmmiklhbaaWaveA
namespace Go.Proofs.Ytcejbkmmiklhbaa
open Go.RowKit

theorem load_four {w : World} {g : Nat} {L : List Value} (hl : L.length = 4) (h : Row w g 76 L) : (loadVar 76 ⟨g, 0, none⟩).run Try.prog w = .ok (.agg L.toArray) w :=
  run_loadVar_mid w g 0 _ L _ h.all Try.underlying76 rfl (size_four L hl)

theorem four_set {w : World} {g : Nat} {t : TypeId} {a0 a1 a2 a3 b0 b1 b2 b3 : Value} (h : Row w g t [a0, a1, a2, a3]) :
    Row ((((w.setCell ⟨g, 0, none⟩ b0).setCell ⟨g, 1, none⟩ b1).setCell ⟨g, 2, none⟩ b2).setCell ⟨g, 3, none⟩ b3) g t [b0, b1, b2, b3] := (((h.set 0 b0).set 1 b1).set 2 b2).set 3 b3
theorem below_four {B : Nat} {a w : World} (h : Below B a w) {g : Nat} (hg : B ≤ g) (b0 b1 b2 b3 : Value) : Below B a ((((w.setCell ⟨g, 0, none⟩ b0).setCell ⟨g, 1, none⟩ b1).setCell ⟨g, 2, none⟩ b2).setCell ⟨g, 3, none⟩ b3) :=
  (((h.setCell (p := ⟨g, 0, none⟩) hg b0).setCell (p := ⟨g, 1, none⟩) hg b1).setCell (p := ⟨g, 2, none⟩) hg b2).setCell (p := ⟨g, 3, none⟩) hg b3

set_option maxHeartbeats 2000000 in
theorem turned_walk (way : Int) (x0 y0 x1 y1 x2 y2 x3 y3 : Nat) (e1 e2 f1 f2 o1 o2 m1 m2 t1 t2 a0 b0 a1 b1 a2 b2 a3 b3 : Nat)
    (h1 : ∀ w, (binOp .add 75 (.complex .f64 x0 y0) (.complex .f64 x2 y2)).run Try.prog w = .ok (.complex .f64 e1 e2) w)
    (h2 : ∀ w, (binOp .sub 75 (.complex .f64 x0 y0) (.complex .f64 x2 y2)).run Try.prog w = .ok (.complex .f64 f1 f2) w)
    (h3 : ∀ w, (binOp .add 75 (.complex .f64 x1 y1) (.complex .f64 x3 y3)).run Try.prog w = .ok (.complex .f64 o1 o2) w)
    (h4 : ∀ w, (binOp .sub 75 (.complex .f64 x1 y1) (.complex .f64 x3 y3)).run Try.prog w = .ok (.complex .f64 m1 m2) w)
    (cT : Hid (∀ w, Calls Try.prog 69 #[.complex .f64 m1 m2, .int .i64 way] w fun e w' => e = .returned (.complex .f64 t1 t2) ∧ w' = w))
    (h5 : ∀ w, (binOp .add 75 (.complex .f64 e1 e2) (.complex .f64 o1 o2)).run Try.prog w = .ok (.complex .f64 a0 b0) w)
    (h6 : ∀ w, (binOp .add 75 (.complex .f64 f1 f2) (.complex .f64 t1 t2)).run Try.prog w = .ok (.complex .f64 a1 b1) w)
    (h7 : ∀ w, (binOp .sub 75 (.complex .f64 e1 e2) (.complex .f64 o1 o2)).run Try.prog w = .ok (.complex .f64 a2 b2) w)
    (h8 : ∀ w, (binOp .sub 75 (.complex .f64 f1 f2) (.complex .f64 t1 t2)).run Try.prog w = .ok (.complex .f64 a3 b3) w) (w : World) :
    Calls Try.prog 65 #[.agg #[.complex .f64 x0 y0, .complex .f64 x1 y1, .complex .f64 x2 y2, .complex .f64 x3 y3], .int .i64 way] w
      fun e w' => e = .returned (.agg #[.complex .f64 a0 b0, .complex .f64 a1 b1, .complex .f64 a2 b2, .complex .f64 a3 b3]) ∧ Below w.heap.size w w' := by
  go_enter Try.func65, Try.ntmps65
  go_wp2_with fail
  go_quiet (fail)
  obtain ⟨W, hW⟩ : ∃ W, W = (((w.alloc (Obj.cells #[.complex .f64 x0 y0, .complex .f64 x1 y1, .complex .f64 x2 y2, .complex .f64 x3 y3] 76)).alloc (Obj.cells #[.complex .f64 0 0, .complex .f64 0 0, .complex .f64 0 0, .complex .f64 0 0] 76)).drewN nq) := ⟨_, rfl⟩
  have R1 : Row W w.heap.size 76 [.complex .f64 x0 y0, .complex .f64 x1 y1, .complex .f64 x2 y2, .complex .f64 x3 y3] := by rw [hW]; exact ((Row.new w _ _).past _).drewN _
  have R2 : Row W (w.heap.size + 1) 76 [.complex .f64 0 0, .complex .f64 0 0, .complex .f64 0 0, .complex .f64 0 0] := by rw [hW]; exact (Row.new' (w.alloc _) _ _ (by simp)).drewN _
  have BW : Below w.heap.size w W := by rw [hW]; exact drawn_below (((Below.refl _ _).alloc (Nat.le_refl _) _).alloc (by simp) _) _
  rw [← hW]
  clear hW
  have c0 := R1.cell 0; have c1 := R1.cell 1; have c2 := R1.cell 2; have c3 := R1.cell 3
  simp only [List.getElem?_cons_zero, List.getElem?_cons_succ] at c0 c1 c2 c3
  have ne : w.heap.size ≠ w.heap.size + 1 := by omega
  have gb : w.heap.size ≤ w.heap.size + 1 := by omega
  generalize w.heap.size + 1 = g at *
  go_wp2_with fail
  go_quiet (first | (go_at_call 69; exact Calls.quiet_of_same (cT.out _)))
  have R3 := R2.drewN nq
  have BW2 := drawn_below BW nq
  generalize W.drewN nq = W2 at *
  clear c0 c1 c2 c3 R1 R2 BW
  have th := Lib.hid (R3.there 0 4 (Nat.le_refl _))
  have hsz : Hid ((Try.prog.info? 76).map (·.size) = some 4) := by show _ = _; kernel_rfl
  have one : Hid ((#[.complex .f64 a0 b0, .complex .f64 a1 b1, .complex .f64 a2 b2, .complex .f64 a3 b3] : Array Value).all (·.oneCell') = true) := all_oneCell_toArray (cx_one [(a0, b0), (a1, b1), (a2, b2), (a3, b3)])
  go_wp2_with (first | (refine wpList_store_mid rfl 76 (.tmp 4) (.tmp 43) rfl g 0 #[.complex .f64 a0 b0, .complex .f64 a1 b1, .complex .f64 a2 b2, .complex .f64 a3 b3] rfl rfl th.out hsz.out one.out ?_))
  refine bodyPost_ret (results_row1 rfl _ _ g _ rfl (load_four rfl (R3.puts 0 [.complex .f64 a0 b0, .complex .f64 a1 b1, .complex .f64 a2 b2, .complex .f64 a3 b3]))) rfl ?_
  exact ⟨rfl, below_puts BW2 gb _ _⟩

/-- The numbers zs are p, q. -/
def Are (zs : List (Nat × Nat)) (p q : Nat → Int) : Prop := zs.length = 4 ∧ ∀ k, k < 4 → Whole (zs.getD k (0, 0)).1 (p k) ∧ Whole (zs.getD k (0, 0)).2 (q k)

theorem four_list {α : Type} {l : List α} (h : l.length = 4) : ∃ a b c d, l = [a, b, c, d] := by
  match l, h with
  | [a, b, c, d], _ => exact ⟨a, b, c, d, rfl⟩

theorem turned_any (way : Int) (hw : way = 1 ∨ way = -1) {zs : List (Nat × Nat)} {p q : Nat → Int} (h : Are zs p q) (hf : ∀ k, k < 4 → Fit (p k) ∧ Fit (q k)) :
    ∃ us, Are us (tr way p q) (ti way p q) ∧ ∀ w, Calls Try.prog 65 #[.agg (cx zs).toArray, .int .i64 way] w fun e w' => e = .returned (.agg (cx us).toArray) ∧ Below w.heap.size w w' := by
  obtain ⟨⟨x0, y0⟩, ⟨x1, y1⟩, ⟨x2, y2⟩, ⟨x3, y3⟩, rfl⟩ := four_list h.1
  obtain ⟨k0, l0⟩ := h.2 0 (by omega); obtain ⟨k1, l1⟩ := h.2 1 (by omega); obtain ⟨k2, l2⟩ := h.2 2 (by omega); obtain ⟨k3, l3⟩ := h.2 3 (by omega)
  simp only [List.getD_cons_zero, List.getD_cons_succ] at k0 l0 k1 l1 k2 l2 k3 l3
  obtain ⟨⟨p0, p0'⟩, q0, q0'⟩ := hf 0 (by omega); obtain ⟨⟨p1, p1'⟩, q1, q1'⟩ := hf 1 (by omega); obtain ⟨⟨p2, p2'⟩, q2, q2'⟩ := hf 2 (by omega); obtain ⟨⟨p3, p3'⟩, q3, q3'⟩ := hf 3 (by omega)
  obtain ⟨e1, e2, h1, we1, we2⟩ := k0.csum l0 k2 l2 (by omega) (by omega)
  obtain ⟨f1, f2, h2, wf1, wf2⟩ := k0.cdif l0 k2 l2 (by omega) (by omega)
  obtain ⟨o1, o2, h3, wo1, wo2⟩ := k1.csum l1 k3 l3 (by omega) (by omega)
  obtain ⟨m1, m2, h4, wm1, wm2⟩ := k1.cdif l1 k3 l3 (by omega) (by omega)
  obtain ⟨t1, t2, cT, wt1, wt2⟩ := turn_any way wm1 wm2 ⟨by omega, by omega⟩ ⟨by omega, by omega⟩
  have g1 := turnRe_abs (way % 4) (p 1 - p 3) (q 1 - q 3) 2251799813685248 ⟨by omega, by omega⟩ ⟨by omega, by omega⟩
  have g2 := turnIm_abs (way % 4) (p 1 - p 3) (q 1 - q 3) 2251799813685248 ⟨by omega, by omega⟩ ⟨by omega, by omega⟩
  obtain ⟨a0, b0, h5, wa0, wb0⟩ := we1.csum we2 wo1 wo2 (by omega) (by omega)
  obtain ⟨a1, b1, h6, wa1, wb1⟩ := wf1.csum wf2 wt1 wt2 (by omega) (by omega)
  obtain ⟨a2, b2, h7, wa2, wb2⟩ := we1.cdif we2 wo1 wo2 (by omega) (by omega)
  obtain ⟨a3, b3, h8, wa3, wb3⟩ := wf1.cdif wf2 wt1 wt2 (by omega) (by omega)
  refine ⟨[(a0, b0), (a1, b1), (a2, b2), (a3, b3)], ⟨rfl, fun k hk => ?_⟩, turned_walk way x0 y0 x1 y1 x2 y2 x3 y3 e1 e2 f1 f2 o1 o2 m1 m2 t1 t2 a0 b0 a1 b1 a2 b2 a3 b3 h1 h2 h3 h4 cT h5 h6 h7 h8⟩
  have hc : ∀ {x y : Nat} {a b c d : Int}, Whole x a → Whole y b → a = c → b = d → Whole x c ∧ Whole y d := fun h k e e' => ⟨h.cast e, k.cast e'⟩
  rcases hw with rfl | rfl
  · rcases lt4 hk with rfl | rfl | rfl | rfl
    · exact hc wa0 wb0 (by simp [tr, sm, turnRe]; omega) (by simp [ti, sm, turnIm]; omega)
    · exact hc wa1 wb1 (by simp [tr, sm, turnRe]; omega) (by simp [ti, sm, turnIm]; omega)
    · exact hc wa2 wb2 (by simp [tr, sm, turnRe]; omega) (by simp [ti, sm, turnIm]; omega)
    · exact hc wa3 wb3 (by simp [tr, sm, turnRe]; omega) (by simp [ti, sm, turnIm]; omega)
  · rcases lt4 hk with rfl | rfl | rfl | rfl
    · exact hc wa0 wb0 (by simp [tr, sm, turnRe]; omega) (by simp [ti, sm, turnIm]; omega)
    · exact hc wa1 wb1 (by simp [tr, sm, turnRe]; omega) (by simp [ti, sm, turnIm]; omega)
    · exact hc wa2 wb2 (by simp [tr, sm, turnRe]; omega) (by simp [ti, sm, turnIm]; omega)
    · exact hc wa3 wb3 (by simp [tr, sm, turnRe]; omega) (by simp [ti, sm, turnIm]; omega)

end Go.Proofs.Ytcejbkmmiklhbaa
