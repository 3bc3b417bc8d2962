/-
  wave's tests: is a part fit? are four numbers? For all bits; no condition beyond what each contract says.
  wave's turnedSums, Four and quarter: of fit numbers, and of others. No condition beyond what each contract says.
  wave's Four and quarter: of fit numbers, and of others. No condition beyond what each contract says.
  wave's Back: of fit numbers, and of others. No condition beyond what each contract says.
-/
import Derived.Test.YtojpfmlmalmlcaaGreatDoorNWave0
import Derived.Test.YtojpfmlmalmlcaaGreatDoorNMem
namespace Go.Proofs.YtojpfmlmalmlcaaGreatDoor.G
open Go.RowKit
/-- The cells of complex numbers. -/
def cx (zs : List (Nat × Nat)) : List Value := zs.map fun z => Value.complex .f64 z.1 z.2
theorem cx_length (zs : List (Nat × Nat)) : (cx zs).length = zs.length := by simp [cx]
theorem cx_get (zs : List (Nat × Nat)) (k : Nat) (h : k < zs.length) : (cx zs)[k]? = some (.complex .f64 (zs.getD k (0, 0)).1 (zs.getD k (0, 0)).2) := by simp [cx, List.getD, h]
theorem cx_one (zs : List (Nat × Nat)) : ∀ u ∈ cx zs, u.oneCell' = true := by
  intro u hu
  obtain ⟨b, _, rfl⟩ := List.mem_map.1 hu
  rfl
/-- One number out of an array of four. -/
theorem at_four (L : List Value) (k : Nat) (v : Value) (hk : k < 4) (hv : L[k]? = some v) (w : World) :
    (Instr.index 164 (.agg L.toArray) (.int .i64 (k : Int))).run Tryz.prog w = .ok v w := by
  have hk' : (0 : Int) ≤ (k : Int) ∧ (k : Int) < 4 := by omega
  simp [Instr.index, run_underlying Tryz.underlying164, asIntOf, hk', go_sem, part, Tryz.isAgg163, Tryz.sizeOf163, hv]
  intro h
  omega
set_option maxHeartbeats 400000 in
theorem inFit_any (a : Int) (w : World) : Calls Tryz.prog 155 #[.int .i64 a] w fun e w' => e = .returned (.bool (decide (Fit a))) ∧ w' = w := by
  by_cases h1 : -1125899906842624 ≤ a
  · by_cases h2 : a ≤ 1125899906842624
    · have t1 : decide (-1125899906842624 ≤ a) = true := by simpa using h1
      have t2 : decide (a ≤ 1125899906842624) = true := by simpa using h2
      rw [show decide (Fit a) = true from decide_eq_true ⟨h1, h2⟩]
      go_enter Tryz.func155, Tryz.ntmps155
      go_wp2
      go_ret
      exact ⟨rfl, rfl⟩
    · have t1 : decide (-1125899906842624 ≤ a) = true := by simpa using h1
      have t2 : decide (a ≤ 1125899906842624) = false := by simpa using h2
      rw [show decide (Fit a) = false from decide_eq_false fun h => h2 h.2]
      go_enter Tryz.func155, Tryz.ntmps155
      go_wp2
      go_ret
      exact ⟨rfl, rfl⟩
  · have t1 : decide (-1125899906842624 ≤ a) = false := by simpa using h1
    rw [show decide (Fit a) = false from decide_eq_false fun h => h1 h.1]
    go_enter Tryz.func155, Tryz.ntmps155
    go_wp2
    go_ret
    exact ⟨rfl, rfl⟩
theorem inFit_yes {a : Int} (h : Fit a) (w : World) : Calls Tryz.prog 155 #[.int .i64 a] w fun e w' => e = .returned (.bool true) ∧ w' = w := by
  have := inFit_any a w
  rwa [decide_eq_true h] at this
theorem inFit_no {a : Int} (h : ¬ Fit a) (w : World) : Calls Tryz.prog 155 #[.int .i64 a] w fun e w' => e = .returned (.bool false) ∧ w' = w := by
  have := inFit_any a w
  rwa [decide_eq_false h] at this
/-- The bits of a fit number. -/
def FitBits (z : Nat × Nat) : Prop := ∃ a b, Whole z.1 a ∧ Whole z.2 b ∧ Fit a ∧ Fit b
/-- Four numbers, all bits of doubles. -/
def Bits (zs : List (Nat × Nat)) : Prop := ∀ k, (zs.getD k (0, 0)).1 < 18446744073709551616 ∧ (zs.getD k (0, 0)).2 < 18446744073709551616
theorem size_four (L : List Value) (h : L.length = 4) : (Tryz.prog.info? 164).map (·.size) = some L.length := by rw [h]; kernel_rfl
set_option maxHeartbeats 2000000 in
theorem allFit_any (zs : List (Nat × Nat)) (hl : zs.length = 4) (hb : Bits zs) (r : Bool) (hr : r = true ↔ ∀ k, k < 4 → FitBits (zs.getD k (0, 0))) (w : World) :
    Calls Tryz.prog 151 #[.agg (cx zs).toArray] w fun e w' => e = .returned (.bool r) ∧ Below w.heap.size w w' := by
  have hc : Hid (∀ k, k < 4 → (cx zs)[k]? = some (.complex .f64 (zs.getD k (0, 0)).1 (zs.getD k (0, 0)).2)) := fun k hk => cx_get zs k (by omega)
  have hn : Hid ((cx zs).length = 4) := show _ = _ by rw [cx_length, hl]
  have HR := Lib.hid hr
  have HB := Lib.hid hb
  clear hr hb hl
  generalize cx zs = L at hc hn
  have hld : Hid ((w.alloc (.cells L.toArray 164)).rangeAt w.heap.size 0 L) := (Row.new w 164 L).all
  have hsz := Lib.hid (size_four L hn.out)
  have BB : Below w.heap.size w (w.alloc (.cells L.toArray 164)) := (Below.refl _ _).alloc (Nat.le_refl _) _
  go_enter Tryz.func151, Tryz.ntmps151
  go_wp2_with (first | (refine wpList_load_mid rfl 164 (.tmp 1) rfl w.heap.size 0 rfl L _ hld.out Tryz.underlying164 rfl hsz.out ?_))
  obtain ⟨W, hW⟩ : ∃ W, W = w.alloc (.cells L.toArray 164) := ⟨_, rfl⟩
  rw [← hW] at BB ⊢
  clear hld hsz hW
  go_loopw [9] (fun v wr => wr = W ∧ ∃ k : Nat, k ≤ 4 ∧ v = .int .i64 (k : Int) ∧ ∀ j, j < k → FitBits (zs.getD j (0, 0))) (fun v _ => 4 - (intOf v).toNat)
  case atStart => exact ⟨rfl, 0, by omega, rfl, fun j hj => absurd hj (by omega)⟩
  case round =>
    obtain ⟨rfl, k, hk, rfl, hf⟩ := hrel
    have HF := Lib.hid hf
    clear hf
    by_cases h4 : k < 4
    · have d1 : decide ((k : Int) < 4) = true := by simp; omega
      have hx := at_four L k _ h4 (hc.out k h4)
      have hbk := HB.out k
      have HF2 : Hid (FitBits (zs.getD k (0, 0)) → ∀ j, j < k + 1 → FitBits (zs.getD j (0, 0))) := fun h j hj => by
        by_cases hjk : j < k
        · exact HF.out j hjk
        · obtain rfl : j = k := by omega
          exact h
      have HN : Hid (¬ FitBits (zs.getD k (0, 0)) → r = false) := fun h => by
        cases hr : r with
        | false => rfl
        | true => exact absurd (HR.out.1 hr k h4) h
      generalize zs.getD k (0, 0) = z at hx hbk HF2 HN
      clear HF HB HR
      by_cases hfit : FitBits z
      · have HF3 := Lib.hid (HF2.out hfit)
        obtain ⟨a, b, wa, wb, fa, fb⟩ := hfit
        have cp := Lib.hid (parts_yes wa wb fa.great fb.great)
        have c1 := Lib.hid (inFit_yes fa)
        have c2 := Lib.hid (inFit_yes fb)
        clear HF2 HN wa wb fa fb hbk
        go_wp2_with fail
        refine (cp.out _).mono ?_
        rintro e w1 ⟨rfl, hw⟩; subst w1
        go_wp2_with fail
        refine (c1.out _).mono ?_
        rintro e w1 ⟨rfl, hw⟩; subst w1
        go_wp2_with fail
        refine (c2.out _).mono ?_
        rintro e w1 ⟨rfl, hw⟩; subst w1
        go_wp2_with fail
        go_roundw
        case rel => exact ⟨by trivial, k + 1, by omega, ret_val (by omega), HF3.out⟩
        case measure => simp [intOf]; omega
      · have HE := Lib.hid (HN.out hfit)
        by_cases hgr : ∃ a b, Whole z.1 a ∧ Whole z.2 b ∧ Great a ∧ Great b
        · obtain ⟨a, b, wa, wb, ga, gb⟩ := hgr
          have cp := Lib.hid (parts_yes wa wb ga gb)
          by_cases fa : Fit a
          · have c1 := Lib.hid (inFit_yes fa)
            have c2 := Lib.hid (inFit_no (fun fb => hfit ⟨a, b, wa, wb, fa, fb⟩))
            clear HF2 HN wa wb fa ga gb hbk hfit
            go_wp2_with fail
            refine (cp.out _).mono ?_
            rintro e w1 ⟨rfl, hw⟩; subst w1
            go_wp2_with fail
            refine (c1.out _).mono ?_
            rintro e w1 ⟨rfl, hw⟩; subst w1
            go_wp2_with fail
            refine (c2.out _).mono ?_
            rintro e w1 ⟨rfl, hw⟩; subst w1
            go_wp2_with fail
            go_ret
            exact ⟨ret_bool HE.out.symm, BB⟩
          · have c1 := Lib.hid (inFit_no fa)
            clear HF2 HN wa wb fa ga gb hbk hfit
            go_wp2_with fail
            refine (cp.out _).mono ?_
            rintro e w1 ⟨rfl, hw⟩; subst w1
            go_wp2_with fail
            refine (c1.out _).mono ?_
            rintro e w1 ⟨rfl, hw⟩; subst w1
            go_wp2_with fail
            go_ret
            exact ⟨ret_bool HE.out.symm, BB⟩
        · have cp := Lib.hid (parts_no hbk.1 hbk.2 (fun m n h1 h2 h3 h4 => hgr ⟨m, n, h1, h3, h2, h4⟩))
          clear HF2 HN hgr hbk hfit
          go_wp2_with fail
          refine (cp.out _).mono ?_
          rintro e w1 ⟨rfl, hw⟩; subst w1
          go_wp2_with fail
          go_ret
          exact ⟨ret_bool HE.out.symm, BB⟩
    · obtain rfl : k = 4 := by omega
      have HE : Hid (r = true) := HR.out.2 HF.out
      clear HF HB HR
      go_wp2_with fail
      go_ret
      exact ⟨ret_bool HE.out.symm, BB⟩
end Go.Proofs.YtojpfmlmalmlcaaGreatDoor.G
namespace Go.Proofs.YtojpfmlmalmlcaaGreatDoor.G
open Go.RowKit
theorem load_four {w : World} {g : Nat} {L : List Value} (hl : L.length = 4) (h : Row w g 164 L) : (loadVar 164 ⟨g, 0, none⟩).run Tryz.prog w = .ok (.agg L.toArray) w :=
  run_loadVar_mid w g 0 _ L _ h.all Tryz.underlying164 rfl (size_four L hl)
theorem four_set {w : World} {g : Nat} {t : TypeId} {a0 a1 a2 a3 b0 b1 b2 b3 : Value} (h : Row w g t [a0, a1, a2, a3]) :
    Row ((((w.setCell ⟨g, 0, none⟩ b0).setCell ⟨g, 1, none⟩ b1).setCell ⟨g, 2, none⟩ b2).setCell ⟨g, 3, none⟩ b3) g t [b0, b1, b2, b3] := (((h.set 0 b0).set 1 b1).set 2 b2).set 3 b3
theorem below_four {B : Nat} {a w : World} (h : Below B a w) {g : Nat} (hg : B ≤ g) (b0 b1 b2 b3 : Value) : Below B a ((((w.setCell ⟨g, 0, none⟩ b0).setCell ⟨g, 1, none⟩ b1).setCell ⟨g, 2, none⟩ b2).setCell ⟨g, 3, none⟩ b3) :=
  (((h.setCell (p := ⟨g, 0, none⟩) hg b0).setCell (p := ⟨g, 1, none⟩) hg b1).setCell (p := ⟨g, 2, none⟩) hg b2).setCell (p := ⟨g, 3, none⟩) hg b3
set_option maxHeartbeats 2000000 in
theorem turned_walk (way : Int) (x0 y0 x1 y1 x2 y2 x3 y3 : Nat) (e1 e2 f1 f2 o1 o2 m1 m2 t1 t2 a0 b0 a1 b1 a2 b2 a3 b3 : Nat)
    (h1 : ∀ w, (binOp .add 163 (.complex .f64 x0 y0) (.complex .f64 x2 y2)).run Tryz.prog w = .ok (.complex .f64 e1 e2) w)
    (h2 : ∀ w, (binOp .sub 163 (.complex .f64 x0 y0) (.complex .f64 x2 y2)).run Tryz.prog w = .ok (.complex .f64 f1 f2) w)
    (h3 : ∀ w, (binOp .add 163 (.complex .f64 x1 y1) (.complex .f64 x3 y3)).run Tryz.prog w = .ok (.complex .f64 o1 o2) w)
    (h4 : ∀ w, (binOp .sub 163 (.complex .f64 x1 y1) (.complex .f64 x3 y3)).run Tryz.prog w = .ok (.complex .f64 m1 m2) w)
    (cT : Hid (∀ w, Calls Tryz.prog 156 #[.complex .f64 m1 m2, .int .i64 way] w fun e w' => e = .returned (.complex .f64 t1 t2) ∧ w' = w))
    (h5 : ∀ w, (binOp .add 163 (.complex .f64 e1 e2) (.complex .f64 o1 o2)).run Tryz.prog w = .ok (.complex .f64 a0 b0) w)
    (h6 : ∀ w, (binOp .add 163 (.complex .f64 f1 f2) (.complex .f64 t1 t2)).run Tryz.prog w = .ok (.complex .f64 a1 b1) w)
    (h7 : ∀ w, (binOp .sub 163 (.complex .f64 e1 e2) (.complex .f64 o1 o2)).run Tryz.prog w = .ok (.complex .f64 a2 b2) w)
    (h8 : ∀ w, (binOp .sub 163 (.complex .f64 f1 f2) (.complex .f64 t1 t2)).run Tryz.prog w = .ok (.complex .f64 a3 b3) w) (w : World) :
    Calls Tryz.prog 152 #[.agg #[.complex .f64 x0 y0, .complex .f64 x1 y1, .complex .f64 x2 y2, .complex .f64 x3 y3], .int .i64 way] w
      fun e w' => e = .returned (.agg #[.complex .f64 a0 b0, .complex .f64 a1 b1, .complex .f64 a2 b2, .complex .f64 a3 b3]) ∧ Below w.heap.size w w' := by
  go_enter Tryz.func152, Tryz.ntmps152
  go_wp2_with fail
  go_quiet (fail)
  obtain ⟨W, hW⟩ : ∃ W, W = (((w.alloc (Obj.cells #[.complex .f64 x0 y0, .complex .f64 x1 y1, .complex .f64 x2 y2, .complex .f64 x3 y3] 164)).alloc (Obj.cells #[.complex .f64 0 0, .complex .f64 0 0, .complex .f64 0 0, .complex .f64 0 0] 164)).drewN nq) := ⟨_, rfl⟩
  have R1 : Row W w.heap.size 164 [.complex .f64 x0 y0, .complex .f64 x1 y1, .complex .f64 x2 y2, .complex .f64 x3 y3] := by rw [hW]; exact ((Row.new w _ _).past _).drewN _
  have R2 : Row W (w.heap.size + 1) 164 [.complex .f64 0 0, .complex .f64 0 0, .complex .f64 0 0, .complex .f64 0 0] := by rw [hW]; exact (Row.new' (w.alloc _) _ _ (by simp)).drewN _
  have BW : Below w.heap.size w W := by rw [hW]; exact drawn_below (((Below.refl _ _).alloc (Nat.le_refl _) _).alloc (by simp) _) _
  rw [← hW]
  clear hW
  have c0 := R1.cell 0; have c1 := R1.cell 1; have c2 := R1.cell 2; have c3 := R1.cell 3
  simp only [List.getElem?_cons_zero, List.getElem?_cons_succ] at c0 c1 c2 c3
  have ne : w.heap.size ≠ w.heap.size + 1 := by omega
  have gb : w.heap.size ≤ w.heap.size + 1 := by omega
  generalize w.heap.size + 1 = g at *
  go_wp2_with fail
  go_quiet (first | (go_at_call 156; exact Calls.quiet_of_same (cT.out _)))
  have R3 := R2.drewN nq
  have BW2 := drawn_below BW nq
  generalize W.drewN nq = W2 at *
  clear c0 c1 c2 c3 R1 R2 BW
  have th := Lib.hid (R3.there 0 4 (Nat.le_refl _))
  have hsz : Hid ((Tryz.prog.info? 164).map (·.size) = some 4) := by show _ = _; kernel_rfl
  have one : Hid ((#[.complex .f64 a0 b0, .complex .f64 a1 b1, .complex .f64 a2 b2, .complex .f64 a3 b3] : Array Value).all (·.oneCell') = true) := all_oneCell_toArray (cx_one [(a0, b0), (a1, b1), (a2, b2), (a3, b3)])
  go_wp2_with (first | (refine wpList_store_mid rfl 164 (.tmp 4) (.tmp 43) rfl g 0 #[.complex .f64 a0 b0, .complex .f64 a1 b1, .complex .f64 a2 b2, .complex .f64 a3 b3] rfl rfl th.out hsz.out one.out ?_))
  refine bodyPost_ret (results_row1 rfl _ _ g _ rfl (load_four rfl (R3.puts 0 [.complex .f64 a0 b0, .complex .f64 a1 b1, .complex .f64 a2 b2, .complex .f64 a3 b3]))) rfl ?_
  exact ⟨rfl, below_puts BW2 gb _ _⟩
/-- The numbers zs are p, q. -/
def Are (zs : List (Nat × Nat)) (p q : Nat → Int) : Prop := zs.length = 4 ∧ ∀ k, k < 4 → Whole (zs.getD k (0, 0)).1 (p k) ∧ Whole (zs.getD k (0, 0)).2 (q k)
theorem four_list {α : Type} {l : List α} (h : l.length = 4) : ∃ a b c d, l = [a, b, c, d] := by
  match l, h with
  | [a, b, c, d], _ => exact ⟨a, b, c, d, rfl⟩
theorem turned_any (way : Int) (hw : way = 1 ∨ way = -1) {zs : List (Nat × Nat)} {p q : Nat → Int} (h : Are zs p q) (hf : ∀ k, k < 4 → Fit (p k) ∧ Fit (q k)) :
    ∃ us, Are us (tr way p q) (ti way p q) ∧ ∀ w, Calls Tryz.prog 152 #[.agg (cx zs).toArray, .int .i64 way] w fun e w' => e = .returned (.agg (cx us).toArray) ∧ Below w.heap.size w w' := by
  obtain ⟨⟨x0, y0⟩, ⟨x1, y1⟩, ⟨x2, y2⟩, ⟨x3, y3⟩, rfl⟩ := four_list h.1
  obtain ⟨k0, l0⟩ := h.2 0 (by omega); obtain ⟨k1, l1⟩ := h.2 1 (by omega); obtain ⟨k2, l2⟩ := h.2 2 (by omega); obtain ⟨k3, l3⟩ := h.2 3 (by omega)
  simp only [List.getD_cons_zero, List.getD_cons_succ] at k0 l0 k1 l1 k2 l2 k3 l3
  obtain ⟨⟨p0, p0'⟩, q0, q0'⟩ := hf 0 (by omega); obtain ⟨⟨p1, p1'⟩, q1, q1'⟩ := hf 1 (by omega); obtain ⟨⟨p2, p2'⟩, q2, q2'⟩ := hf 2 (by omega); obtain ⟨⟨p3, p3'⟩, q3, q3'⟩ := hf 3 (by omega)
  obtain ⟨e1, e2, h1, we1, we2⟩ := k0.csum l0 k2 l2 (by omega) (by omega)
  obtain ⟨f1, f2, h2, wf1, wf2⟩ := k0.cdif l0 k2 l2 (by omega) (by omega)
  obtain ⟨o1, o2, h3, wo1, wo2⟩ := k1.csum l1 k3 l3 (by omega) (by omega)
  obtain ⟨m1, m2, h4, wm1, wm2⟩ := k1.cdif l1 k3 l3 (by omega) (by omega)
  obtain ⟨t1, t2, cT, wt1, wt2⟩ := turn_any way wm1 wm2 ⟨by omega, by omega⟩ ⟨by omega, by omega⟩
  have g1 := turnRe_abs (way % 4) (p 1 - p 3) (q 1 - q 3) 2251799813685248 ⟨by omega, by omega⟩ ⟨by omega, by omega⟩
  have g2 := turnIm_abs (way % 4) (p 1 - p 3) (q 1 - q 3) 2251799813685248 ⟨by omega, by omega⟩ ⟨by omega, by omega⟩
  obtain ⟨a0, b0, h5, wa0, wb0⟩ := we1.csum we2 wo1 wo2 (by omega) (by omega)
  obtain ⟨a1, b1, h6, wa1, wb1⟩ := wf1.csum wf2 wt1 wt2 (by omega) (by omega)
  obtain ⟨a2, b2, h7, wa2, wb2⟩ := we1.cdif we2 wo1 wo2 (by omega) (by omega)
  obtain ⟨a3, b3, h8, wa3, wb3⟩ := wf1.cdif wf2 wt1 wt2 (by omega) (by omega)
  refine ⟨[(a0, b0), (a1, b1), (a2, b2), (a3, b3)], ⟨rfl, fun k hk => ?_⟩, turned_walk way x0 y0 x1 y1 x2 y2 x3 y3 e1 e2 f1 f2 o1 o2 m1 m2 t1 t2 a0 b0 a1 b1 a2 b2 a3 b3 h1 h2 h3 h4 cT h5 h6 h7 h8⟩
  have hc : ∀ {x y : Nat} {a b c d : Int}, Whole x a → Whole y b → a = c → b = d → Whole x c ∧ Whole y d := fun h k e e' => ⟨h.cast e, k.cast e'⟩
  rcases hw with rfl | rfl
  · rcases lt4 hk with rfl | rfl | rfl | rfl
    · exact hc wa0 wb0 (by simp [tr, sm, turnRe]; omega) (by simp [ti, sm, turnIm]; omega)
    · exact hc wa1 wb1 (by simp [tr, sm, turnRe]; omega) (by simp [ti, sm, turnIm]; omega)
    · exact hc wa2 wb2 (by simp [tr, sm, turnRe]; omega) (by simp [ti, sm, turnIm]; omega)
    · exact hc wa3 wb3 (by simp [tr, sm, turnRe]; omega) (by simp [ti, sm, turnIm]; omega)
  · rcases lt4 hk with rfl | rfl | rfl | rfl
    · exact hc wa0 wb0 (by simp [tr, sm, turnRe]; omega) (by simp [ti, sm, turnIm]; omega)
    · exact hc wa1 wb1 (by simp [tr, sm, turnRe]; omega) (by simp [ti, sm, turnIm]; omega)
    · exact hc wa2 wb2 (by simp [tr, sm, turnRe]; omega) (by simp [ti, sm, turnIm]; omega)
    · exact hc wa3 wb3 (by simp [tr, sm, turnRe]; omega) (by simp [ti, sm, turnIm]; omega)
end Go.Proofs.YtojpfmlmalmlcaaGreatDoor.G
namespace Go.Proofs.YtojpfmlmalmlcaaGreatDoor.G
open Go.RowKit
/-- Four times 0. -/
def noughts : List (Nat × Nat) := [(0, 0), (0, 0), (0, 0), (0, 0)]
theorem Are.bits {zs : List (Nat × Nat)} {p q : Nat → Int} (h : Are zs p q) : Bits zs := fun k => by
  by_cases hk : k < 4
  · exact ⟨(h.2 k hk).1.1, (h.2 k hk).2.1⟩
  · have : zs.getD k (0, 0) = (0, 0) := by simp [List.getD, List.getElem?_eq_none (show zs.length ≤ k by have := h.1; omega)]
    rw [this]
    decide
theorem Are.fits {zs : List (Nat × Nat)} {p q : Nat → Int} (h : Are zs p q) (hf : ∀ k, k < 4 → Fit (p k) ∧ Fit (q k)) : ∀ k, k < 4 → FitBits (zs.getD k (0, 0)) :=
  fun k hk => ⟨_, _, (h.2 k hk).1, (h.2 k hk).2, (hf k hk).1, (hf k hk).2⟩
theorem put_all {w : World} {g : Nat} {t : TypeId} {L M : List Value} (hm : M.length = 4) (h : Row w g t L) (hl : L.length = 4 := by rfl) : Row (w.setCells g 0 M.toArray.toList) g t M := by
  obtain ⟨a, b, c, d, rfl⟩ := four_list hm
  obtain ⟨a', b', c', d', rfl⟩ := four_list hl
  exact h.puts 0 [a, b, c, d]
set_option maxHeartbeats 2000000 in
theorem four_walk {zs us : List (Nat × Nat)} (hl : zs.length = 4) (hu : us.length = 4)
    (cF : Hid (∀ w, Calls Tryz.prog 151 #[.agg (cx zs).toArray] w fun e w' => e = .returned (.bool true) ∧ Below w.heap.size w w'))
    (cT : Hid (∀ w, Calls Tryz.prog 152 #[.agg (cx zs).toArray, .int .i64 1] w fun e w' => e = .returned (.agg (cx us).toArray) ∧ Below w.heap.size w w')) (w : World) :
    Calls Tryz.prog 145 #[.agg (cx zs).toArray] w fun e w' => e = .returned (.agg (cx us).toArray) ∧ Below w.heap.size w w' := by
  have hn : Hid ((cx zs).length = 4) := show _ = _ by rw [cx_length, hl]
  have hm : Hid ((cx us).length = 4) := show _ = _ by rw [cx_length, hu]
  have one := Lib.hid (all_oneCell_toArray (cx_one us))
  generalize cx zs = L at hn cF cT
  generalize cx us = M at hm cT one
  clear hl hu
  have hsz := Lib.hid (size_four L hn.out)
  have hsm : Hid ((Tryz.prog.info? 164).map (·.size) = some M.toArray.size) := by show _ = _; rw [List.size_toArray]; exact size_four M hm.out
  have R1 : Row ((w.alloc (.cells L.toArray 164)).alloc (Obj.cells #[.complex .f64 0 0, .complex .f64 0 0, .complex .f64 0 0, .complex .f64 0 0] 164)) w.heap.size 164 L := (Row.new w _ _).past _
  have R2 : Row ((w.alloc (.cells L.toArray 164)).alloc (Obj.cells #[.complex .f64 0 0, .complex .f64 0 0, .complex .f64 0 0, .complex .f64 0 0] 164)) (w.heap.size + 1) 164 (cx noughts) := Row.new' (w.alloc _) _ (cx noughts) (by simp)
  have BW : Below w.heap.size w ((w.alloc (.cells L.toArray 164)).alloc (Obj.cells #[.complex .f64 0 0, .complex .f64 0 0, .complex .f64 0 0, .complex .f64 0 0] 164)) := ((Below.refl _ _).alloc (Nat.le_refl _) _).alloc (by simp) _
  have H1 := Lib.hid R1.all
  have HR1 := Lib.hid R1
  have HR2 := Lib.hid R2
  clear R1 R2
  go_enter Tryz.func145, Tryz.ntmps145
  go_wp2_with (first | (refine wpList_load_mid rfl 164 (.tmp 1) rfl w.heap.size 0 rfl L _ H1.out Tryz.underlying164 rfl hsz.out ?_))
  refine (cF.out _).mono ?_
  rintro e w1 ⟨rfl, B1⟩
  have R1 := HR1.out.keep B1
  have R2 := HR2.out.keep B1
  have BW1 := BW.trans (B1.mono BW.size)
  have H2 := Lib.hid R1.all
  have HR3 := Lib.hid R2
  clear HR1 HR2 H1 R1 R2 BW B1
  go_wp2_with (first | (refine wpList_load_mid rfl 164 (.tmp 1) rfl w.heap.size 0 rfl L _ H2.out Tryz.underlying164 rfl hsz.out ?_))
  refine (cT.out _).mono ?_
  rintro e w2 ⟨rfl, B2⟩
  have R3 := HR3.out.keep B2
  have BW2 := BW1.trans (B2.mono BW1.size)
  have th : Hid (w2.there (w.heap.size + 1) 0 M.toArray.size) := R3.there 0 _ (by rw [List.size_toArray, hm.out, cx_length]; decide)
  have gb : w.heap.size ≤ w.heap.size + 1 := by omega
  generalize w.heap.size + 1 = g at *
  go_wp2_with (first | (refine wpList_store_mid rfl 164 (.tmp 2) (.tmp 8) rfl g 0 M.toArray rfl rfl th.out hsm.out one.out ?_))
  refine bodyPost_ret (results_row1 rfl _ _ g _ rfl (load_four (L := M) hm.out (put_all hm.out R3))) rfl ?_
  exact ⟨rfl, below_puts BW2 gb _ _⟩
theorem four_any {zs : List (Nat × Nat)} {p q : Nat → Int} (h : Are zs p q) (hf : ∀ k, k < 4 → Fit (p k) ∧ Fit (q k)) :
    ∃ us, Are us (tr 1 p q) (ti 1 p q) ∧ ∀ w, Calls Tryz.prog 145 #[.agg (cx zs).toArray] w fun e w' => e = .returned (.agg (cx us).toArray) ∧ Below w.heap.size w w' := by
  obtain ⟨us, hu, cT⟩ := turned_any 1 (.inl rfl) h hf
  exact ⟨us, hu, four_walk h.1 hu.1 (allFit_any zs h.1 h.bits true ⟨fun _ => h.fits hf, fun _ => rfl⟩) cT⟩
set_option maxHeartbeats 2000000 in
theorem four_else {zs : List (Nat × Nat)} (hl : zs.length = 4) (hb : Bits zs) (hf : ¬ ∀ k, k < 4 → FitBits (zs.getD k (0, 0))) (w : World) :
    Calls Tryz.prog 145 #[.agg (cx zs).toArray] w fun e w' => e = .returned (.agg (cx noughts).toArray) ∧ Below w.heap.size w w' := by
  have cF := Lib.hid (allFit_any zs hl hb false ⟨fun h => (by cases h), fun h => (hf h).elim⟩)
  have hn : Hid ((cx zs).length = 4) := show _ = _ by rw [cx_length, hl]
  generalize cx zs = L at hn cF
  clear hl hb hf
  have hsz := Lib.hid (size_four L hn.out)
  have R1 : Row ((w.alloc (.cells L.toArray 164)).alloc (Obj.cells #[.complex .f64 0 0, .complex .f64 0 0, .complex .f64 0 0, .complex .f64 0 0] 164)) w.heap.size 164 L := (Row.new w _ _).past _
  have R2 : Row ((w.alloc (.cells L.toArray 164)).alloc (Obj.cells #[.complex .f64 0 0, .complex .f64 0 0, .complex .f64 0 0, .complex .f64 0 0] 164)) (w.heap.size + 1) 164 (cx noughts) := Row.new' (w.alloc _) _ (cx noughts) (by simp)
  have BW : Below w.heap.size w ((w.alloc (.cells L.toArray 164)).alloc (Obj.cells #[.complex .f64 0 0, .complex .f64 0 0, .complex .f64 0 0, .complex .f64 0 0] 164)) := ((Below.refl _ _).alloc (Nat.le_refl _) _).alloc (by simp) _
  have H1 := Lib.hid R1.all
  have HR2 := Lib.hid R2
  clear R1 R2
  go_enter Tryz.func145, Tryz.ntmps145
  go_wp2_with (first | (refine wpList_load_mid rfl 164 (.tmp 1) rfl w.heap.size 0 rfl L _ H1.out Tryz.underlying164 rfl hsz.out ?_))
  refine (cF.out _).mono ?_
  rintro e w1 ⟨rfl, B1⟩
  have R3 := HR2.out.keep B1
  have BW1 := BW.trans (B1.mono BW.size)
  clear HR2 H1 BW B1
  have th : Hid (w1.there (w.heap.size + 1) 0 (cx noughts).toArray.size) := R3.there 0 _ (by decide)
  have hsm : Hid ((Tryz.prog.info? 164).map (·.size) = some (cx noughts).toArray.size) := by show _ = _; rw [List.size_toArray]; exact size_four (cx noughts) rfl
  have one := Lib.hid (all_oneCell_toArray (cx_one noughts))
  have gb : w.heap.size ≤ w.heap.size + 1 := by omega
  generalize w.heap.size + 1 = g at *
  go_wp2_with (first | (refine wpList_store_mid rfl 164 (.tmp 2) (.tmp 6) rfl g 0 (cx noughts).toArray rfl rfl th.out hsm.out one.out ?_))
  refine bodyPost_ret (results_row1 rfl _ _ g _ rfl (load_four (L := cx noughts) rfl (put_all rfl R3))) rfl ?_
  exact ⟨rfl, below_puts BW1 gb _ _⟩
theorem tmod4 (p : Int) : p.tmod 4 = 0 ↔ p % 4 = 0 := ⟨fun h => Int.emod_eq_zero_of_dvd (Int.dvd_of_tmod_eq_zero h), fun h => Int.tmod_eq_zero_of_dvd (Int.dvd_of_emod_eq_zero h)⟩
set_option maxHeartbeats 1000000 in
/-- A quarter of a whole one, where there is a whole quarter. -/
theorem quarter_yes {x y : Nat} {a b : Int} (hx : Whole x (4 * a)) (hy : Whole y (4 * b)) (ga : Great (4 * a)) (gb : Great (4 * b)) (w : World) :
    Calls Tryz.prog 153 #[.complex .f64 x y] w fun e w' => e = .returned (.tuple #[.complex .f64 (floatOfInt .f64 a) (floatOfInt .f64 b), .bool true]) ∧ w' = w := by
  have cp := Lib.hid (parts_yes hx hy ga gb)
  obtain ⟨p, hp⟩ : ∃ p, p = 4 * a := ⟨_, rfl⟩
  obtain ⟨q, hq⟩ : ∃ q, q = 4 * b := ⟨_, rfl⟩
  rw [← hp] at cp ga
  rw [← hq] at cp gb
  have m1 : p.tmod 4 = 0 := by rw [hp]; exact Int.mul_tmod_right _ _
  have m2 : q.tmod 4 = 0 := by rw [hq]; exact Int.mul_tmod_right _ _
  have e1 : p.tdiv 4 = a := by rw [hp]; exact Int.mul_tdiv_cancel_left _ (by decide)
  have e2 : q.tdiv 4 = b := by rw [hq]; exact Int.mul_tdiv_cancel_left _ (by decide)
  have g1 := ga.1; have g2 := ga.2; have g3 := gb.1; have g4 := gb.2
  have w1 : wrap64 a = a := by unfold wrap64; omega
  have w2 : wrap64 b = b := by unfold wrap64; omega
  clear hx hy ga gb g1 g2 g3 g4 hp hq
  go_enter Tryz.func153, Tryz.ntmps153
  go_wp2_with fail
  refine (cp.out _).mono ?_
  rintro e v1 ⟨rfl, hw⟩; subst v1
  go_wp2_with fail
  go_ret2
  exact ⟨rfl, rfl⟩
set_option maxHeartbeats 1000000 in
/-- .. where there is none. -/
theorem quarter_no {x y : Nat} {p q : Int} (hx : Whole x p) (hy : Whole y q) (ga : Great p) (gb : Great q) (hn : ¬ (p % 4 = 0 ∧ q % 4 = 0)) (w : World) :
    Calls Tryz.prog 153 #[.complex .f64 x y] w fun e w' => e = .returned (.tuple #[.complex .f64 0 0, .bool false]) ∧ w' = w := by
  have cp := Lib.hid (parts_yes hx hy ga gb)
  clear hx hy ga gb
  by_cases h1 : p % 4 = 0
  · have m1 : p.tmod 4 = 0 := (tmod4 p).2 h1
    obtain ⟨r, hr⟩ : ∃ r, q.tmod 4 = r := ⟨_, rfl⟩
    have t2 : (r != 0) = true := bne_iff_ne.2 (fun h => hn ⟨h1, (tmod4 q).1 (hr.trans h)⟩)
    clear hn h1
    go_enter Tryz.func153, Tryz.ntmps153
    go_wp2_with fail
    refine (cp.out _).mono ?_
    rintro e v1 ⟨rfl, hw⟩; subst v1
    go_wp2_with fail
    go_ret2
    exact ⟨rfl, rfl⟩
  · obtain ⟨r, hr⟩ : ∃ r, p.tmod 4 = r := ⟨_, rfl⟩
    have t2 : (r != 0) = true := bne_iff_ne.2 (fun h => h1 ((tmod4 p).1 (hr.trans h)))
    clear hn h1
    go_enter Tryz.func153, Tryz.ntmps153
    go_wp2_with fail
    refine (cp.out _).mono ?_
    rintro e v1 ⟨rfl, hw⟩; subst v1
    go_wp2_with fail
    go_ret2
    exact ⟨rfl, rfl⟩
end Go.Proofs.YtojpfmlmalmlcaaGreatDoor.G
namespace Go.Proofs.YtojpfmlmalmlcaaGreatDoor.G
open Go.RowKit
/-- A quarter of each, up to k; noughts behind. -/
def quarters (s t : Nat → Int) (k : Nat) : List (Nat × Nat) := (List.range 4).map fun j => if j < k then (floatOfInt .f64 (s j / 4), floatOfInt .f64 (t j / 4)) else (0, 0)
theorem quarters_length (s t : Nat → Int) (k : Nat) : (quarters s t k).length = 4 := by simp [quarters]
theorem quarters_zero (s t : Nat → Int) : quarters s t 0 = noughts := by simp [quarters, noughts, List.range_succ]
theorem quarters_get (s t : Nat → Int) (k j : Nat) (hj : j < 4) : (quarters s t k).getD j (0, 0) = if j < k then (floatOfInt .f64 (s j / 4), floatOfInt .f64 (t j / 4)) else (0, 0) := by simp [quarters, List.getD, hj]
theorem quarters_next (s t : Nat → Int) (k : Nat) (hk : k < 4) : (cx (quarters s t k)).set k (.complex .f64 (floatOfInt .f64 (s k / 4)) (floatOfInt .f64 (t k / 4))) = cx (quarters s t (k + 1)) := by
  rcases lt4 hk with rfl | rfl | rfl | rfl <;> simp [quarters, cx, List.range_succ]
theorem quarters_cell (s t : Nat → Int) (k : Nat) (hk : k < 4) : (cx (quarters s t k))[k]? = some (.complex .f64 0 0) := by
  rw [cx_get _ _ (by rw [quarters_length]; exact hk), quarters_get _ _ _ _ hk, if_neg (by omega)]
/-- A store of a complex number, as the walk asks it. -/
theorem store_cx (x : Addr) (a b : Nat) (w : World) : (store x (.complex .f64 a b)).run Tryz.prog w = stored Tryz.prog w x (.complex .f64 a b) .plain := run_store Tryz.prog w x _ .plain rfl
/-- Behind k quarters. -/
def BackAt (w : World) (g2 g4 : Nat) (s t : Nat → Int) (v : Value) (wr : World) : Prop :=
  ∃ k : Nat, k ≤ 4 ∧ v = .int .i64 (k : Int) ∧ Row wr g2 164 (cx noughts) ∧ Row wr g4 164 (cx (quarters s t k)) ∧ Below w.heap.size w wr ∧ ∀ j, j < k → s j % 4 = 0 ∧ t j % 4 = 0
set_option maxHeartbeats 4000000 in
theorem back_walk {zs us : List (Nat × Nat)} (hl : zs.length = 4) (s t : Nat → Int) (hu : Are us s t) (hg : ∀ k, k < 4 → Great (s k) ∧ Great (t k)) (r : Bool) (hr : r = true ↔ ∀ k, k < 4 → s k % 4 = 0 ∧ t k % 4 = 0)
    (cF : Hid (∀ w, Calls Tryz.prog 151 #[.agg (cx zs).toArray] w fun e w' => e = .returned (.bool true) ∧ Below w.heap.size w w'))
    (cT : Hid (∀ w, Calls Tryz.prog 152 #[.agg (cx zs).toArray, .int .i64 (-1)] w fun e w' => e = .returned (.agg (cx us).toArray) ∧ Below w.heap.size w w')) (w : World) :
    Calls Tryz.prog 141 #[.agg (cx zs).toArray] w fun e w' => e = .returned (.tuple #[.agg (cx (if r then quarters s t 4 else noughts)).toArray, .bool r]) ∧ Below w.heap.size w w' := by
  have hn : Hid ((cx zs).length = 4) := show _ = _ by rw [cx_length, hl]
  have hc : Hid (∀ k, k < 4 → (cx us)[k]? = some (.complex .f64 (us.getD k (0, 0)).1 (us.getD k (0, 0)).2)) := fun k hk => cx_get us k (by rw [hu.1]; exact hk)
  have HU := Lib.hid hu
  have HG := Lib.hid hg
  have HR := Lib.hid hr
  obtain ⟨O, hO⟩ : ∃ O, O = cx (if r then quarters s t 4 else noughts) := ⟨_, rfl⟩
  rw [← hO]
  have HO := Lib.hid hO
  generalize cx zs = L at hn cF cT
  generalize cx us = M at hc cT
  clear hl hu hg hr hO
  have hsz := Lib.hid (size_four L hn.out)
  have R1 : Row ((w.alloc (.cells L.toArray 164)).alloc (Obj.cells #[.complex .f64 0 0, .complex .f64 0 0, .complex .f64 0 0, .complex .f64 0 0] 164)) w.heap.size 164 L := (Row.new w _ _).past _
  have R2 : Row ((w.alloc (.cells L.toArray 164)).alloc (Obj.cells #[.complex .f64 0 0, .complex .f64 0 0, .complex .f64 0 0, .complex .f64 0 0] 164)) (w.heap.size + 1) 164 (cx noughts) := Row.new' (w.alloc _) _ (cx noughts) (by simp)
  have BW : Below w.heap.size w ((w.alloc (.cells L.toArray 164)).alloc (Obj.cells #[.complex .f64 0 0, .complex .f64 0 0, .complex .f64 0 0, .complex .f64 0 0] 164)) := ((Below.refl _ _).alloc (Nat.le_refl _) _).alloc (by simp) _
  have H1 := Lib.hid R1.all
  have HR1 := Lib.hid R1
  have HR2 := Lib.hid R2
  clear R1 R2
  go_enter Tryz.func141, Tryz.ntmps141
  go_wp2_with (first | (refine wpList_load_mid rfl 164 (.tmp 1) rfl w.heap.size 0 rfl L _ H1.out Tryz.underlying164 rfl hsz.out ?_))
  refine (cF.out _).mono ?_
  rintro e w1 ⟨rfl, B1⟩
  have R1 := (HR1.out.keep B1).past (Obj.cells #[.complex .f64 0 0, .complex .f64 0 0, .complex .f64 0 0, .complex .f64 0 0] 164)
  have R2 := (HR2.out.keep B1).past (Obj.cells #[.complex .f64 0 0, .complex .f64 0 0, .complex .f64 0 0, .complex .f64 0 0] 164)
  have R4 : Row (w1.alloc (Obj.cells #[.complex .f64 0 0, .complex .f64 0 0, .complex .f64 0 0, .complex .f64 0 0] 164)) w1.heap.size 164 (cx noughts) := Row.new w1 _ (cx noughts)
  have BW1 := BW.trans (B1.mono BW.size)
  have BW2 := BW1.alloc BW1.size (Obj.cells #[.complex .f64 0 0, .complex .f64 0 0, .complex .f64 0 0, .complex .f64 0 0] 164)
  have ne : w.heap.size + 1 ≠ w1.heap.size := by have := (HR2.out.keep B1).lt; omega
  have gb : w.heap.size ≤ w1.heap.size := BW1.size
  have gb2 : w.heap.size ≤ w.heap.size + 1 := by omega
  have H2 := Lib.hid R1.all
  have HR3 := Lib.hid R2
  have HR4 := Lib.hid R4
  clear HR1 HR2 H1 R1 R2 BW B1 R4 BW1
  go_wp2_with (first | (refine wpList_load_mid rfl 164 (.tmp 1) rfl w.heap.size 0 rfl L _ H2.out Tryz.underlying164 rfl hsz.out ?_))
  refine (cT.out _).mono ?_
  rintro e w2 ⟨rfl, B2⟩
  have R3 := HR3.out.keep B2
  have R4 := HR4.out.keep B2
  have BW3 := BW2.trans (B2.mono BW2.size)
  generalize w.heap.size + 1 = g2 at *
  generalize w1.heap.size = g4 at *
  clear HR3 HR4 H2 B2 BW2 cT cF hn hsz
  go_wp2_with fail
  go_loopw [15] (fun v wr => BackAt w g2 g4 s t v wr) (fun v _ => 4 - (intOf v).toNat)
  case atStart => exact ⟨0, by omega, rfl, R3, by rw [quarters_zero]; exact R4, BW3, fun j hj => absurd hj (by omega)⟩
  case round =>
    clear R3 R4 BW3
    obtain ⟨k, hk, rfl, R2, R4, BR, hq⟩ := hrel
    have HQ := Lib.hid hq
    clear hq
    by_cases h4 : k < 4
    · have d1 : decide ((k : Int) < 4) = true := by simp; omega
      have i0 : (0 : Int) ≤ (k : Int) := by omega
      have i4 : (k : Int) < 4 := by omega
      have hx := at_four M k _ h4 (hc.out k h4)
      have hw := HU.out.2 k h4
      obtain ⟨ga, gb'⟩ := HG.out k h4
      by_cases hq : s k % 4 = 0 ∧ t k % 4 = 0
      · have HQ2 : Hid (∀ j, j < k + 1 → s j % 4 = 0 ∧ t j % 4 = 0) := fun j hj => by
          by_cases hjk : j < k
          · exact HQ.out j hjk
          · obtain rfl : j = k := by omega
            exact hq
        have e1 : s k = 4 * (s k / 4) := by omega
        have e2 : t k = 4 * (t k / 4) := by omega
        have cQ := Lib.hid (quarter_yes (hw.1.cast e1) (hw.2.cast e2) (e1 ▸ ga) (e2 ▸ gb'))
        have R5 := R4.set k (.complex .f64 (floatOfInt .f64 (s k / 4)) (floatOfInt .f64 (t k / 4)))
        rw [quarters_next s t k h4] at R5
        have R6 := R2.other (a := ⟨g4, k, none⟩) ne (.complex .f64 (floatOfInt .f64 (s k / 4)) (floatOfInt .f64 (t k / 4)))
        have B5 := BR.setCell (p := ⟨g4, k, none⟩) gb (.complex .f64 (floatOfInt .f64 (s k / 4)) (floatOfInt .f64 (t k / 4)))
        have c4 := (R4.cell k).trans (quarters_cell s t k h4)
        have f4 := R4.frozen k
        have H5 := Lib.hid R5; have H6 := Lib.hid R6; have HB5 := Lib.hid B5
        clear R5 R6 B5 R2 R4 BR hw ga gb' hq e1 e2 HQ
        have st := store_cx ⟨g4, k, none⟩
        generalize us.getD k (0, 0) = z at hx cQ
        generalize floatOfInt .f64 (s k / 4) = a at *
        generalize floatOfInt .f64 (t k / 4) = b at *
        go_wp2_with fail
        refine (cQ.out _).mono ?_
        rintro e v1 ⟨rfl, hw⟩; subst v1
        go_wp2_with fail
        go_roundw
        case rel => exact ⟨k + 1, by omega, ret_val (by omega), H6.out, H5.out, HB5.out, HQ2.out⟩
        case measure => simp [intOf]; omega
      · have HE : Hid (r = false) := show _ = _ by
          cases hr : r with
          | false => rfl
          | true => exact absurd (HR.out.1 hr k h4) hq
        have HO2 : Hid (cx noughts = O) := show _ = _ by rw [HO.out, HE.out]; rfl
        have cQ := Lib.hid (quarter_no hw.1 hw.2 ga gb' hq)
        have th : Hid (wr.there g2 0 (cx noughts).toArray.size) := R2.there 0 _ (by decide)
        have hsm : Hid ((Tryz.prog.info? 164).map (·.size) = some (cx noughts).toArray.size) := by show _ = _; rw [List.size_toArray]; exact size_four (cx noughts) rfl
        have one := Lib.hid (all_oneCell_toArray (cx_one noughts))
        clear hw ga gb' hq HQ R4
        generalize us.getD k (0, 0) = z at hx cQ
        go_wp2_with fail
        refine (cQ.out _).mono ?_
        rintro e v1 ⟨rfl, hw⟩; subst v1
        go_wp2_with (first | (refine wpList_store_mid rfl 164 (.tmp 2) (.tmp 26) rfl g2 0 (cx noughts).toArray rfl rfl th.out hsm.out one.out ?_))
        try simp only [Exit.inBlock, Exit.then]
        refine bodyPost_ret (results_row2 rfl _ _ g2 _ rfl (load_four (L := cx noughts) rfl (put_all rfl R2))) rfl ?_
        exact ⟨by rw [HO2.out, HE.out]; rfl, below_puts BR gb2 _ _⟩
    · obtain rfl : k = 4 := by omega
      have HE : Hid (r = true) := HR.out.2 HQ.out
      have HO2 : Hid (cx (quarters s t 4) = O) := show _ = _ by rw [HO.out, HE.out]; rfl
      have hm : Hid ((cx (quarters s t 4)).length = 4) := show _ = _ by rw [cx_length, quarters_length]
      have one := Lib.hid (all_oneCell_toArray (cx_one (quarters s t 4)))
      rw [HO2.out] at R4 hm one
      have hsm := Lib.hid (size_four O hm.out)
      have hsm2 : Hid ((Tryz.prog.info? 164).map (·.size) = some O.toArray.size) := by show _ = _; rw [List.size_toArray]; exact hsm.out
      have H4 := Lib.hid R4.all
      have th : Hid (wr.there g2 0 O.toArray.size) := R2.there 0 _ (by rw [List.size_toArray, hm.out]; decide)
      clear HQ R4
      go_wp2_with (first | (refine wpList_load_mid rfl 164 (.tmp 4) rfl g4 0 rfl O _ H4.out Tryz.underlying164 rfl hsm.out ?_) | (refine wpList_store_mid rfl 164 (.tmp 2) (.tmp 31) rfl g2 0 O.toArray rfl rfl th.out hsm2.out one.out ?_))
      refine bodyPost_ret (results_row2 rfl _ _ g2 _ rfl (load_four (L := O) hm.out (put_all hm.out R2))) rfl ?_
      exact ⟨by rw [HE.out]; rfl, below_puts BR gb2 _ _⟩
theorem turned_great {way : Int} {p q : Nat → Int} (hf : ∀ k, k < 4 → Fit (p k) ∧ Fit (q k)) (k : Nat) : Great (tr way p q k) ∧ Great (ti way p q k) := by
  have h := t_abs (way := way) (p := p) (q := q) (k := k) (B := 1125899906842624) (fun j hj => ⟨(hf j hj).1, (hf j hj).2⟩)
  unfold Great
  omega
/-- Back, of fit ones. -/
theorem back_any {zs : List (Nat × Nat)} {p q : Nat → Int} (h : Are zs p q) (hf : ∀ k, k < 4 → Fit (p k) ∧ Fit (q k)) (r : Bool) (hr : r = true ↔ ∀ k, k < 4 → tr (-1) p q k % 4 = 0 ∧ ti (-1) p q k % 4 = 0) (w : World) :
    Calls Tryz.prog 141 #[.agg (cx zs).toArray] w fun e w' => e = .returned (.tuple #[.agg (cx (if r then quarters (tr (-1) p q) (ti (-1) p q) 4 else noughts)).toArray, .bool r]) ∧ Below w.heap.size w w' := by
  obtain ⟨us, hu, cT⟩ := turned_any (-1) (.inr rfl) h hf
  exact back_walk h.1 _ _ hu (fun k _ => turned_great hf k) r hr (allFit_any zs h.1 h.bits true ⟨fun _ => h.fits hf, fun _ => rfl⟩) cT w
set_option maxHeartbeats 2000000 in
/-- Back, of others. -/
theorem back_else {zs : List (Nat × Nat)} (hl : zs.length = 4) (hb : Bits zs) (hf : ¬ ∀ k, k < 4 → FitBits (zs.getD k (0, 0))) (w : World) :
    Calls Tryz.prog 141 #[.agg (cx zs).toArray] w fun e w' => e = .returned (.tuple #[.agg (cx noughts).toArray, .bool false]) ∧ Below w.heap.size w w' := by
  have cF := Lib.hid (allFit_any zs hl hb false ⟨fun h => (by cases h), fun h => (hf h).elim⟩)
  have hn : Hid ((cx zs).length = 4) := show _ = _ by rw [cx_length, hl]
  generalize cx zs = L at hn cF
  clear hl hb hf
  have hsz := Lib.hid (size_four L hn.out)
  have R1 : Row ((w.alloc (.cells L.toArray 164)).alloc (Obj.cells #[.complex .f64 0 0, .complex .f64 0 0, .complex .f64 0 0, .complex .f64 0 0] 164)) w.heap.size 164 L := (Row.new w _ _).past _
  have R2 : Row ((w.alloc (.cells L.toArray 164)).alloc (Obj.cells #[.complex .f64 0 0, .complex .f64 0 0, .complex .f64 0 0, .complex .f64 0 0] 164)) (w.heap.size + 1) 164 (cx noughts) := Row.new' (w.alloc _) _ (cx noughts) (by simp)
  have BW : Below w.heap.size w ((w.alloc (.cells L.toArray 164)).alloc (Obj.cells #[.complex .f64 0 0, .complex .f64 0 0, .complex .f64 0 0, .complex .f64 0 0] 164)) := ((Below.refl _ _).alloc (Nat.le_refl _) _).alloc (by simp) _
  have H1 := Lib.hid R1.all
  have HR2 := Lib.hid R2
  clear R1 R2
  go_enter Tryz.func141, Tryz.ntmps141
  go_wp2_with (first | (refine wpList_load_mid rfl 164 (.tmp 1) rfl w.heap.size 0 rfl L _ H1.out Tryz.underlying164 rfl hsz.out ?_))
  refine (cF.out _).mono ?_
  rintro e w1 ⟨rfl, B1⟩
  have R3 := HR2.out.keep B1
  have BW1 := BW.trans (B1.mono BW.size)
  clear HR2 H1 BW B1
  have th : Hid (w1.there (w.heap.size + 1) 0 (cx noughts).toArray.size) := R3.there 0 _ (by decide)
  have hsm : Hid ((Tryz.prog.info? 164).map (·.size) = some (cx noughts).toArray.size) := by show _ = _; rw [List.size_toArray]; exact size_four (cx noughts) rfl
  have one := Lib.hid (all_oneCell_toArray (cx_one noughts))
  have gb : w.heap.size ≤ w.heap.size + 1 := by omega
  generalize w.heap.size + 1 = g at *
  go_wp2_with (first | (refine wpList_store_mid rfl 164 (.tmp 2) (.tmp 12) rfl g 0 (cx noughts).toArray rfl rfl th.out hsm.out one.out ?_))
  refine bodyPost_ret (results_row2 rfl _ _ g _ rfl (load_four (L := cx noughts) rfl (put_all rfl R3))) rfl ?_
  exact ⟨rfl, below_puts BW1 gb _ _⟩
end Go.Proofs.YtojpfmlmalmlcaaGreatDoor.G
