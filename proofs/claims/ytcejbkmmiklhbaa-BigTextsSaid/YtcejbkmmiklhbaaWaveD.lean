/-
  wave's Back: of fit numbers, and of others. No condition beyond what each contract says.
-/
import Derived.Test.YtcejbkmmiklhbaaWaveC
namespace Go.Proofs.Ytcejbkmmiklhbaa
open Go.RowKit

/-- A quarter of each, up to k; noughts behind. -/
def quarters (s t : Nat → Int) (k : Nat) : List (Nat × Nat) := (List.range 4).map fun j => if j < k then (floatOfInt .f64 (s j / 4), floatOfInt .f64 (t j / 4)) else (0, 0)
theorem quarters_length (s t : Nat → Int) (k : Nat) : (quarters s t k).length = 4 := by simp [quarters]
theorem quarters_zero (s t : Nat → Int) : quarters s t 0 = noughts := by simp [quarters, noughts, List.range_succ]
theorem quarters_get (s t : Nat → Int) (k j : Nat) (hj : j < 4) : (quarters s t k).getD j (0, 0) = if j < k then (floatOfInt .f64 (s j / 4), floatOfInt .f64 (t j / 4)) else (0, 0) := by simp [quarters, List.getD, hj]
theorem quarters_next (s t : Nat → Int) (k : Nat) (hk : k < 4) : (cx (quarters s t k)).set k (.complex .f64 (floatOfInt .f64 (s k / 4)) (floatOfInt .f64 (t k / 4))) = cx (quarters s t (k + 1)) := by
  rcases lt4 hk with rfl | rfl | rfl | rfl <;> simp [quarters, cx, List.range_succ]
theorem quarters_cell (s t : Nat → Int) (k : Nat) (hk : k < 4) : (cx (quarters s t k))[k]? = some (.complex .f64 0 0) := by
  rw [cx_get _ _ (by rw [quarters_length]; exact hk), quarters_get _ _ _ _ hk, if_neg (by omega)]

/-- A store of a complex number, as the walk asks it. -/
theorem store_cx (x : Addr) (a b : Nat) (w : World) : (store x (.complex .f64 a b)).run Try.prog w = stored Try.prog w x (.complex .f64 a b) .plain := run_store Try.prog w x _ .plain rfl

/-- Behind k quarters. -/
def BackAt (w : World) (g2 g4 : Nat) (s t : Nat → Int) (v : Value) (wr : World) : Prop :=
  ∃ k : Nat, k ≤ 4 ∧ v = .int .i64 (k : Int) ∧ Row wr g2 76 (cx noughts) ∧ Row wr g4 76 (cx (quarters s t k)) ∧ Below w.heap.size w wr ∧ ∀ j, j < k → s j % 4 = 0 ∧ t j % 4 = 0

set_option maxHeartbeats 4000000 in
theorem back_walk {zs us : List (Nat × Nat)} (hl : zs.length = 4) (s t : Nat → Int) (hu : Are us s t) (hg : ∀ k, k < 4 → Great (s k) ∧ Great (t k)) (r : Bool) (hr : r = true ↔ ∀ k, k < 4 → s k % 4 = 0 ∧ t k % 4 = 0)
    (cF : Hid (∀ w, Calls Try.prog 64 #[.agg (cx zs).toArray] w fun e w' => e = .returned (.bool true) ∧ Below w.heap.size w w'))
    (cT : Hid (∀ w, Calls Try.prog 65 #[.agg (cx zs).toArray, .int .i64 (-1)] w fun e w' => e = .returned (.agg (cx us).toArray) ∧ Below w.heap.size w w')) (w : World) :
    Calls Try.prog 59 #[.agg (cx zs).toArray] w fun e w' => e = .returned (.tuple #[.agg (cx (if r then quarters s t 4 else noughts)).toArray, .bool r]) ∧ Below w.heap.size w w' := by
  have hn : Hid ((cx zs).length = 4) := show _ = _ by rw [cx_length, hl]
  have hc : Hid (∀ k, k < 4 → (cx us)[k]? = some (.complex .f64 (us.getD k (0, 0)).1 (us.getD k (0, 0)).2)) := fun k hk => cx_get us k (by rw [hu.1]; exact hk)
  have HU := Lib.hid hu
  have HG := Lib.hid hg
  have HR := Lib.hid hr
  obtain ⟨O, hO⟩ : ∃ O, O = cx (if r then quarters s t 4 else noughts) := ⟨_, rfl⟩
  rw [← hO]
  have HO := Lib.hid hO
  generalize cx zs = L at hn cF cT
  generalize cx us = M at hc cT
  clear hl hu hg hr hO
  have hsz := Lib.hid (size_four L hn.out)
  have R1 : Row ((w.alloc (.cells L.toArray 76)).alloc (Obj.cells #[.complex .f64 0 0, .complex .f64 0 0, .complex .f64 0 0, .complex .f64 0 0] 76)) w.heap.size 76 L := (Row.new w _ _).past _
  have R2 : Row ((w.alloc (.cells L.toArray 76)).alloc (Obj.cells #[.complex .f64 0 0, .complex .f64 0 0, .complex .f64 0 0, .complex .f64 0 0] 76)) (w.heap.size + 1) 76 (cx noughts) := Row.new' (w.alloc _) _ (cx noughts) (by simp)
  have BW : Below w.heap.size w ((w.alloc (.cells L.toArray 76)).alloc (Obj.cells #[.complex .f64 0 0, .complex .f64 0 0, .complex .f64 0 0, .complex .f64 0 0] 76)) := ((Below.refl _ _).alloc (Nat.le_refl _) _).alloc (by simp) _
  have H1 := Lib.hid R1.all
  have HR1 := Lib.hid R1
  have HR2 := Lib.hid R2
  clear R1 R2
  go_enter Try.func59, Try.ntmps59
  go_wp2_with (first | (refine wpList_load_mid rfl 76 (.tmp 1) rfl w.heap.size 0 rfl L _ H1.out Try.underlying76 rfl hsz.out ?_))
  refine (cF.out _).mono ?_
  rintro e w1 ⟨rfl, B1⟩
  have R1 := (HR1.out.keep B1).past (Obj.cells #[.complex .f64 0 0, .complex .f64 0 0, .complex .f64 0 0, .complex .f64 0 0] 76)
  have R2 := (HR2.out.keep B1).past (Obj.cells #[.complex .f64 0 0, .complex .f64 0 0, .complex .f64 0 0, .complex .f64 0 0] 76)
  have R4 : Row (w1.alloc (Obj.cells #[.complex .f64 0 0, .complex .f64 0 0, .complex .f64 0 0, .complex .f64 0 0] 76)) w1.heap.size 76 (cx noughts) := Row.new w1 _ (cx noughts)
  have BW1 := BW.trans (B1.mono BW.size)
  have BW2 := BW1.alloc BW1.size (Obj.cells #[.complex .f64 0 0, .complex .f64 0 0, .complex .f64 0 0, .complex .f64 0 0] 76)
  have ne : w.heap.size + 1 ≠ w1.heap.size := by have := (HR2.out.keep B1).lt; omega
  have gb : w.heap.size ≤ w1.heap.size := BW1.size
  have gb2 : w.heap.size ≤ w.heap.size + 1 := by omega
  have H2 := Lib.hid R1.all
  have HR3 := Lib.hid R2
  have HR4 := Lib.hid R4
  clear HR1 HR2 H1 R1 R2 BW B1 R4 BW1
  go_wp2_with (first | (refine wpList_load_mid rfl 76 (.tmp 1) rfl w.heap.size 0 rfl L _ H2.out Try.underlying76 rfl hsz.out ?_))
  refine (cT.out _).mono ?_
  rintro e w2 ⟨rfl, B2⟩
  have R3 := HR3.out.keep B2
  have R4 := HR4.out.keep B2
  have BW3 := BW2.trans (B2.mono BW2.size)
  generalize w.heap.size + 1 = g2 at *
  generalize w1.heap.size = g4 at *
  clear HR3 HR4 H2 B2 BW2 cT cF hn hsz
  go_wp2_with fail
  go_loopw [15] (fun v wr => BackAt w g2 g4 s t v wr) (fun v _ => 4 - (intOf v).toNat)
  case atStart => exact ⟨0, by omega, rfl, R3, by rw [quarters_zero]; exact R4, BW3, fun j hj => absurd hj (by omega)⟩
  case round =>
    clear R3 R4 BW3
    obtain ⟨k, hk, rfl, R2, R4, BR, hq⟩ := hrel
    have HQ := Lib.hid hq
    clear hq
    by_cases h4 : k < 4
    · have d1 : decide ((k : Int) < 4) = true := by simp; omega
      have i0 : (0 : Int) ≤ (k : Int) := by omega
      have i4 : (k : Int) < 4 := by omega
      have hx := at_four M k _ h4 (hc.out k h4)
      have hw := HU.out.2 k h4
      obtain ⟨ga, gb'⟩ := HG.out k h4
      by_cases hq : s k % 4 = 0 ∧ t k % 4 = 0
      · have HQ2 : Hid (∀ j, j < k + 1 → s j % 4 = 0 ∧ t j % 4 = 0) := fun j hj => by
          by_cases hjk : j < k
          · exact HQ.out j hjk
          · obtain rfl : j = k := by omega
            exact hq
        have e1 : s k = 4 * (s k / 4) := by omega
        have e2 : t k = 4 * (t k / 4) := by omega
        have cQ := Lib.hid (quarter_yes (hw.1.cast e1) (hw.2.cast e2) (e1 ▸ ga) (e2 ▸ gb'))
        have R5 := R4.set k (.complex .f64 (floatOfInt .f64 (s k / 4)) (floatOfInt .f64 (t k / 4)))
        rw [quarters_next s t k h4] at R5
        have R6 := R2.other (a := ⟨g4, k, none⟩) ne (.complex .f64 (floatOfInt .f64 (s k / 4)) (floatOfInt .f64 (t k / 4)))
        have B5 := BR.setCell (p := ⟨g4, k, none⟩) gb (.complex .f64 (floatOfInt .f64 (s k / 4)) (floatOfInt .f64 (t k / 4)))
        have c4 := (R4.cell k).trans (quarters_cell s t k h4)
        have f4 := R4.frozen k
        have H5 := Lib.hid R5; have H6 := Lib.hid R6; have HB5 := Lib.hid B5
        clear R5 R6 B5 R2 R4 BR hw ga gb' hq e1 e2 HQ
        have st := store_cx ⟨g4, k, none⟩
        generalize us.getD k (0, 0) = z at hx cQ
        generalize floatOfInt .f64 (s k / 4) = a at *
        generalize floatOfInt .f64 (t k / 4) = b at *
        go_wp2_with fail
        refine (cQ.out _).mono ?_
        rintro e v1 ⟨rfl, hw⟩; subst v1
        go_wp2_with fail
        go_roundw
        case rel => exact ⟨k + 1, by omega, ret_val (by omega), H6.out, H5.out, HB5.out, HQ2.out⟩
        case measure => simp [intOf]; omega
      · have HE : Hid (r = false) := show _ = _ by
          cases hr : r with
          | false => rfl
          | true => exact absurd (HR.out.1 hr k h4) hq
        have HO2 : Hid (cx noughts = O) := show _ = _ by rw [HO.out, HE.out]; rfl
        have cQ := Lib.hid (quarter_no hw.1 hw.2 ga gb' hq)
        have th : Hid (wr.there g2 0 (cx noughts).toArray.size) := R2.there 0 _ (by decide)
        have hsm : Hid ((Try.prog.info? 76).map (·.size) = some (cx noughts).toArray.size) := by show _ = _; rw [List.size_toArray]; exact size_four (cx noughts) rfl
        have one := Lib.hid (all_oneCell_toArray (cx_one noughts))
        clear hw ga gb' hq HQ R4
        generalize us.getD k (0, 0) = z at hx cQ
        go_wp2_with fail
        refine (cQ.out _).mono ?_
        rintro e v1 ⟨rfl, hw⟩; subst v1
        go_wp2_with (first | (refine wpList_store_mid rfl 76 (.tmp 2) (.tmp 26) rfl g2 0 (cx noughts).toArray rfl rfl th.out hsm.out one.out ?_))
        try simp only [Exit.inBlock, Exit.then]
        refine bodyPost_ret (results_row2 rfl _ _ g2 _ rfl (load_four (L := cx noughts) rfl (put_all rfl R2))) rfl ?_
        exact ⟨by rw [HO2.out, HE.out]; rfl, below_puts BR gb2 _ _⟩
    · obtain rfl : k = 4 := by omega
      have HE : Hid (r = true) := HR.out.2 HQ.out
      have HO2 : Hid (cx (quarters s t 4) = O) := show _ = _ by rw [HO.out, HE.out]; rfl
      have hm : Hid ((cx (quarters s t 4)).length = 4) := show _ = _ by rw [cx_length, quarters_length]
      have one := Lib.hid (all_oneCell_toArray (cx_one (quarters s t 4)))
      rw [HO2.out] at R4 hm one
      have hsm := Lib.hid (size_four O hm.out)
      have hsm2 : Hid ((Try.prog.info? 76).map (·.size) = some O.toArray.size) := by show _ = _; rw [List.size_toArray]; exact hsm.out
      have H4 := Lib.hid R4.all
      have th : Hid (wr.there g2 0 O.toArray.size) := R2.there 0 _ (by rw [List.size_toArray, hm.out]; decide)
      clear HQ R4
      go_wp2_with (first | (refine wpList_load_mid rfl 76 (.tmp 4) rfl g4 0 rfl O _ H4.out Try.underlying76 rfl hsm.out ?_) | (refine wpList_store_mid rfl 76 (.tmp 2) (.tmp 31) rfl g2 0 O.toArray rfl rfl th.out hsm2.out one.out ?_))
      refine bodyPost_ret (results_row2 rfl _ _ g2 _ rfl (load_four (L := O) hm.out (put_all hm.out R2))) rfl ?_
      exact ⟨by rw [HE.out]; rfl, below_puts BR gb2 _ _⟩

theorem turned_great {way : Int} {p q : Nat → Int} (hf : ∀ k, k < 4 → Fit (p k) ∧ Fit (q k)) (k : Nat) : Great (tr way p q k) ∧ Great (ti way p q k) := by
  have h := t_abs (way := way) (p := p) (q := q) (k := k) (B := 1125899906842624) (fun j hj => ⟨(hf j hj).1, (hf j hj).2⟩)
  unfold Great
  omega

/-- Back, of fit ones. -/
theorem back_any {zs : List (Nat × Nat)} {p q : Nat → Int} (h : Are zs p q) (hf : ∀ k, k < 4 → Fit (p k) ∧ Fit (q k)) (r : Bool) (hr : r = true ↔ ∀ k, k < 4 → tr (-1) p q k % 4 = 0 ∧ ti (-1) p q k % 4 = 0) (w : World) :
    Calls Try.prog 59 #[.agg (cx zs).toArray] w fun e w' => e = .returned (.tuple #[.agg (cx (if r then quarters (tr (-1) p q) (ti (-1) p q) 4 else noughts)).toArray, .bool r]) ∧ Below w.heap.size w w' := by
  obtain ⟨us, hu, cT⟩ := turned_any (-1) (.inr rfl) h hf
  exact back_walk h.1 _ _ hu (fun k _ => turned_great hf k) r hr (allFit_any zs h.1 h.bits true ⟨fun _ => h.fits hf, fun _ => rfl⟩) cT w

set_option maxHeartbeats 2000000 in
/-- Back, of others. -/
theorem back_else {zs : List (Nat × Nat)} (hl : zs.length = 4) (hb : Bits zs) (hf : ¬ ∀ k, k < 4 → FitBits (zs.getD k (0, 0))) (w : World) :
    Calls Try.prog 59 #[.agg (cx zs).toArray] w fun e w' => e = .returned (.tuple #[.agg (cx noughts).toArray, .bool false]) ∧ Below w.heap.size w w' := by
  have cF := Lib.hid (allFit_any zs hl hb false ⟨fun h => (by cases h), fun h => (hf h).elim⟩)
  have hn : Hid ((cx zs).length = 4) := show _ = _ by rw [cx_length, hl]
  generalize cx zs = L at hn cF
  clear hl hb hf
  have hsz := Lib.hid (size_four L hn.out)
  have R1 : Row ((w.alloc (.cells L.toArray 76)).alloc (Obj.cells #[.complex .f64 0 0, .complex .f64 0 0, .complex .f64 0 0, .complex .f64 0 0] 76)) w.heap.size 76 L := (Row.new w _ _).past _
  have R2 : Row ((w.alloc (.cells L.toArray 76)).alloc (Obj.cells #[.complex .f64 0 0, .complex .f64 0 0, .complex .f64 0 0, .complex .f64 0 0] 76)) (w.heap.size + 1) 76 (cx noughts) := Row.new' (w.alloc _) _ (cx noughts) (by simp)
  have BW : Below w.heap.size w ((w.alloc (.cells L.toArray 76)).alloc (Obj.cells #[.complex .f64 0 0, .complex .f64 0 0, .complex .f64 0 0, .complex .f64 0 0] 76)) := ((Below.refl _ _).alloc (Nat.le_refl _) _).alloc (by simp) _
  have H1 := Lib.hid R1.all
  have HR2 := Lib.hid R2
  clear R1 R2
  go_enter Try.func59, Try.ntmps59
  go_wp2_with (first | (refine wpList_load_mid rfl 76 (.tmp 1) rfl w.heap.size 0 rfl L _ H1.out Try.underlying76 rfl hsz.out ?_))
  refine (cF.out _).mono ?_
  rintro e w1 ⟨rfl, B1⟩
  have R3 := HR2.out.keep B1
  have BW1 := BW.trans (B1.mono BW.size)
  clear HR2 H1 BW B1
  have th : Hid (w1.there (w.heap.size + 1) 0 (cx noughts).toArray.size) := R3.there 0 _ (by decide)
  have hsm : Hid ((Try.prog.info? 76).map (·.size) = some (cx noughts).toArray.size) := by show _ = _; rw [List.size_toArray]; exact size_four (cx noughts) rfl
  have one := Lib.hid (all_oneCell_toArray (cx_one noughts))
  have gb : w.heap.size ≤ w.heap.size + 1 := by omega
  generalize w.heap.size + 1 = g at *
  go_wp2_with (first | (refine wpList_store_mid rfl 76 (.tmp 2) (.tmp 12) rfl g 0 (cx noughts).toArray rfl rfl th.out hsm.out one.out ?_))
  refine bodyPost_ret (results_row2 rfl _ _ g _ rfl (load_four (L := cx noughts) rfl (put_all rfl R3))) rfl ?_
  exact ⟨rfl, below_puts BW1 gb _ _⟩

end Go.Proofs.Ytcejbkmmiklhbaa
