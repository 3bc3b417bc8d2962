/-
  An array of eight numbers that came in; what the law's made and sum do of it. No condition beyond what each contract says.
-/
import Derived.Test.YtdclgdpifamomaaAwake8
namespace Go.Proofs.Ytdclgdpifamomaa
open Go.ChangeShapes Go.WideShapes Go.ChangeAt Go.RowKit

/-- A number of a cell. -/
def numOf : Value → Int
  | .int _ n => n
  | _ => 0

/-- An array of eight numbers that came in. -/
theorem oct_of {H : Type} {enc : TypeId × Value → H} {w : World} {base : Nat} {spare : Nat → Bool} {held : Bool} {r : Reach} {b0 : Nat} {v : Value} {d : DataW H} {p : List MemPlace}
    (hv : Value.okWide Try.prog w r b0 22 v) (h : DataW.Trod enc Try.prog w base spare held 22 v d p) :
    ∃ ls : List Int, ls.length = 8 ∧ v = .agg (intCells ls).toArray := by
  simp only [Value.okWide, Try.underlying22] at hv
  obtain ⟨cs, rfl, hs, _⟩ := hv
  have h8 : cs.size = 8 := hs.trans (by kernel_rfl)
  obtain ⟨fuel, hf⟩ := h
  obtain ⟨xs, m, _, _, _, hx, hi⟩ := DataW.trod_array Try.underlying22 hf
  have hce : Try.prog.cellsOf 3 = 1 := by kernel_rfl
  have key : ∀ i, i < 8 → ∃ n : Int, cs.toList[i]? = some (.int .i64 n) := fun i hlt => by
    have h1 := hi i hlt
    rw [hce, Nat.mul_one, List.getElem?_eq_getElem (by omega)] at h1
    have hl : i < cs.toList.length := by simp; omega
    have e : (cs.toList.drop i).take 1 = [cs.toList[i]] := by
      rw [List.drop_eq_getElem_cons hl]; rfl
    obtain ⟨y, h2⟩ : ∃ y, DataW.trod enc Try.prog w base spare held m 3 [cs.toList[i]] = some y := ⟨_, by rw [← e]; exact h1⟩
    obtain ⟨n, e1, _, _⟩ := DataW.trod_int Try.underlying3 h2
    simp only [List.cons.injEq, and_true] at e1
    exact ⟨n, by rw [List.getElem?_eq_getElem hl, e1]⟩
  refine ⟨cs.toList.map numOf, by simp [h8], ?_⟩
  congr 1
  apply Array.ext'
  apply List.ext_getElem?
  intro i
  by_cases hlt : i < 8
  · obtain ⟨n, hn⟩ := key i hlt
    rw [hn]
    simp only [intCells, List.getElem?_map, hn]
    rfl
  · rw [List.getElem?_eq_none (by simp; omega), List.getElem?_eq_none (by simp [intCells]; omega)]

/-- The numbers made, up to i. -/
def madeZ (ls : List Int) (i : Nat) : List (Nat × Nat) := (List.range 4).map fun j => if j < i then (floatOfInt .f64 (ls.getD (2 * j) 0), floatOfInt .f64 (ls.getD (2 * j + 1) 0)) else (0, 0)
theorem madeZ_length (ls : List Int) (i : Nat) : (madeZ ls i).length = 4 := by simp [madeZ]
theorem madeZ_zero (ls : List Int) : madeZ ls 0 = noughts := by simp [madeZ, noughts, List.range_succ]
theorem madeZ_get (ls : List Int) (i j : Nat) (hj : j < 4) : (madeZ ls i).getD j (0, 0) = if j < i then (floatOfInt .f64 (ls.getD (2 * j) 0), floatOfInt .f64 (ls.getD (2 * j + 1) 0)) else (0, 0) := by simp [madeZ, List.getD, hj]
theorem madeZ_next (ls : List Int) (i : Nat) (hi : i < 4) : (cx (madeZ ls i)).set i (.complex .f64 (floatOfInt .f64 (ls.getD (2 * i) 0)) (floatOfInt .f64 (ls.getD (2 * i + 1) 0))) = cx (madeZ ls (i + 1)) := by
  rcases lt4 hi with rfl | rfl | rfl | rfl <;> simp [madeZ, cx, List.range_succ]
theorem madeZ_cell (ls : List Int) (i : Nat) (hi : i < 4) : (cx (madeZ ls i))[i]? = some (.complex .f64 0 0) := by
  rw [cx_get _ _ (by rw [madeZ_length]; exact hi), madeZ_get _ _ _ hi, if_neg (by omega)]

/-- The first 2 i numbers are fit. -/
def fitTo (ls : List Int) (i : Nat) : Bool := decide (∀ j, j < i → Fit (ls.getD (2 * j) 0) ∧ Fit (ls.getD (2 * j + 1) 0))
theorem fitTo_zero (ls : List Int) : fitTo ls 0 = true := decide_eq_true (fun j hj => absurd hj (by omega))
theorem fitTo_next (ls : List Int) (i : Nat) : fitTo ls (i + 1) = (fitTo ls i && decide (Fit (ls.getD (2 * i) 0)) && decide (Fit (ls.getD (2 * i + 1) 0))) := by
  unfold fitTo
  rw [Bool.eq_iff_iff]
  simp only [decide_eq_true_eq, Bool.and_eq_true]
  constructor
  · intro h
    exact ⟨⟨fun j hj => h j (by omega), (h i (by omega)).1⟩, (h i (by omega)).2⟩
  · rintro ⟨⟨h, h1⟩, h2⟩ j hj
    by_cases e : j = i
    · subst e; exact ⟨h1, h2⟩
    · exact h j (by omega)

/-- The loop of made. -/
def MadeAt (w : World) (g1 g2 g4 : Nat) (ls : List Int) (v5 v6 : Value) (wr : World) : Prop :=
  ∃ i : Nat, i ≤ 4 ∧ v5 = .bool (fitTo ls i) ∧ v6 = .int .i64 (i : Int) ∧ Row wr g1 22 (intCells ls) ∧ Row wr g2 25 (cx noughts) ∧ Row wr g4 25 (cx (madeZ ls i)) ∧ Below w.heap.size w wr

set_option maxHeartbeats 8000000 in
theorem made_any (ls : List Int) (hl : ls.length = 8) (w : World) :
    Calls Try.prog 10 #[.agg (intCells ls).toArray] w fun e w' => e = .returned (.tuple #[.agg (cx (madeZ ls 4)).toArray, .bool (fitTo ls 4)]) ∧ Below w.heap.size w w' := by
  have HC : Hid (∀ k, k < 8 → (intCells ls)[k]? = some (.int .i64 (ls.getD k 0))) := fun k hk => intCells_get ls k (by omega)
  obtain ⟨L, hL⟩ : ∃ L, L = intCells ls := ⟨_, rfl⟩
  have HL := Lib.hid hL
  rw [← hL]
  clear hL
  have R1 : Row (((w.alloc (.cells L.toArray 22)).alloc (Obj.cells #[.complex .f64 0 0, .complex .f64 0 0, .complex .f64 0 0, .complex .f64 0 0] 25)).alloc (Obj.cells #[.complex .f64 0 0, .complex .f64 0 0, .complex .f64 0 0, .complex .f64 0 0] 25)) w.heap.size 22 L := ((Row.new w _ _).past _).past _
  have R2 : Row (((w.alloc (.cells L.toArray 22)).alloc (Obj.cells #[.complex .f64 0 0, .complex .f64 0 0, .complex .f64 0 0, .complex .f64 0 0] 25)).alloc (Obj.cells #[.complex .f64 0 0, .complex .f64 0 0, .complex .f64 0 0, .complex .f64 0 0] 25)) (w.heap.size + 1) 25 (cx noughts) := (Row.new' (w.alloc _) _ (cx noughts) (by simp)).past _
  have R4 : Row (((w.alloc (.cells L.toArray 22)).alloc (Obj.cells #[.complex .f64 0 0, .complex .f64 0 0, .complex .f64 0 0, .complex .f64 0 0] 25)).alloc (Obj.cells #[.complex .f64 0 0, .complex .f64 0 0, .complex .f64 0 0, .complex .f64 0 0] 25)) (w.heap.size + 1 + 1) 25 (cx noughts) := Row.new' ((w.alloc _).alloc _) _ (cx noughts) (by simp)
  have BW : Below w.heap.size w (((w.alloc (.cells L.toArray 22)).alloc (Obj.cells #[.complex .f64 0 0, .complex .f64 0 0, .complex .f64 0 0, .complex .f64 0 0] 25)).alloc (Obj.cells #[.complex .f64 0 0, .complex .f64 0 0, .complex .f64 0 0, .complex .f64 0 0] 25)) := (((Below.refl _ _).alloc (Nat.le_refl _) _).alloc (by simp) _).alloc (by simp; omega) _
  have HR1 := Lib.hid R1; have HR2 := Lib.hid R2; have HR4 := Lib.hid R4; have HBW := Lib.hid BW
  clear R1 R2 R4 BW
  go_enter Try.func10, Try.ntmps10
  go_wp2_with fail
  generalize ((w.alloc (.cells L.toArray 22)).alloc (Obj.cells #[.complex .f64 0 0, .complex .f64 0 0, .complex .f64 0 0, .complex .f64 0 0] 25)).alloc (Obj.cells #[.complex .f64 0 0, .complex .f64 0 0, .complex .f64 0 0, .complex .f64 0 0] 25) = W at *
  have g0 : w.heap.size ≤ w.heap.size := Nat.le_refl _
  have g2 : w.heap.size ≤ w.heap.size + 1 := by omega
  have g4 : w.heap.size ≤ w.heap.size + 1 + 1 := by omega
  have ne1 : w.heap.size ≠ w.heap.size + 1 + 1 := by omega
  have ne2 : w.heap.size + 1 ≠ w.heap.size + 1 + 1 := by omega
  generalize w.heap.size + 1 + 1 = b4 at *
  generalize w.heap.size + 1 = b2 at *
  go_loopw [5, 6] (fun v5 v6 wr => MadeAt w w.heap.size b2 b4 ls v5 v6 wr) (fun _ v6 _ => 4 - (intOf v6).toNat)
  case atStart => exact ⟨0, by omega, by rw [fitTo_zero], rfl, HL.out ▸ HR1.out, HR2.out, by rw [madeZ_zero]; exact HR4.out, HBW.out⟩
  case round =>
    clear HR1 HR2 HR4 HBW
    obtain ⟨i, hi, rfl, rfl, R1, R2, R4, B⟩ := hrel
    by_cases h4 : i < 4
    · have d1 : decide ((i : Int) < 4) = true := by simp; omega
      have i0 : (0 : Int) ≤ (i : Int) := by omega
      have i4 : (i : Int) < 4 := by omega
      have x1 := (R1.cell (2 * i)).trans (HC.out (2 * i) (by omega))
      have y1 := (R1.cell (2 * i + 1)).trans (HC.out (2 * i + 1) (by omega))
      have x2 : wr.drew.cell? ⟨w.heap.size, 2 * i, none⟩ = some (.int .i64 (ls.getD (2 * i) 0)) := x1
      have y2 : wr.drew.cell? ⟨w.heap.size, 2 * i + 1, none⟩ = some (.int .i64 (ls.getD (2 * i + 1) 0)) := y1
      have c4 : wr.drew.cell? ⟨b4, i, none⟩ = some (.complex .f64 0 0) := (R4.cell i).trans (madeZ_cell ls i h4)
      have f4 : wr.drew.frozen? ⟨b4, i, none⟩ = false := R4.frozen i
      have st := store_cx ⟨b4, i, none⟩
      have X4 := R4.drew.set i (.complex .f64 (floatOfInt .f64 (ls.getD (2 * i) 0)) (floatOfInt .f64 (ls.getD (2 * i + 1) 0)))
      rw [madeZ_next ls i h4] at X4
      have X1 := R1.drew.other (a := ⟨b4, i, none⟩) ne1 (.complex .f64 (floatOfInt .f64 (ls.getD (2 * i) 0)) (floatOfInt .f64 (ls.getD (2 * i + 1) 0)))
      have X2 := R2.drew.other (a := ⟨b4, i, none⟩) ne2 (.complex .f64 (floatOfInt .f64 (ls.getD (2 * i) 0)) (floatOfInt .f64 (ls.getD (2 * i + 1) 0)))
      have XB := B.drew.setCell (p := ⟨b4, i, none⟩) g4 (.complex .f64 (floatOfInt .f64 (ls.getD (2 * i) 0)) (floatOfInt .f64 (ls.getD (2 * i + 1) 0)))
      have x3 : (wr.drew.setCell ⟨b4, i, none⟩ (.complex .f64 (floatOfInt .f64 (ls.getD (2 * i) 0)) (floatOfInt .f64 (ls.getD (2 * i + 1) 0)))).cell? ⟨w.heap.size, 2 * i, none⟩ = some (.int .i64 (ls.getD (2 * i) 0)) := (X1.cell (2 * i)).trans (HC.out (2 * i) (by omega))
      have y3 : (wr.drew.setCell ⟨b4, i, none⟩ (.complex .f64 (floatOfInt .f64 (ls.getD (2 * i) 0)) (floatOfInt .f64 (ls.getD (2 * i + 1) 0)))).cell? ⟨w.heap.size, 2 * i + 1, none⟩ = some (.int .i64 (ls.getD (2 * i + 1) 0)) := (X1.cell (2 * i + 1)).trans (HC.out (2 * i + 1) (by omega))
      have i5 : (2 : Int) * (i : Int) = ((2 * i : Nat) : Int) := by omega
      have i6 : ((2 * i : Nat) : Int) + 1 = ((2 * i + 1 : Nat) : Int) := by omega
      have HFN := Lib.hid (fitTo_next ls i)
      have HX1 := Lib.hid X1; have HX2 := Lib.hid X2; have HX4 := Lib.hid X4; have HXB := Lib.hid XB
      clear X1 X2 X4 XB R1 R2 R4 B
      generalize ls.getD (2 * i) 0 = x at *
      generalize ls.getD (2 * i + 1) 0 = y at *
      have i7 : ((2 * i : Nat) : Int) < 8 := by omega
      have i8 : ((2 * i + 1 : Nat) : Int) < 8 := by omega
      generalize 2 * i + 1 = I3 at *
      generalize 2 * i = I2 at *
      have i9 : (0 : Int) ≤ (I2 : Int) := by omega
      have i10 : (0 : Int) ≤ (I3 : Int) := by omega
      have i11 : IntKind.i64.wrap (I2 : Int) = (I2 : Int) := IntWalk.i64_in _ (by omega)
      have i12 : IntKind.i64.wrap (I3 : Int) = (I3 : Int) := IntWalk.i64_in _ (by omega)
      by_cases hb : fitTo ls i = true
      · rw [hb]
        by_cases h1 : -1125899906842624 ≤ x
        · have t1 : decide (-1125899906842624 ≤ x) = true := by simpa using h1
          by_cases h2 : x ≤ 1125899906842624
          · have t2 : decide (x ≤ 1125899906842624) = true := by simpa using h2
            by_cases h3 : -1125899906842624 ≤ y
            · have t3 : decide (-1125899906842624 ≤ y) = true := by simpa using h3
              by_cases h5 : y ≤ 1125899906842624
              · have t4 : decide (y ≤ 1125899906842624) = true := by simpa using h5
                have HN : Hid (fitTo ls (i + 1) = true) := show _ = _ by rw [HFN.out, hb, decide_eq_true (show Fit x from ⟨h1, h2⟩), decide_eq_true (show Fit y from ⟨h3, h5⟩)]; rfl
                clear HFN
                have HK := Lib.hid h4
                clear h4 hi h1 h2 h3 h5 hb
                go_wp2_with fail
                go_still_tail 14, (by kernel_rfl)
                change wpList _ _ _ _ _ wr.drew
                generalize wr.drew = wd at *
                clear x1 y1 i11 i12
                go_wp2_with fail
                go_roundw
                case rel => exact ⟨i + 1, HK.out, by rw [HN.out], ret_val (by have := HK.out; omega), HX1.out, HX2.out, HX4.out, HXB.out⟩
                case measure => simp [intOf]; have := HK.out; omega
              · have t4 : decide (y ≤ 1125899906842624) = false := by simpa using h5
                have HN : Hid (fitTo ls (i + 1) = false) := show _ = _ by rw [HFN.out, decide_eq_false (show ¬ Fit y from fun h => h5 h.2), Bool.and_false]
                clear HFN
                have HK := Lib.hid h4
                clear h4 hi h1 h2 h3 h5 hb
                go_wp2_with fail
                go_still_tail 14, (by kernel_rfl)
                change wpList _ _ _ _ _ wr.drew
                generalize wr.drew = wd at *
                clear x1 y1 i11 i12
                go_wp2_with fail
                go_roundw
                case rel => exact ⟨i + 1, HK.out, by rw [HN.out], ret_val (by have := HK.out; omega), HX1.out, HX2.out, HX4.out, HXB.out⟩
                case measure => simp [intOf]; have := HK.out; omega
            · have t3 : decide (-1125899906842624 ≤ y) = false := by simpa using h3
              have HN : Hid (fitTo ls (i + 1) = false) := show _ = _ by rw [HFN.out, decide_eq_false (show ¬ Fit y from fun h => h3 h.1), Bool.and_false]
              clear HFN
              have HK := Lib.hid h4
              clear h4 hi h1 h2 h3 hb
              go_wp2_with fail
              go_still_tail 14, (by kernel_rfl)
              change wpList _ _ _ _ _ wr.drew
              generalize wr.drew = wd at *
              clear x1 y1 i11 i12
              go_wp2_with fail
              go_roundw
              case rel => exact ⟨i + 1, HK.out, by rw [HN.out], ret_val (by have := HK.out; omega), HX1.out, HX2.out, HX4.out, HXB.out⟩
              case measure => simp [intOf]; have := HK.out; omega
          · have t2 : decide (x ≤ 1125899906842624) = false := by simpa using h2
            have HN : Hid (fitTo ls (i + 1) = false) := show _ = _ by rw [HFN.out, decide_eq_false (show ¬ Fit x from fun h => h2 h.2), Bool.and_false, Bool.false_and]
            clear HFN
            have HK := Lib.hid h4
            clear h4 hi h1 h2 hb
            go_wp2_with fail
            go_still_tail 14, (by kernel_rfl)
            change wpList _ _ _ _ _ wr.drew
            generalize wr.drew = wd at *
            clear x1 y1 i11 i12
            go_wp2_with fail
            go_roundw
            case rel => exact ⟨i + 1, HK.out, by rw [HN.out], ret_val (by have := HK.out; omega), HX1.out, HX2.out, HX4.out, HXB.out⟩
            case measure => simp [intOf]; have := HK.out; omega
        · have t1 : decide (-1125899906842624 ≤ x) = false := by simpa using h1
          have HN : Hid (fitTo ls (i + 1) = false) := show _ = _ by rw [HFN.out, decide_eq_false (show ¬ Fit x from fun h => h1 h.1), Bool.and_false, Bool.false_and]
          clear HFN
          have HK := Lib.hid h4
          clear h4 hi h1 hb
          go_wp2_with fail
          go_still_tail 14, (by kernel_rfl)
          change wpList _ _ _ _ _ wr.drew
          generalize wr.drew = wd at *
          clear x1 y1 i11 i12
          go_wp2_with fail
          go_roundw
          case rel => exact ⟨i + 1, HK.out, by rw [HN.out], ret_val (by have := HK.out; omega), HX1.out, HX2.out, HX4.out, HXB.out⟩
          case measure => simp [intOf]; have := HK.out; omega
      · rw [Bool.not_eq_true] at hb
        rw [hb]
        have HN : Hid (fitTo ls (i + 1) = false) := show _ = _ by rw [HFN.out, hb, Bool.false_and, Bool.false_and]
        clear HFN
        have HK := Lib.hid h4
        clear h4 hi hb
        go_wp2_with fail
        go_still_tail 14, (by kernel_rfl)
        change wpList _ _ _ _ _ wr.drew
        generalize wr.drew = wd at *
        clear x1 y1 i11 i12
        go_wp2_with fail
        go_roundw
        case rel => exact ⟨i + 1, HK.out, by rw [HN.out], ret_val (by have := HK.out; omega), HX1.out, HX2.out, HX4.out, HXB.out⟩
        case measure => simp [intOf]; have := HK.out; omega
    · obtain rfl : i = 4 := by omega
      have hm : Hid ((cx (madeZ ls 4)).length = 4) := show _ = _ by rw [cx_length, madeZ_length]
      have one := Lib.hid (all_oneCell_toArray (cx_one (madeZ ls 4)))
      have hs := Lib.hid (size_four _ hm.out)
      have hs2 : Hid ((Try.prog.info? 25).map (·.size) = some (cx (madeZ ls 4)).toArray.size) := by show _ = _; rw [List.size_toArray]; exact hs.out
      have H4 := Lib.hid R4.all
      have th : Hid (wr.there b2 0 (cx (madeZ ls 4)).toArray.size) := R2.there 0 _ (by rw [List.size_toArray, hm.out]; decide)
      have HR2 := Lib.hid R2; have HB := Lib.hid B
      clear R1 R2 R4 B hi h4
      obtain ⟨O, hO⟩ : ∃ O, O = cx (madeZ ls 4) := ⟨_, rfl⟩
      rw [← hO] at hm one hs hs2 H4 th
      have HO := Lib.hid hO
      clear hO
      go_wp2_with (first | (refine wpList_load_mid rfl 25 (.tmp 4) rfl b4 0 rfl O _ H4.out Try.underlying25 rfl hs.out ?_) | (refine wpList_store_mid rfl 25 (.tmp 2) (.tmp 56) rfl b2 0 O.toArray rfl rfl th.out hs2.out one.out ?_))
      refine bodyPost_ret (results_row2 rfl _ _ b2 _ rfl (load_four (L := O) hm.out (put_all hm.out HR2.out))) rfl ?_
      exact ⟨by rw [← HO.out]; rfl, below_puts HB.out g2 _ _⟩

end Go.Proofs.Ytdclgdpifamomaa
