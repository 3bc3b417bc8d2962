/-
  The walk of the law WaveRound: for every array that came in. No condition.
-/
import Derived.Test.YtdclgdpifamomaaFour8Walk
namespace Go.Proofs.Ytdclgdpifamomaa
open Go.RowKit

/-- There and back. -/
theorem round_trip (p q : Nat → Int) {k : Nat} (hk : k < 4) : tr (-1) (tr 1 p q) (ti 1 p q) k = 4 * p k ∧ ti (-1) (tr 1 p q) (ti 1 p q) k = 4 * q k := by
  rcases lt4 hk with rfl | rfl | rfl | rfl <;> simp [tr, ti, sm, turnRe, turnIm] <;> omega
/-- Within a quarter of the bound. -/
def Quart (a : Int) : Prop := -281474976710656 ≤ a ∧ a ≤ 281474976710656
theorem quart_fit {a : Int} (h : Quart a) : Fit a := ⟨by have := h.1; omega, by have := h.2; omega⟩
theorem quart_turned {p q : Nat → Int} (h : ∀ j, j < 4 → Quart (p j) ∧ Quart (q j)) (k : Nat) : Fit (tr 1 p q k) ∧ Fit (ti 1 p q k) := by
  have := t_abs (way := 1) (p := p) (q := q) (k := k) (B := 281474976710656) h
  unfold Fit
  omega
theorem back_round {p q : Nat → Int} (h : ∀ j, j < 4 → Quart (p j) ∧ Quart (q j)) : Are (quarters (tr (-1) (tr 1 p q) (ti 1 p q)) (ti (-1) (tr 1 p q) (ti 1 p q)) 4) p q := by
  refine ⟨quarters_length _ _ _, fun k hk => ?_⟩
  obtain ⟨e1, e2⟩ := round_trip p q hk
  rw [quarters_get _ _ _ _ hk, if_pos hk, e1, e2]
  show Whole (floatOfInt .f64 (4 * p k / 4)) (p k) ∧ Whole (floatOfInt .f64 (4 * q k / 4)) (q k)
  rw [show 4 * p k / 4 = p k by omega, show 4 * q k / 4 = q k by omega]
  exact ⟨whole_fit (quart_fit (h k hk).1), whole_fit (quart_fit (h k hk).2)⟩

/-- The law's loops. -/
def RoundA (w : World) (b : Nat) (ls : List Int) (v : Value) (wr : World) : Prop :=
  ∃ i : Nat, i ≤ 8 ∧ v = .int .i64 (i : Int) ∧ Row wr b 22 (intCells ls) ∧ Below w.heap.size w wr ∧ ∀ j, j < i → Quart (ls.getD j 0)
def RoundB (w : World) (b g : Nat) (ls : List Int) (us : List (Nat × Nat)) (v : Value) (wr : World) : Prop :=
  ∃ k : Nat, k ≤ 4 ∧ v = .int .i64 (k : Int) ∧ Row wr b 22 (intCells ls) ∧ Row wr g 25 (cx us) ∧ Below w.heap.size w wr

set_option maxHeartbeats 8000000 in
theorem waveRound_any (ls : List Int) (hl : ls.length = 8) (w : World) :
    Calls Try.prog 5 #[.agg (intCells ls).toArray] w fun e w' => e = .returned (.bool true) ∧ Below w.heap.size w w' := by
  have CM := Lib.hid (made_any ls hl)
  have HC : Hid (∀ k, k < 8 → (intCells ls)[k]? = some (.int .i64 (ls.getD k 0))) := fun k hk => intCells_get ls k (by omega)
  have hl8 : Hid ((intCells ls).length = 8) := show _ = _ by rw [intCells_length, hl]
  have hs8 := Lib.hid (size_oct _ hl8.out)
  have R1 : Row (w.alloc (.cells (intCells ls).toArray 22)) w.heap.size 22 (intCells ls) := Row.new w _ _
  have BW : Below w.heap.size w (w.alloc (.cells (intCells ls).toArray 22)) := (Below.refl _ _).alloc (Nat.le_refl _) _
  have HR1 := Lib.hid R1; have HBW := Lib.hid BW
  obtain ⟨L, hL⟩ : ∃ L, L = intCells ls := ⟨_, rfl⟩
  have HL := Lib.hid hL
  rw [← hL] at CM hl8 hs8 HR1 HBW ⊢
  clear R1 BW hL
  go_enter Try.func5, Try.ntmps5
  go_wp2_with fail
  generalize w.alloc (.cells L.toArray 22) = W at *
  refine (awake_any W).mono ?_
  rintro e w1 ⟨rfl, B1⟩
  have HR2 := Lib.hid (HR1.out.keep B1); have HB2 := Lib.hid (HBW.out.trans (B1.mono HBW.out.size))
  clear HR1 HBW B1
  go_wp2_with fail
  go_loopw [3] (fun v wr => RoundA w w.heap.size ls v wr) (fun v _ => 8 - (intOf v).toNat)
  case atStart => exact ⟨0, by omega, rfl, HL.out ▸ HR2.out, HB2.out, fun j hj => absurd hj (by omega)⟩
  case round =>
    clear HR2 HB2
    obtain ⟨i, hi, rfl, R1, B, hq⟩ := hrel
    have HQ := Lib.hid hq
    have HR1 := Lib.hid R1; have HB := Lib.hid B
    clear hq B
    by_cases h8 : i < 8
    · have d1 : decide ((i : Int) < 8) = true := by simp; omega
      have i0 : (0 : Int) ≤ (i : Int) := by omega
      have i8 : (i : Int) < 8 := by omega
      have x1 := (R1.cell i).trans (HC.out i h8)
      have H8 := Lib.hid h8
      have HQ2 : Hid (Quart (ls.getD i 0) → ∀ j, j < i + 1 → Quart (ls.getD j 0)) := fun hh j hj => by
        by_cases hjk : j < i
        · exact HQ.out j hjk
        · obtain rfl : j = i := by omega
          exact hh
      clear R1 h8 hi HQ
      generalize ls.getD i 0 = x at x1 HQ2
      by_cases h1 : x < -281474976710656
      · have t1 : decide (x < -281474976710656) = true := by simpa using h1
        clear h1 HQ2
        go_wp2_with fail
        go_ret
        exact ⟨rfl, HB.out⟩
      · have t1 : decide (x < -281474976710656) = false := by simpa using h1
        by_cases h2 : 281474976710656 < x
        · have t2 : decide (281474976710656 < x) = true := by simpa using h2
          clear h1 h2 HQ2
          go_wp2_with fail
          go_ret
          exact ⟨rfl, HB.out⟩
        · have t2 : decide (281474976710656 < x) = false := by simpa using h2
          have HQ3 := Lib.hid (HQ2.out ⟨by omega, by omega⟩)
          clear h1 h2 HQ2
          go_wp2_with fail
          go_roundw
          case rel => exact ⟨i + 1, H8.out, ret_val (by have := H8.out; omega), HR1.out, HB.out, HQ3.out⟩
          case measure => simp [intOf]; have := H8.out; omega
    · obtain rfl : i = 8 := by omega
      have hqt : ∀ j, j < 4 → Quart (pR ls j) ∧ Quart (pI ls j) := fun j hj => ⟨HQ.out (2 * j) (by omega), HQ.out (2 * j + 1) (by omega)⟩
      have hfits : ∀ j, j < 4 → Fit (pR ls j) ∧ Fit (pI ls j) := fun j hj => ⟨quart_fit (hqt j hj).1, quart_fit (hqt j hj).2⟩
      obtain ⟨us, hu, cF⟩ := four_any (made_are hfits) hfits
      have cB := back_any hu (fun k _ => quart_turned hqt k) true ⟨fun _ k hk => by
        obtain ⟨e1, e2⟩ := round_trip (pR ls) (pI ls) hk
        rw [e1, e2]; omega, fun _ => rfl⟩
      have hV := back_round hqt
      have HFF := Lib.hid hfits
      simp only [if_true] at cB
      generalize quarters (tr (-1) (tr 1 (pR ls) (pI ls)) (ti 1 (pR ls) (pI ls))) (ti (-1) (tr 1 (pR ls) (pI ls)) (ti 1 (pR ls) (pI ls))) 4 = V at cB hV
      have CF := Lib.hid cF; have CB := Lib.hid cB; have HV := Lib.hid hV
      have H2 : Hid (wr.rangeAt w.heap.size 0 L) := show World.rangeAt _ _ _ _ by rw [HL.out]; exact R1.all
      clear hqt hfits hu cF cB hV R1 HQ hi h8
      go_wp2_with (first | (refine wpList_load_mid rfl 22 (.tmp 1) rfl w.heap.size 0 rfl L _ H2.out Try.underlying22 rfl hs8.out ?_))
      refine (CM.out _).mono ?_
      rintro e w2 ⟨rfl, B3⟩
      have HR3 := Lib.hid (HR1.out.keep B3); have HB3 := Lib.hid (HB.out.trans (B3.mono HB.out.size))
      clear HR1 HB B3 H2 CM
      have hla : Hid ((cx (madeZ ls 4)).length = 4) := show _ = _ by rw [cx_length, madeZ_length]
      have hsa := Lib.hid (size_four _ hla.out)
      have hma : Hid ((Try.prog.info? 25).map (·.size) = some (cx (madeZ ls 4)).toArray.size) := by show _ = _; rw [List.size_toArray]; exact hsa.out
      have onea := Lib.hid (all_oneCell_toArray (cx_one (madeZ ls 4)))
      have N1 : Row (w2.alloc (Obj.cells #[.complex .f64 0 0, .complex .f64 0 0, .complex .f64 0 0, .complex .f64 0 0] 25)) w2.heap.size 25 (cx noughts) := Row.new w2 _ (cx noughts)
      have tha : Hid ((w2.alloc (Obj.cells #[.complex .f64 0 0, .complex .f64 0 0, .complex .f64 0 0, .complex .f64 0 0] 25)).there w2.heap.size 0 (cx (madeZ ls 4)).toArray.size) := N1.there 0 _ (by rw [List.size_toArray, hla.out]; decide)
      have Na : Row ((w2.alloc (Obj.cells #[.complex .f64 0 0, .complex .f64 0 0, .complex .f64 0 0, .complex .f64 0 0] 25)).setCells w2.heap.size 0 (cx (madeZ ls 4)).toArray.toList) w2.heap.size 25 (cx (madeZ ls 4)) := put_all hla.out N1
      have Ba := below_puts (b := w2.heap.size) ((Below.refl w2.heap.size w2).alloc (Nat.le_refl _) (Obj.cells #[.complex .f64 0 0, .complex .f64 0 0, .complex .f64 0 0, .complex .f64 0 0] 25)) (Nat.le_refl _) 0 (cx (madeZ ls 4)).toArray.toList
      clear N1
      have HR4 := Lib.hid (HR3.out.keep Ba); have HB4 := Lib.hid (HB3.out.trans (Ba.mono HB3.out.size)); have Ha := Lib.hid Na.all
      clear HR3 HB3 Ba Na
      generalize cx (madeZ ls 4) = P1 at *
      go_wp2_with (first | (refine wpList_store_mid rfl 25 (.tmp 4) (.tmp 31) rfl w2.heap.size 0 P1.toArray rfl rfl tha.out hma.out onea.out ?_) | (refine wpList_load_mid rfl 25 (.tmp 4) rfl w2.heap.size 0 rfl P1 _ Ha.out Try.underlying25 rfl hsa.out ?_))
      generalize (w2.alloc (Obj.cells #[.complex .f64 0 0, .complex .f64 0 0, .complex .f64 0 0, .complex .f64 0 0] 25)).setCells w2.heap.size 0 P1 = w3 at *
      refine (CF.out _).mono ?_
      rintro e w4 ⟨rfl, B5⟩
      have HR5 := Lib.hid (HR4.out.keep B5); have HB5 := Lib.hid (HB4.out.trans (B5.mono HB4.out.size))
      clear HR4 HB4 B5 Ha tha hma hla hsa onea CF
      go_wp2_with fail
      refine (CB.out _).mono ?_
      rintro e w4 ⟨rfl, B5⟩
      have HR6 := Lib.hid (HR5.out.keep B5); have HB6 := Lib.hid (HB5.out.trans (B5.mono HB5.out.size))
      clear HR5 HB5 B5 CB
      have hlb : Hid ((cx V).length = 4) := show _ = _ by rw [cx_length, HV.out.1]
      have hsb := Lib.hid (size_four _ hlb.out)
      have hmb : Hid ((Try.prog.info? 25).map (·.size) = some (cx V).toArray.size) := by show _ = _; rw [List.size_toArray]; exact hsb.out
      have oneb := Lib.hid (all_oneCell_toArray (cx_one V))
      have N1 : Row (w4.alloc (Obj.cells #[.complex .f64 0 0, .complex .f64 0 0, .complex .f64 0 0, .complex .f64 0 0] 25)) w4.heap.size 25 (cx noughts) := Row.new w4 _ (cx noughts)
      have thb : Hid ((w4.alloc (Obj.cells #[.complex .f64 0 0, .complex .f64 0 0, .complex .f64 0 0, .complex .f64 0 0] 25)).there w4.heap.size 0 (cx V).toArray.size) := N1.there 0 _ (by rw [List.size_toArray, hlb.out]; decide)
      have Nb : Row ((w4.alloc (Obj.cells #[.complex .f64 0 0, .complex .f64 0 0, .complex .f64 0 0, .complex .f64 0 0] 25)).setCells w4.heap.size 0 (cx V).toArray.toList) w4.heap.size 25 (cx V) := put_all hlb.out N1
      have Bb := below_puts (b := w4.heap.size) ((Below.refl w4.heap.size w4).alloc (Nat.le_refl _) (Obj.cells #[.complex .f64 0 0, .complex .f64 0 0, .complex .f64 0 0, .complex .f64 0 0] 25)) (Nat.le_refl _) 0 (cx V).toArray.toList
      clear N1
      have HR7 := Lib.hid (HR6.out.keep Bb); have HB7 := Lib.hid (HB6.out.trans (Bb.mono HB6.out.size)); have HNb := Lib.hid Nb
      clear HR6 HB6 Bb Nb
      obtain ⟨P2, hP2⟩ : ∃ P2, P2 = cx V := ⟨_, rfl⟩
      rw [← hP2] at hlb hsb hmb oneb thb HR7 HB7 HNb ⊢
      have HP2 := Lib.hid hP2
      clear hP2
      go_wp2_with (first | (refine wpList_store_mid rfl 25 (.tmp 6) (.tmp 37) rfl w4.heap.size 0 P2.toArray rfl rfl thb.out hmb.out oneb.out ?_))
      generalize (w4.alloc (Obj.cells #[.complex .f64 0 0, .complex .f64 0 0, .complex .f64 0 0, .complex .f64 0 0] 25)).setCells w4.heap.size 0 P2 = w5 at *
      generalize w4.heap.size = g at *
      clear thb hmb hlb hsb oneb
      go_loopw [8] (fun v wr => RoundB w w.heap.size g ls V v wr) (fun v _ => 4 - (intOf v).toNat)
      case atStart => exact ⟨0, by omega, rfl, HR7.out, HP2.out ▸ HNb.out, HB7.out⟩
      case round =>
        clear HR7 HNb HB7
        obtain ⟨k, hk, rfl, R1, R2, B⟩ := hrel
        by_cases h4 : k < 4
        · have d1 : decide ((k : Int) < 4) = true := by simp; omega
          have k0 : (0 : Int) ≤ (k : Int) := by omega
          have k4 : (k : Int) < 4 := by omega
          have hwu := HV.out.2 k h4
          have hft := HFF.out k h4
          have H4 := Lib.hid h4
          have cP := Lib.hid (parts_yes hwu.1 hwu.2 hft.1.great hft.2.great)
          have c1 := (R2.cell k).trans (cx_get V k (by rw [HV.out.1]; exact h4))
          have x1 : wr.cell? ⟨w.heap.size, 2 * k, none⟩ = some (.int .i64 (pR ls k)) := (R1.cell (2 * k)).trans (HC.out (2 * k) (by omega))
          have y1 : wr.cell? ⟨w.heap.size, 2 * k + 1, none⟩ = some (.int .i64 (pI ls k)) := (R1.cell (2 * k + 1)).trans (HC.out (2 * k + 1) (by omega))
          have i5 : (2 : Int) * (k : Int) = ((2 * k : Nat) : Int) := by omega
          have i6 : ((2 * k : Nat) : Int) + 1 = ((2 * k + 1 : Nat) : Int) := by omega
          have i7 : ((2 * k : Nat) : Int) < 8 := by omega
          have i8 : ((2 * k + 1 : Nat) : Int) < 8 := by omega
          have HR1 := Lib.hid R1; have HR2 := Lib.hid R2; have HB := Lib.hid B
          clear R1 R2 B hwu hft h4 hk
          generalize 2 * k + 1 = I3 at *
          generalize 2 * k = I2 at *
          have i9 : (0 : Int) ≤ (I2 : Int) := by omega
          have i10 : (0 : Int) ≤ (I3 : Int) := by omega
          generalize pR ls k = x at *
          generalize pI ls k = y at *
          have e1 : (x != x) = false := by simp
          have e2 : (y != y) = false := by simp
          generalize V.getD k (0, 0) = z at *
          go_wp2_with fail
          refine (cP.out _).mono ?_
          rintro e v1 ⟨rfl, hw⟩; subst v1
          go_wp2_with fail
          go_roundw
          case rel => exact ⟨k + 1, H4.out, ret_val (by have := H4.out; omega), HR1.out, HR2.out, HB.out⟩
          case measure => simp [intOf]; have := H4.out; omega
        · obtain rfl : k = 4 := by omega
          have HB := Lib.hid B
          clear R1 R2 B hk h4
          go_wp2_with fail
          go_ret
          exact ⟨rfl, HB.out⟩

end Go.Proofs.Ytdclgdpifamomaa
