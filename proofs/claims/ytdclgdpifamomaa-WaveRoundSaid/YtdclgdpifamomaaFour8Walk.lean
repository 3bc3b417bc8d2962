/-
  The walk of the law WaveFour: for every array that came in. No condition.
-/
import Derived.Test.YtdclgdpifamomaaSum8
namespace Go.Proofs.Ytdclgdpifamomaa
open Go.RowKit

theorem size_oct (L : List Value) (h : L.length = 8) : (Try.prog.info? 22).map (·.size) = some L.length := by rw [h]; kernel_rfl
theorem made_are {ls : List Int} (hf : ∀ j, j < 4 → Fit (pR ls j) ∧ Fit (pI ls j)) : Are (madeZ ls 4) (pR ls) (pI ls) := by
  refine ⟨madeZ_length _ _, fun k hk => ?_⟩
  rw [madeZ_get _ _ _ hk, if_pos hk]
  exact ⟨whole_fit (hf k hk).1, whole_fit (hf k hk).2⟩
theorem made_bits (ls : List Int) : Bits (madeZ ls 4) := fun k => by
  by_cases hk : k < 4
  · rw [madeZ_get _ _ _ hk, if_pos hk]
    exact ⟨float_lt _, float_lt _⟩
  · have : (madeZ ls 4).getD k (0, 0) = (0, 0) := by simp [List.getD, List.getElem?_eq_none (show (madeZ ls 4).length ≤ k by rw [madeZ_length]; omega)]
    rw [this]
    decide
theorem made_else {ls : List Int} (hf : fitTo ls 4 = false) : ¬ ∀ k, k < 4 → FitBits ((madeZ ls 4).getD k (0, 0)) := by
  intro h
  have : fitTo ls 4 = true := decide_eq_true (fun j hj => by
    obtain ⟨a, b, wa, wb, fa, fb⟩ := h j hj
    rw [madeZ_get _ _ _ hj, if_pos hj] at wa wb
    have e1 := float_fit wa fa
    have e2 := float_fit wb fb
    rw [e1, e2]
    exact ⟨fa, fb⟩)
  rw [hf] at this
  cases this
theorem are_none : Are noughts (fun _ => 0) (fun _ => 0) := by
  refine ⟨rfl, fun k hk => ?_⟩
  rcases lt4 hk with rfl | rfl | rfl | rfl <;> exact ⟨whole_0, whole_0⟩

/-- The law's loop. -/
def FourAt (w : World) (b g : Nat) (ls : List Int) (us : List (Nat × Nat)) (v : Value) (wr : World) : Prop :=
  ∃ k : Nat, k ≤ 4 ∧ v = .int .i64 (k : Int) ∧ Row wr b 22 (intCells ls) ∧ Row wr g 25 (cx us) ∧ Below w.heap.size w wr

set_option maxHeartbeats 8000000 in
theorem waveFour_yes (ls : List Int) (hl : ls.length = 8) (hfit : fitTo ls 4 = true) (w : World) :
    Calls Try.prog 3 #[.agg (intCells ls).toArray] w fun e w' => e = .returned (.bool true) ∧ Below w.heap.size w w' := by
  have CM := Lib.hid (made_any ls hl)
  obtain ⟨us, hu, cF⟩ := four_any (made_are (fitTo_all hfit)) (fitTo_all hfit)
  have CS : Hid (∀ k, k < 4 → ∀ w, _) := fun k hk => sum_any 1 (.inl rfl) ls hl (fitTo_all hfit) k hk
  have HG : Hid (∀ k, Great (tr 1 (pR ls) (pI ls) k) ∧ Great (ti 1 (pR ls) (pI ls) k)) := fun k => turned_great (fitTo_all hfit) k
  have CF := Lib.hid cF
  have HU := Lib.hid hu
  rw [hfit] at CM
  have hl8 : Hid ((intCells ls).length = 8) := show _ = _ by rw [intCells_length, hl]
  have hs8 := Lib.hid (size_oct _ hl8.out)
  have R1 : Row (w.alloc (.cells (intCells ls).toArray 22)) w.heap.size 22 (intCells ls) := Row.new w _ _
  have BW : Below w.heap.size w (w.alloc (.cells (intCells ls).toArray 22)) := (Below.refl _ _).alloc (Nat.le_refl _) _
  have HR1 := Lib.hid R1; have HBW := Lib.hid BW
  obtain ⟨L, hL⟩ : ∃ L, L = intCells ls := ⟨_, rfl⟩
  have HL := Lib.hid hL
  rw [← hL] at CM hl8 hs8 HR1 HBW ⊢
  have lit : w.heap.size ≤ w.heap.size := Nat.le_refl _
  rw [← hL] at CS
  clear hu cF hfit R1 BW hL
  go_enter Try.func3, Try.ntmps3
  go_wp2_with fail
  generalize w.alloc (.cells L.toArray 22) = W at *
  refine (awake_any W).mono ?_
  rintro e w1 ⟨rfl, B1⟩
  have HR2 := Lib.hid (HR1.out.keep B1); have HB2 := Lib.hid (HBW.out.trans (B1.mono HBW.out.size))
  have H2 := Lib.hid HR2.out.all
  clear HR1 HBW B1
  go_wp2_with (first | (refine wpList_load_mid rfl 22 (.tmp 1) rfl w.heap.size 0 rfl L _ H2.out Try.underlying22 rfl hs8.out ?_))
  refine (CM.out _).mono ?_
  rintro e w2 ⟨rfl, B3⟩
  have HR3 := Lib.hid (HR2.out.keep B3); have HB3 := Lib.hid (HB2.out.trans (B3.mono HB2.out.size))
  clear HR2 HB2 B3 H2 CM
  have hla : Hid ((cx (madeZ ls 4)).length = 4) := show _ = _ by rw [cx_length, madeZ_length]
  have hsa := Lib.hid (size_four _ hla.out)
  have hma : Hid ((Try.prog.info? 25).map (·.size) = some (cx (madeZ ls 4)).toArray.size) := by show _ = _; rw [List.size_toArray]; exact hsa.out
  have onea := Lib.hid (all_oneCell_toArray (cx_one (madeZ ls 4)))
  have N1 : Row (w2.alloc (Obj.cells #[.complex .f64 0 0, .complex .f64 0 0, .complex .f64 0 0, .complex .f64 0 0] 25)) w2.heap.size 25 (cx noughts) := Row.new w2 _ (cx noughts)
  have tha : Hid ((w2.alloc (Obj.cells #[.complex .f64 0 0, .complex .f64 0 0, .complex .f64 0 0, .complex .f64 0 0] 25)).there w2.heap.size 0 (cx (madeZ ls 4)).toArray.size) := N1.there 0 _ (by rw [List.size_toArray, hla.out]; decide)
  have Na : Row ((w2.alloc (Obj.cells #[.complex .f64 0 0, .complex .f64 0 0, .complex .f64 0 0, .complex .f64 0 0] 25)).setCells w2.heap.size 0 (cx (madeZ ls 4)).toArray.toList) w2.heap.size 25 (cx (madeZ ls 4)) := put_all hla.out N1
  have Ba := below_puts (b := w2.heap.size) ((Below.refl w2.heap.size w2).alloc (Nat.le_refl _) (Obj.cells #[.complex .f64 0 0, .complex .f64 0 0, .complex .f64 0 0, .complex .f64 0 0] 25)) (Nat.le_refl _) 0 (cx (madeZ ls 4)).toArray.toList
  clear N1
  have HR4 := Lib.hid (HR3.out.keep Ba); have HB4 := Lib.hid (HB3.out.trans (Ba.mono HB3.out.size)); have Ha := Lib.hid Na.all
  clear HR3 HB3 Ba Na
  generalize cx (madeZ ls 4) = P1 at *
  go_wp2_with (first | (refine wpList_store_mid rfl 25 (.tmp 3) (.tmp 17) rfl w2.heap.size 0 P1.toArray rfl rfl tha.out hma.out onea.out ?_) | (refine wpList_load_mid rfl 25 (.tmp 3) rfl w2.heap.size 0 rfl P1 _ Ha.out Try.underlying25 rfl hsa.out ?_))
  generalize (w2.alloc (Obj.cells #[.complex .f64 0 0, .complex .f64 0 0, .complex .f64 0 0, .complex .f64 0 0] 25)).setCells w2.heap.size 0 P1 = w3 at *
  refine (CF.out _).mono ?_
  rintro e w4 ⟨rfl, B5⟩
  have HR5 := Lib.hid (HR4.out.keep B5); have HB5 := Lib.hid (HB4.out.trans (B5.mono HB4.out.size))
  clear HR4 HB4 B5 Ha tha hma hla hsa onea CF
  have hlb : Hid ((cx us).length = 4) := show _ = _ by rw [cx_length, HU.out.1]
  have hsb := Lib.hid (size_four _ hlb.out)
  have hmb : Hid ((Try.prog.info? 25).map (·.size) = some (cx us).toArray.size) := by show _ = _; rw [List.size_toArray]; exact hsb.out
  have oneb := Lib.hid (all_oneCell_toArray (cx_one us))
  have N1 : Row (w4.alloc (Obj.cells #[.complex .f64 0 0, .complex .f64 0 0, .complex .f64 0 0, .complex .f64 0 0] 25)) w4.heap.size 25 (cx noughts) := Row.new w4 _ (cx noughts)
  have thb : Hid ((w4.alloc (Obj.cells #[.complex .f64 0 0, .complex .f64 0 0, .complex .f64 0 0, .complex .f64 0 0] 25)).there w4.heap.size 0 (cx us).toArray.size) := N1.there 0 _ (by rw [List.size_toArray, hlb.out]; decide)
  have Nb : Row ((w4.alloc (Obj.cells #[.complex .f64 0 0, .complex .f64 0 0, .complex .f64 0 0, .complex .f64 0 0] 25)).setCells w4.heap.size 0 (cx us).toArray.toList) w4.heap.size 25 (cx us) := put_all hlb.out N1
  have Bb := below_puts (b := w4.heap.size) ((Below.refl w4.heap.size w4).alloc (Nat.le_refl _) (Obj.cells #[.complex .f64 0 0, .complex .f64 0 0, .complex .f64 0 0, .complex .f64 0 0] 25)) (Nat.le_refl _) 0 (cx us).toArray.toList
  clear N1
  have HR6 := Lib.hid (HR5.out.keep Bb); have HB6 := Lib.hid (HB5.out.trans (Bb.mono HB5.out.size)); have HNb := Lib.hid Nb
  clear HR5 HB5 Bb Nb
  obtain ⟨P2, hP2⟩ : ∃ P2, P2 = cx us := ⟨_, rfl⟩
  rw [← hP2] at hlb hsb hmb oneb thb HR6 HB6 HNb ⊢
  have HP2 := Lib.hid hP2
  clear hP2
  go_wp2_with (first | (refine wpList_store_mid rfl 25 (.tmp 5) (.tmp 20) rfl w4.heap.size 0 P2.toArray rfl rfl thb.out hmb.out oneb.out ?_))
  generalize (w4.alloc (Obj.cells #[.complex .f64 0 0, .complex .f64 0 0, .complex .f64 0 0, .complex .f64 0 0] 25)).setCells w4.heap.size 0 P2 = w5 at *
  generalize w4.heap.size = g at *
  clear thb hmb hlb hsb oneb
  go_loopw [6] (fun v wr => FourAt w w.heap.size g ls us v wr) (fun v _ => 4 - (intOf v).toNat)
  case atStart => exact ⟨0, by omega, rfl, HL.out ▸ HR6.out, HP2.out ▸ HNb.out, HB6.out⟩
  case round =>
    clear HR6 HNb HB6
    obtain ⟨k, hk, rfl, R1, R2, B⟩ := hrel
    by_cases h4 : k < 4
    · have d1 : decide ((k : Int) < 4) = true := by simp; omega
      have k0 : (0 : Int) ≤ (k : Int) := by omega
      have k4 : (k : Int) < 4 := by omega
      have hwu := HU.out.2 k h4
      have H4 := Lib.hid h4
      have cS := Lib.hid (CS.out k h4)
      obtain ⟨g1, g2⟩ := HG.out k
      have cP := Lib.hid (parts_yes hwu.1 hwu.2 g1 g2)
      have H2 : Hid (wr.rangeAt w.heap.size 0 L) := show World.rangeAt _ _ _ _ by rw [HL.out]; exact R1.all
      have HR1 := Lib.hid R1; have HR2 := Lib.hid R2; have HB := Lib.hid B
      have hlu := HU.out.1
      clear R1 R2 B hwu g1 g2 h4 hk
      generalize tr 1 (pR ls) (pI ls) k = x at *
      generalize ti 1 (pR ls) (pI ls) k = y at *
      go_wp2_with (first | (refine wpList_load_mid rfl 22 (.tmp 1) rfl w.heap.size 0 rfl L _ H2.out Try.underlying22 rfl hs8.out ?_))
      refine (cS.out _).mono ?_
      rintro e w6 ⟨rfl, B7⟩
      have R3 := HR1.out.keep B7; have R4 := HR2.out.keep B7; have B8 := HB.out.trans (B7.mono HB.out.size)
      have c1 := (R4.cell k).trans (cx_get us k (by rw [hlu]; exact H4.out))
      have HR3 := Lib.hid R3; have HR4 := Lib.hid R4; have HB8 := Lib.hid B8
      have e1 : (x != x) = false := by simp
      have e2 : (y != y) = false := by simp
      clear R3 R4 B8 B7 HR1 HR2 HB cS H2 hlu
      generalize us.getD k (0, 0) = z at *
      go_wp2_with fail
      refine (cP.out _).mono ?_
      rintro e v1 ⟨rfl, hw⟩; subst v1
      go_wp2_with fail
      go_roundw
      case rel => exact ⟨k + 1, H4.out, ret_val (by have := H4.out; omega), HR3.out, HR4.out, HB8.out⟩
      case measure => simp [intOf]; have := H4.out; omega
    · obtain rfl : k = 4 := by omega
      have HB := Lib.hid B
      clear R1 R2 B hk h4
      go_wp2_with fail
      go_ret
      exact ⟨rfl, HB.out⟩

set_option maxHeartbeats 8000000 in
theorem waveFour_no (ls : List Int) (hl : ls.length = 8) (hfit : fitTo ls 4 = false) (w : World) :
    Calls Try.prog 3 #[.agg (intCells ls).toArray] w fun e w' => e = .returned (.bool true) ∧ Below w.heap.size w w' := by
  have CM := Lib.hid (made_any ls hl)
  obtain ⟨us, hu, cF⟩ : ∃ us, Are us (fun _ => 0) (fun _ => 0) ∧ ∀ w, Calls Try.prog 11 #[.agg (cx (madeZ ls 4)).toArray] w fun e w' => e = .returned (.agg (cx us).toArray) ∧ Below w.heap.size w w' := ⟨noughts, are_none, four_else (madeZ_length _ _) (made_bits ls) (made_else hfit)⟩
  have CF := Lib.hid cF
  have HU := Lib.hid hu
  rw [hfit] at CM
  have hl8 : Hid ((intCells ls).length = 8) := show _ = _ by rw [intCells_length, hl]
  have hs8 := Lib.hid (size_oct _ hl8.out)
  have R1 : Row (w.alloc (.cells (intCells ls).toArray 22)) w.heap.size 22 (intCells ls) := Row.new w _ _
  have BW : Below w.heap.size w (w.alloc (.cells (intCells ls).toArray 22)) := (Below.refl _ _).alloc (Nat.le_refl _) _
  have HR1 := Lib.hid R1; have HBW := Lib.hid BW
  obtain ⟨L, hL⟩ : ∃ L, L = intCells ls := ⟨_, rfl⟩
  have HL := Lib.hid hL
  rw [← hL] at CM hl8 hs8 HR1 HBW ⊢
  have lit : w.heap.size ≤ w.heap.size := Nat.le_refl _
  clear hu cF hfit R1 BW hL
  go_enter Try.func3, Try.ntmps3
  go_wp2_with fail
  generalize w.alloc (.cells L.toArray 22) = W at *
  refine (awake_any W).mono ?_
  rintro e w1 ⟨rfl, B1⟩
  have HR2 := Lib.hid (HR1.out.keep B1); have HB2 := Lib.hid (HBW.out.trans (B1.mono HBW.out.size))
  have H2 := Lib.hid HR2.out.all
  clear HR1 HBW B1
  go_wp2_with (first | (refine wpList_load_mid rfl 22 (.tmp 1) rfl w.heap.size 0 rfl L _ H2.out Try.underlying22 rfl hs8.out ?_))
  refine (CM.out _).mono ?_
  rintro e w2 ⟨rfl, B3⟩
  have HR3 := Lib.hid (HR2.out.keep B3); have HB3 := Lib.hid (HB2.out.trans (B3.mono HB2.out.size))
  clear HR2 HB2 B3 H2 CM
  have hla : Hid ((cx (madeZ ls 4)).length = 4) := show _ = _ by rw [cx_length, madeZ_length]
  have hsa := Lib.hid (size_four _ hla.out)
  have hma : Hid ((Try.prog.info? 25).map (·.size) = some (cx (madeZ ls 4)).toArray.size) := by show _ = _; rw [List.size_toArray]; exact hsa.out
  have onea := Lib.hid (all_oneCell_toArray (cx_one (madeZ ls 4)))
  have N1 : Row (w2.alloc (Obj.cells #[.complex .f64 0 0, .complex .f64 0 0, .complex .f64 0 0, .complex .f64 0 0] 25)) w2.heap.size 25 (cx noughts) := Row.new w2 _ (cx noughts)
  have tha : Hid ((w2.alloc (Obj.cells #[.complex .f64 0 0, .complex .f64 0 0, .complex .f64 0 0, .complex .f64 0 0] 25)).there w2.heap.size 0 (cx (madeZ ls 4)).toArray.size) := N1.there 0 _ (by rw [List.size_toArray, hla.out]; decide)
  have Na : Row ((w2.alloc (Obj.cells #[.complex .f64 0 0, .complex .f64 0 0, .complex .f64 0 0, .complex .f64 0 0] 25)).setCells w2.heap.size 0 (cx (madeZ ls 4)).toArray.toList) w2.heap.size 25 (cx (madeZ ls 4)) := put_all hla.out N1
  have Ba := below_puts (b := w2.heap.size) ((Below.refl w2.heap.size w2).alloc (Nat.le_refl _) (Obj.cells #[.complex .f64 0 0, .complex .f64 0 0, .complex .f64 0 0, .complex .f64 0 0] 25)) (Nat.le_refl _) 0 (cx (madeZ ls 4)).toArray.toList
  clear N1
  have HR4 := Lib.hid (HR3.out.keep Ba); have HB4 := Lib.hid (HB3.out.trans (Ba.mono HB3.out.size)); have Ha := Lib.hid Na.all
  clear HR3 HB3 Ba Na
  generalize cx (madeZ ls 4) = P1 at *
  go_wp2_with (first | (refine wpList_store_mid rfl 25 (.tmp 3) (.tmp 17) rfl w2.heap.size 0 P1.toArray rfl rfl tha.out hma.out onea.out ?_) | (refine wpList_load_mid rfl 25 (.tmp 3) rfl w2.heap.size 0 rfl P1 _ Ha.out Try.underlying25 rfl hsa.out ?_))
  generalize (w2.alloc (Obj.cells #[.complex .f64 0 0, .complex .f64 0 0, .complex .f64 0 0, .complex .f64 0 0] 25)).setCells w2.heap.size 0 P1 = w3 at *
  refine (CF.out _).mono ?_
  rintro e w4 ⟨rfl, B5⟩
  have HR5 := Lib.hid (HR4.out.keep B5); have HB5 := Lib.hid (HB4.out.trans (B5.mono HB4.out.size))
  clear HR4 HB4 B5 Ha tha hma hla hsa onea CF
  have hlb : Hid ((cx us).length = 4) := show _ = _ by rw [cx_length, HU.out.1]
  have hsb := Lib.hid (size_four _ hlb.out)
  have hmb : Hid ((Try.prog.info? 25).map (·.size) = some (cx us).toArray.size) := by show _ = _; rw [List.size_toArray]; exact hsb.out
  have oneb := Lib.hid (all_oneCell_toArray (cx_one us))
  have N1 : Row (w4.alloc (Obj.cells #[.complex .f64 0 0, .complex .f64 0 0, .complex .f64 0 0, .complex .f64 0 0] 25)) w4.heap.size 25 (cx noughts) := Row.new w4 _ (cx noughts)
  have thb : Hid ((w4.alloc (Obj.cells #[.complex .f64 0 0, .complex .f64 0 0, .complex .f64 0 0, .complex .f64 0 0] 25)).there w4.heap.size 0 (cx us).toArray.size) := N1.there 0 _ (by rw [List.size_toArray, hlb.out]; decide)
  have Nb : Row ((w4.alloc (Obj.cells #[.complex .f64 0 0, .complex .f64 0 0, .complex .f64 0 0, .complex .f64 0 0] 25)).setCells w4.heap.size 0 (cx us).toArray.toList) w4.heap.size 25 (cx us) := put_all hlb.out N1
  have Bb := below_puts (b := w4.heap.size) ((Below.refl w4.heap.size w4).alloc (Nat.le_refl _) (Obj.cells #[.complex .f64 0 0, .complex .f64 0 0, .complex .f64 0 0, .complex .f64 0 0] 25)) (Nat.le_refl _) 0 (cx us).toArray.toList
  clear N1
  have HR6 := Lib.hid (HR5.out.keep Bb); have HB6 := Lib.hid (HB5.out.trans (Bb.mono HB5.out.size)); have HNb := Lib.hid Nb
  clear HR5 HB5 Bb Nb
  obtain ⟨P2, hP2⟩ : ∃ P2, P2 = cx us := ⟨_, rfl⟩
  rw [← hP2] at hlb hsb hmb oneb thb HR6 HB6 HNb ⊢
  have HP2 := Lib.hid hP2
  clear hP2
  go_wp2_with (first | (refine wpList_store_mid rfl 25 (.tmp 5) (.tmp 20) rfl w4.heap.size 0 P2.toArray rfl rfl thb.out hmb.out oneb.out ?_))
  generalize (w4.alloc (Obj.cells #[.complex .f64 0 0, .complex .f64 0 0, .complex .f64 0 0, .complex .f64 0 0] 25)).setCells w4.heap.size 0 P2 = w5 at *
  generalize w4.heap.size = g at *
  clear thb hmb hlb hsb oneb
  go_loopw [6] (fun v wr => FourAt w w.heap.size g ls us v wr) (fun v _ => 4 - (intOf v).toNat)
  case atStart => exact ⟨0, by omega, rfl, HL.out ▸ HR6.out, HP2.out ▸ HNb.out, HB6.out⟩
  case round =>
    clear HR6 HNb HB6
    obtain ⟨k, hk, rfl, R1, R2, B⟩ := hrel
    by_cases h4 : k < 4
    · have d1 : decide ((k : Int) < 4) = true := by simp; omega
      have k0 : (0 : Int) ≤ (k : Int) := by omega
      have k4 : (k : Int) < 4 := by omega
      have hwu := HU.out.2 k h4
      have H4 := Lib.hid h4
      have hwu : Whole (us.getD k (0, 0)).1 0 ∧ Whole (us.getD k (0, 0)).2 0 := hwu
      have cP := Lib.hid (parts_yes hwu.1 hwu.2 ⟨by decide, by decide⟩ ⟨by decide, by decide⟩)
      have c1 := (R2.cell k).trans (cx_get us k (by rw [HU.out.1]; exact h4))
      have HR1 := Lib.hid R1; have HR2 := Lib.hid R2; have HB := Lib.hid B
      clear R1 R2 B hwu h4 hk
      generalize us.getD k (0, 0) = z at *
      go_wp2_with fail
      refine (cP.out _).mono ?_
      rintro e v1 ⟨rfl, hw⟩; subst v1
      go_wp2_with fail
      go_roundw
      case rel => exact ⟨k + 1, H4.out, ret_val (by have := H4.out; omega), HR1.out, HR2.out, HB.out⟩
      case measure => simp [intOf]; have := H4.out; omega
    · obtain rfl : k = 4 := by omega
      have HB := Lib.hid B
      clear R1 R2 B hk h4
      go_wp2_with fail
      go_ret
      exact ⟨rfl, HB.out⟩

theorem waveFour_any (ls : List Int) (hl : ls.length = 8) (w : World) :
    Calls Try.prog 3 #[.agg (intCells ls).toArray] w fun e w' => e = .returned (.bool true) ∧ Below w.heap.size w w' := by
  cases h : fitTo ls 4 with
  | true => exact waveFour_yes ls hl h w
  | false => exact waveFour_no ls hl h w

end Go.Proofs.Ytdclgdpifamomaa
