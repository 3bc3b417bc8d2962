/-
  The walk of the law WaveBack: for every array that came in. No condition.
-/
import Derived.Test.YtdclgdpifamomaaFour8Walk
namespace Go.Proofs.Ytdclgdpifamomaa
open Go.RowKit

/-- What the law reckons, behind k rounds. -/
def wantL (s t : Nat → Int) (k : Nat) : List Int := (List.range 8).map fun c => if c / 2 < k then (if c % 2 = 0 then s (c / 2) / 4 else t (c / 2) / 4) else 0
theorem wantL_length (s t : Nat → Int) (k : Nat) : (wantL s t k).length = 8 := by simp [wantL]
theorem wantL_zero (s t : Nat → Int) : wantL s t 0 = List.replicate 8 0 := by simp [wantL, List.range_succ, List.replicate]
theorem wantL_next (s t : Nat → Int) (k : Nat) (hk : k < 4) : ((intCells (wantL s t k)).set (2 * k) (.int .i64 (s k / 4))).set (2 * k + 1) (.int .i64 (t k / 4)) = intCells (wantL s t (k + 1)) := by
  rcases lt4 hk with rfl | rfl | rfl | rfl <;> simp [wantL, intCells, List.range_succ]
theorem wantL_get (s t : Nat → Int) (k : Nat) (hk : k < 4) : (intCells (wantL s t 4))[2 * k]? = some (.int .i64 (s k / 4)) ∧ (intCells (wantL s t 4))[2 * k + 1]? = some (.int .i64 (t k / 4)) := by
  rcases lt4 hk with rfl | rfl | rfl | rfl <;> simp [wantL, intCells, List.range_succ]

/-- All of the first k are multiples of 4. -/
def divTo (s t : Nat → Int) (k : Nat) : Bool := decide (∀ j, j < k → s j % 4 = 0 ∧ t j % 4 = 0)
theorem divTo_zero (s t : Nat → Int) : divTo s t 0 = true := decide_eq_true (fun j hj => absurd hj (by omega))
theorem divTo_next (s t : Nat → Int) (k : Nat) : divTo s t (k + 1) = (divTo s t k && (decide (s k % 4 = 0) && decide (t k % 4 = 0))) := by
  unfold divTo
  rw [Bool.eq_iff_iff]
  simp only [decide_eq_true_eq, Bool.and_eq_true]
  constructor
  · intro h
    exact ⟨fun j hj => h j (by omega), h k (by omega)⟩
  · rintro ⟨h, h1⟩ j hj
    by_cases e : j = k
    · subst e; exact h1
    · exact h j (by omega)
theorem quarters_are {s t : Nat → Int} (hg : ∀ k, k < 4 → Great (s k) ∧ Great (t k)) : Are (quarters s t 4) (fun k => s k / 4) (fun k => t k / 4) := by
  refine ⟨quarters_length _ _ _, fun k hk => ?_⟩
  rw [quarters_get _ _ _ _ hk, if_pos hk]
  obtain ⟨⟨h1, h2⟩, h3, h4⟩ := hg k hk
  exact ⟨whole_of_int _ (by omega), whole_of_int _ (by omega)⟩
theorem tdiv_of (s : Int) (h : s % 4 = 0) : s.tdiv 4 = s / 4 := Int.tdiv_eq_ediv_of_dvd (Int.dvd_of_emod_eq_zero h)

/-- The law's loops. -/
def BackY (w : World) (b g3 g5 : Nat) (ls : List Int) (P1 : List Value) (s t : Nat → Int) (v4 v6 : Value) (wr : World) : Prop :=
  ∃ k : Nat, k ≤ 4 ∧ v4 = .bool true ∧ v6 = .int .i64 (k : Int) ∧ Row wr b 22 (intCells ls) ∧ Row wr g3 25 P1 ∧ Row wr g5 22 (intCells (wantL s t k)) ∧ Below w.heap.size w wr
def BackE (w : World) (b g3 g5 : Nat) (ls : List Int) (P1 : List Value) (s t : Nat → Int) (v4 v6 : Value) (wr : World) : Prop :=
  ∃ (k : Nat) (Ws : List Value), k ≤ 4 ∧ v4 = .bool (divTo s t k) ∧ v6 = .int .i64 (k : Int) ∧ Row wr b 22 (intCells ls) ∧ Row wr g3 25 P1 ∧ Row wr g5 22 Ws ∧ Ws.length = 8 ∧ Below w.heap.size w wr
def BackN (w : World) (g3 : Nat) (P1 : List Value) (v4 v6 : Value) (wr : World) : Prop :=
  v4 = .bool false ∧ v6 = .int .i64 0 ∧ Row wr g3 25 P1 ∧ Below w.heap.size w wr
def BackK (w : World) (g : Nat) (us : List (Nat × Nat)) (v : Value) (wr : World) : Prop :=
  ∃ k : Nat, k ≤ 4 ∧ v = .int .i64 (k : Int) ∧ Row wr g 25 (cx us) ∧ Below w.heap.size w wr
def BackKY (w : World) (g g5 : Nat) (us : List (Nat × Nat)) (s t : Nat → Int) (v : Value) (wr : World) : Prop :=
  ∃ k : Nat, k ≤ 4 ∧ v = .int .i64 (k : Int) ∧ Row wr g 25 (cx us) ∧ Row wr g5 22 (intCells (wantL s t 4)) ∧ Below w.heap.size w wr

theorem tdiv_bound (s : Int) : -(s.natAbs : Int) ≤ s.tdiv 4 ∧ s.tdiv 4 ≤ (s.natAbs : Int) := by
  have h : (s.tdiv 4).natAbs ≤ s.natAbs := by rw [Int.natAbs_tdiv]; exact Nat.div_le_self _ _
  omega

set_option maxHeartbeats 8000000 in
theorem waveBack_N (ls : List Int) (hl : ls.length = 8) (hfit : fitTo ls 4 = false) (w : World) :
    Calls Try.prog 4 #[.agg (intCells ls).toArray] w fun e w' => e = .returned (.bool true) ∧ Below w.heap.size w w' := by
  have CM := Lib.hid (made_any ls hl)
  have cB := back_else (madeZ_length ls 4) (made_bits ls) (made_else hfit)
  have hV := are_none
  generalize noughts = V at cB hV
  have CB := Lib.hid cB; have HV := Lib.hid hV
  rw [hfit] at CM
  have hl8 : Hid ((intCells ls).length = 8) := show _ = _ by rw [intCells_length, hl]
  have hs8 := Lib.hid (size_oct _ hl8.out)
  have R1 : Row (w.alloc (.cells (intCells ls).toArray 22)) w.heap.size 22 (intCells ls) := Row.new w _ _
  have BW : Below w.heap.size w (w.alloc (.cells (intCells ls).toArray 22)) := (Below.refl _ _).alloc (Nat.le_refl _) _
  have HR1 := Lib.hid R1; have HBW := Lib.hid BW
  obtain ⟨L, hL⟩ : ∃ L, L = intCells ls := ⟨_, rfl⟩
  have HL := Lib.hid hL
  rw [← hL] at CM hl8 hs8 HR1 HBW ⊢
  clear cB hV hfit R1 BW hL
  go_enter Try.func4, Try.ntmps4
  go_wp2_with fail
  generalize w.alloc (.cells L.toArray 22) = W at *
  refine (awake_any W).mono ?_
  rintro e w1 ⟨rfl, B1⟩
  have HR2 := Lib.hid (HR1.out.keep B1); have HB2 := Lib.hid (HBW.out.trans (B1.mono HBW.out.size))
  have H2 := Lib.hid HR2.out.all
  clear HR1 HBW B1
  go_wp2_with (first | (refine wpList_load_mid rfl 22 (.tmp 1) rfl w.heap.size 0 rfl L _ H2.out Try.underlying22 rfl hs8.out ?_))
  refine (CM.out _).mono ?_
  rintro e w2 ⟨rfl, B3⟩
  have HR3 := Lib.hid (HR2.out.keep B3); have HB3 := Lib.hid (HB2.out.trans (B3.mono HB2.out.size))
  clear HR2 HB2 B3 H2 CM
  have hla : Hid ((cx (madeZ ls 4)).length = 4) := show _ = _ by rw [cx_length, madeZ_length]
  have hsa := Lib.hid (size_four _ hla.out)
  have hma : Hid ((Try.prog.info? 25).map (·.size) = some (cx (madeZ ls 4)).toArray.size) := by show _ = _; rw [List.size_toArray]; exact hsa.out
  have onea := Lib.hid (all_oneCell_toArray (cx_one (madeZ ls 4)))
  have N1 : Row (w2.alloc (Obj.cells #[.complex .f64 0 0, .complex .f64 0 0, .complex .f64 0 0, .complex .f64 0 0] 25)) w2.heap.size 25 (cx noughts) := Row.new w2 _ (cx noughts)
  have tha : Hid ((w2.alloc (Obj.cells #[.complex .f64 0 0, .complex .f64 0 0, .complex .f64 0 0, .complex .f64 0 0] 25)).there w2.heap.size 0 (cx (madeZ ls 4)).toArray.size) := N1.there 0 _ (by rw [List.size_toArray, hla.out]; decide)
  have Na : Row ((w2.alloc (Obj.cells #[.complex .f64 0 0, .complex .f64 0 0, .complex .f64 0 0, .complex .f64 0 0] 25)).setCells w2.heap.size 0 (cx (madeZ ls 4)).toArray.toList) w2.heap.size 25 (cx (madeZ ls 4)) := put_all hla.out N1
  have Ba := below_puts (b := w2.heap.size) ((Below.refl w2.heap.size w2).alloc (Nat.le_refl _) (Obj.cells #[.complex .f64 0 0, .complex .f64 0 0, .complex .f64 0 0, .complex .f64 0 0] 25)) (Nat.le_refl _) 0 (cx (madeZ ls 4)).toArray.toList
  clear N1
  have HR4 := Lib.hid (HR3.out.keep Ba); have HB4 := Lib.hid (HB3.out.trans (Ba.mono HB3.out.size)); have HNa := Lib.hid Na
  have l3 : w.heap.size ≤ w2.heap.size := HB3.out.size
  clear HR3 HB3 Ba Na
  generalize cx (madeZ ls 4) = P1 at *
  go_wp2_with (first | (refine wpList_store_mid rfl 25 (.tmp 3) (.tmp 20) rfl w2.heap.size 0 P1.toArray rfl rfl tha.out hma.out onea.out ?_))
  generalize (w2.alloc (Obj.cells #[.complex .f64 0 0, .complex .f64 0 0, .complex .f64 0 0, .complex .f64 0 0] 25)).setCells w2.heap.size 0 P1 = w3 at *
  generalize w2.heap.size = g3 at *
  have N5 : Row (w3.alloc (Obj.cells #[.int .i64 0, .int .i64 0, .int .i64 0, .int .i64 0, .int .i64 0, .int .i64 0, .int .i64 0, .int .i64 0] 22)) w3.heap.size 22 (intCells (List.replicate 8 0)) := Row.new w3 _ (intCells (List.replicate 8 0))
  have HR5 := Lib.hid (HR4.out.past (Obj.cells #[.int .i64 0, .int .i64 0, .int .i64 0, .int .i64 0, .int .i64 0, .int .i64 0, .int .i64 0, .int .i64 0] 22)); have HN5 := Lib.hid (HNa.out.past (Obj.cells #[.int .i64 0, .int .i64 0, .int .i64 0, .int .i64 0, .int .i64 0, .int .i64 0, .int .i64 0, .int .i64 0] 22)); have HW5 := Lib.hid N5; have HB5 := Lib.hid (HB4.out.alloc HB4.out.size (Obj.cells #[.int .i64 0, .int .i64 0, .int .i64 0, .int .i64 0, .int .i64 0, .int .i64 0, .int .i64 0, .int .i64 0] 22))
  have ne1 : w.heap.size ≠ w3.heap.size := by have := HR4.out.lt; omega
  have ne3 : g3 ≠ w3.heap.size := by have := HNa.out.lt; omega
  have l5 : w.heap.size ≤ w3.heap.size := HB4.out.size
  generalize w3.alloc (Obj.cells #[.int .i64 0, .int .i64 0, .int .i64 0, .int .i64 0, .int .i64 0, .int .i64 0, .int .i64 0, .int .i64 0] 22) = w5 at *
  generalize w3.heap.size = g5 at *
  clear N5 HR4 HNa HB4 tha hma onea
  go_loopw [4, 6] (fun v4 v6 wr => BackN w g3 P1 v4 v6 wr) (fun _ v6 _ => 4 - (intOf v6).toNat)
  case atStart => exact ⟨rfl, rfl, HN5.out, HB5.out⟩
  case round =>
    clear HN5 HB5 HR5 HW5
    obtain ⟨rfl, rfl, R3, B⟩ := hrel
    have HR3 := Lib.hid R3; have HB := Lib.hid B
    clear R3 B
    have H3 := Lib.hid HR3.out.all
    go_wp2_with (first | (refine wpList_load_mid rfl 25 (.tmp 3) rfl g3 0 rfl P1 _ H3.out Try.underlying25 rfl hsa.out ?_))
    refine (CB.out _).mono ?_
    rintro e w6 ⟨rfl, B7⟩
    have HB7 := Lib.hid (HB.out.trans (B7.mono HB.out.size))
    clear B7 HB H3
    have hlb : Hid ((cx V).length = 4) := show _ = _ by rw [cx_length, HV.out.1]
    have hsb := Lib.hid (size_four _ hlb.out)
    have hmb : Hid ((Try.prog.info? 25).map (·.size) = some (cx V).toArray.size) := by show _ = _; rw [List.size_toArray]; exact hsb.out
    have oneb := Lib.hid (all_oneCell_toArray (cx_one V))
    have N1 : Row (w6.alloc (Obj.cells #[.complex .f64 0 0, .complex .f64 0 0, .complex .f64 0 0, .complex .f64 0 0] 25)) w6.heap.size 25 (cx noughts) := Row.new w6 _ (cx noughts)
    have thb : Hid ((w6.alloc (Obj.cells #[.complex .f64 0 0, .complex .f64 0 0, .complex .f64 0 0, .complex .f64 0 0] 25)).there w6.heap.size 0 (cx V).toArray.size) := N1.there 0 _ (by rw [List.size_toArray, hlb.out]; decide)
    have Nb : Row ((w6.alloc (Obj.cells #[.complex .f64 0 0, .complex .f64 0 0, .complex .f64 0 0, .complex .f64 0 0] 25)).setCells w6.heap.size 0 (cx V).toArray.toList) w6.heap.size 25 (cx V) := put_all hlb.out N1
    have Bb := below_puts (b := w6.heap.size) ((Below.refl w6.heap.size w6).alloc (Nat.le_refl _) (Obj.cells #[.complex .f64 0 0, .complex .f64 0 0, .complex .f64 0 0, .complex .f64 0 0] 25)) (Nat.le_refl _) 0 (cx V).toArray.toList
    clear N1
    have HB8 := Lib.hid (HB7.out.trans (Bb.mono HB7.out.size)); have HNb := Lib.hid Nb
    clear HB7 Bb Nb
    obtain ⟨P2, hP2⟩ : ∃ P2, P2 = cx V := ⟨_, rfl⟩
    rw [← hP2] at hlb hsb hmb oneb thb HB8 HNb ⊢
    have HP2 := Lib.hid hP2
    clear hP2
    go_wp2_with (first | (refine wpList_store_mid rfl 25 (.tmp 9) (.tmp 57) rfl w6.heap.size 0 P2.toArray rfl rfl thb.out hmb.out oneb.out ?_))
    generalize (w6.alloc (Obj.cells #[.complex .f64 0 0, .complex .f64 0 0, .complex .f64 0 0, .complex .f64 0 0] 25)).setCells w6.heap.size 0 P2 = w7 at *
    generalize w6.heap.size = g at *
    clear thb hmb hlb hsb oneb
    go_loopw [11] (fun v wr => BackK w g V v wr) (fun v _ => 4 - (intOf v).toNat)
    case atStart => exact ⟨0, by omega, rfl, HP2.out ▸ HNb.out, HB8.out⟩
    case round =>
      clear HNb HB8
      obtain ⟨j, hj, rfl, R2, B⟩ := hrel
      by_cases hj4 : j < 4
      · have d2 : decide ((j : Int) < 4) = true := by simp; omega
        have k0 : (0 : Int) ≤ (j : Int) := by omega
        have k4 : (j : Int) < 4 := by omega
        have hwu : Whole (V.getD j (0, 0)).1 0 ∧ Whole (V.getD j (0, 0)).2 0 := HV.out.2 j hj4
        have H4 := Lib.hid hj4
        have cP := Lib.hid (parts_yes hwu.1 hwu.2 ⟨by decide, by decide⟩ ⟨by decide, by decide⟩)
        have c1 := (R2.cell j).trans (cx_get V j (by rw [HV.out.1]; exact hj4))
        have HR2 := Lib.hid R2; have HB := Lib.hid B
        clear R2 B hwu hj4 hj
        generalize V.getD j (0, 0) = z at *
        go_wp2_with fail
        refine (cP.out _).mono ?_
        rintro e v1 ⟨rfl, hw⟩; subst v1
        go_wp2_with fail
        go_roundw
        case rel => exact ⟨j + 1, H4.out, ret_val (by have := H4.out; omega), HR2.out, HB.out⟩
        case measure => simp [intOf]; have := H4.out; omega
      · obtain rfl : j = 4 := by omega
        have HB := Lib.hid B
        clear R2 B hj hj4
        go_wp2_with fail
        go_ret
        exact ⟨rfl, HB.out⟩

set_option maxHeartbeats 8000000 in
theorem waveBack_Y (ls : List Int) (hl : ls.length = 8) (hfit : fitTo ls 4 = true) (hdiv : divTo (tr (-1) (pR ls) (pI ls)) (ti (-1) (pR ls) (pI ls)) 4 = true) (w : World) :
    Calls Try.prog 4 #[.agg (intCells ls).toArray] w fun e w' => e = .returned (.bool true) ∧ Below w.heap.size w w' := by
  have CM := Lib.hid (made_any ls hl)
  have hfa := fitTo_all hfit
  have CS : Hid (∀ k, k < 4 → ∀ w, _) := fun k hk => sum_any (-1) (.inr rfl) ls hl hfa k hk
  have hgr : ∀ k, Great ((tr (-1) (pR ls) (pI ls)) k) ∧ Great ((ti (-1) (pR ls) (pI ls)) k) := fun k => turned_great hfa k
  have hd4 : ∀ k, k < 4 → (tr (-1) (pR ls) (pI ls)) k % 4 = 0 ∧ (ti (-1) (pR ls) (pI ls)) k % 4 = 0 := of_decide_eq_true hdiv
  have cB := back_any (made_are hfa) hfa true ⟨fun _ => hd4, fun _ => rfl⟩
  have hV := quarters_are (s := (tr (-1) (pR ls) (pI ls))) (t := (ti (-1) (pR ls) (pI ls))) (fun k _ => hgr k)
  simp only [if_true] at cB
  generalize quarters (tr (-1) (pR ls) (pI ls)) (ti (-1) (pR ls) (pI ls)) 4 = V at cB hV
  have HD := Lib.hid hd4
  have HG := Lib.hid hgr
  generalize (tr (-1) (pR ls) (pI ls)) = s at *
  generalize (ti (-1) (pR ls) (pI ls)) = t at *
  have CB := Lib.hid cB; have HV := Lib.hid hV
  rw [hfit] at CM
  have hl8 : Hid ((intCells ls).length = 8) := show _ = _ by rw [intCells_length, hl]
  have hs8 := Lib.hid (size_oct _ hl8.out)
  have R1 : Row (w.alloc (.cells (intCells ls).toArray 22)) w.heap.size 22 (intCells ls) := Row.new w _ _
  have BW : Below w.heap.size w (w.alloc (.cells (intCells ls).toArray 22)) := (Below.refl _ _).alloc (Nat.le_refl _) _
  have HR1 := Lib.hid R1; have HBW := Lib.hid BW
  obtain ⟨L, hL⟩ : ∃ L, L = intCells ls := ⟨_, rfl⟩
  have HL := Lib.hid hL
  rw [← hL] at CM hl8 hs8 HR1 HBW ⊢
  rw [← hL] at CS
  clear hfa hgr
  clear hd4 hdiv
  clear cB hV hfit R1 BW hL
  go_enter Try.func4, Try.ntmps4
  go_wp2_with fail
  generalize w.alloc (.cells L.toArray 22) = W at *
  refine (awake_any W).mono ?_
  rintro e w1 ⟨rfl, B1⟩
  have HR2 := Lib.hid (HR1.out.keep B1); have HB2 := Lib.hid (HBW.out.trans (B1.mono HBW.out.size))
  have H2 := Lib.hid HR2.out.all
  clear HR1 HBW B1
  go_wp2_with (first | (refine wpList_load_mid rfl 22 (.tmp 1) rfl w.heap.size 0 rfl L _ H2.out Try.underlying22 rfl hs8.out ?_))
  refine (CM.out _).mono ?_
  rintro e w2 ⟨rfl, B3⟩
  have HR3 := Lib.hid (HR2.out.keep B3); have HB3 := Lib.hid (HB2.out.trans (B3.mono HB2.out.size))
  clear HR2 HB2 B3 H2 CM
  have hla : Hid ((cx (madeZ ls 4)).length = 4) := show _ = _ by rw [cx_length, madeZ_length]
  have hsa := Lib.hid (size_four _ hla.out)
  have hma : Hid ((Try.prog.info? 25).map (·.size) = some (cx (madeZ ls 4)).toArray.size) := by show _ = _; rw [List.size_toArray]; exact hsa.out
  have onea := Lib.hid (all_oneCell_toArray (cx_one (madeZ ls 4)))
  have N1 : Row (w2.alloc (Obj.cells #[.complex .f64 0 0, .complex .f64 0 0, .complex .f64 0 0, .complex .f64 0 0] 25)) w2.heap.size 25 (cx noughts) := Row.new w2 _ (cx noughts)
  have tha : Hid ((w2.alloc (Obj.cells #[.complex .f64 0 0, .complex .f64 0 0, .complex .f64 0 0, .complex .f64 0 0] 25)).there w2.heap.size 0 (cx (madeZ ls 4)).toArray.size) := N1.there 0 _ (by rw [List.size_toArray, hla.out]; decide)
  have Na : Row ((w2.alloc (Obj.cells #[.complex .f64 0 0, .complex .f64 0 0, .complex .f64 0 0, .complex .f64 0 0] 25)).setCells w2.heap.size 0 (cx (madeZ ls 4)).toArray.toList) w2.heap.size 25 (cx (madeZ ls 4)) := put_all hla.out N1
  have Ba := below_puts (b := w2.heap.size) ((Below.refl w2.heap.size w2).alloc (Nat.le_refl _) (Obj.cells #[.complex .f64 0 0, .complex .f64 0 0, .complex .f64 0 0, .complex .f64 0 0] 25)) (Nat.le_refl _) 0 (cx (madeZ ls 4)).toArray.toList
  clear N1
  have HR4 := Lib.hid (HR3.out.keep Ba); have HB4 := Lib.hid (HB3.out.trans (Ba.mono HB3.out.size)); have HNa := Lib.hid Na
  have l3 : w.heap.size ≤ w2.heap.size := HB3.out.size
  clear HR3 HB3 Ba Na
  generalize cx (madeZ ls 4) = P1 at *
  go_wp2_with (first | (refine wpList_store_mid rfl 25 (.tmp 3) (.tmp 20) rfl w2.heap.size 0 P1.toArray rfl rfl tha.out hma.out onea.out ?_))
  generalize (w2.alloc (Obj.cells #[.complex .f64 0 0, .complex .f64 0 0, .complex .f64 0 0, .complex .f64 0 0] 25)).setCells w2.heap.size 0 P1 = w3 at *
  generalize w2.heap.size = g3 at *
  have N5 : Row (w3.alloc (Obj.cells #[.int .i64 0, .int .i64 0, .int .i64 0, .int .i64 0, .int .i64 0, .int .i64 0, .int .i64 0, .int .i64 0] 22)) w3.heap.size 22 (intCells (List.replicate 8 0)) := Row.new w3 _ (intCells (List.replicate 8 0))
  have HR5 := Lib.hid (HR4.out.past (Obj.cells #[.int .i64 0, .int .i64 0, .int .i64 0, .int .i64 0, .int .i64 0, .int .i64 0, .int .i64 0, .int .i64 0] 22)); have HN5 := Lib.hid (HNa.out.past (Obj.cells #[.int .i64 0, .int .i64 0, .int .i64 0, .int .i64 0, .int .i64 0, .int .i64 0, .int .i64 0, .int .i64 0] 22)); have HW5 := Lib.hid N5; have HB5 := Lib.hid (HB4.out.alloc HB4.out.size (Obj.cells #[.int .i64 0, .int .i64 0, .int .i64 0, .int .i64 0, .int .i64 0, .int .i64 0, .int .i64 0, .int .i64 0] 22))
  have ne1 : w.heap.size ≠ w3.heap.size := by have := HR4.out.lt; omega
  have ne3 : g3 ≠ w3.heap.size := by have := HNa.out.lt; omega
  have l5 : w.heap.size ≤ w3.heap.size := HB4.out.size
  generalize w3.alloc (Obj.cells #[.int .i64 0, .int .i64 0, .int .i64 0, .int .i64 0, .int .i64 0, .int .i64 0, .int .i64 0, .int .i64 0] 22) = w5 at *
  generalize w3.heap.size = g5 at *
  clear N5 HR4 HNa HB4 tha hma onea
  go_loopw [4, 6] (fun v4 v6 wr => BackY w w.heap.size g3 g5 ls P1 s t v4 v6 wr) (fun _ v6 _ => 4 - (intOf v6).toNat)
  case atStart => exact ⟨0, by omega, rfl, rfl, HL.out ▸ HR5.out, HN5.out, by rw [wantL_zero]; exact HW5.out, HB5.out⟩
  case round =>
    clear HN5 HB5 HR5 HW5
    obtain ⟨k, hk, rfl, rfl, R1, R3, R5, B⟩ := hrel
    have HR3 := Lib.hid R3; have HR5 := Lib.hid R5; have HB := Lib.hid B
    by_cases h4 : k < 4
    · have d1 : decide ((k : Int) < 4) = true := by simp; omega
      have hd := HD.out k h4
      have hg := HG.out k
      have m1 : (s k).tmod 4 = 0 := (tmod4 _).2 hd.1
      have m2 : (t k).tmod 4 = 0 := (tmod4 _).2 hd.2
      have q1 := tdiv_of _ hd.1
      have q2 := tdiv_of _ hd.2
      have HWN := Lib.hid (wantL_next s t k h4)
      have hlen : Hid ((intCells (wantL s t k)).length = 8) := show _ = _ by rw [intCells_length, wantL_length]
      generalize intCells (wantL s t k) = Ws at *
      have cS := Lib.hid (CS.out k h4)
      have H4 := Lib.hid h4
      have H2 : Hid (wr.rangeAt w.heap.size 0 L) := show World.rangeAt _ _ _ _ by rw [HL.out]; exact R1.all
      have HR1 := Lib.hid R1
      have qb1 : wrap64 (s k / 4) = (s k / 4) := by have := hg.1.1; have := hg.1.2; have := tdiv_bound (s k); unfold wrap64; omega
      have qb2 : wrap64 (t k / 4) = (t k / 4) := by have := hg.2.1; have := hg.2.2; have := tdiv_bound (t k); unfold wrap64; omega
      clear R1 R3 R5 B hg hk hd
      generalize (s k / 4) = a at *
      generalize (t k / 4) = b at *
      generalize s k = x at *
      generalize t k = y at *
      go_wp2_with (first | (refine wpList_load_mid rfl 22 (.tmp 1) rfl w.heap.size 0 rfl L _ H2.out Try.underlying22 rfl hs8.out ?_))
      refine (cS.out _).mono ?_
      rintro e w6 ⟨rfl, B7⟩
      have R1 := HR1.out.keep B7; have R3 := HR3.out.keep B7; have R5 := HR5.out.keep B7; have B := HB.out.trans (B7.mono HB.out.size)
      have R6 := (R5.set (2 * k) (.int .i64 a)).set (2 * k + 1) (.int .i64 b)
      have S1 := (R1.other (a := ⟨g5, 2 * k, none⟩) ne1 (.int .i64 a)).other (a := ⟨g5, 2 * k + 1, none⟩) ne1 (.int .i64 b)
      have S3 := (R3.other (a := ⟨g5, 2 * k, none⟩) ne3 (.int .i64 a)).other (a := ⟨g5, 2 * k + 1, none⟩) ne3 (.int .i64 b)
      have BB := (B.setCell (p := ⟨g5, 2 * k, none⟩) l5 (.int .i64 a)).setCell (p := ⟨g5, 2 * k + 1, none⟩) l5 (.int .i64 b)
      obtain ⟨o1, p1⟩ : ∃ o1, w6.cell? ⟨g5, 2 * k, none⟩ = some o1 := ⟨_, (R5.cell (2 * k)).trans (List.getElem?_eq_getElem (by rw [hlen.out]; have := H4.out; omega))⟩
      obtain ⟨o2, p2⟩ : ∃ o2, (w6.setCell ⟨g5, 2 * k, none⟩ (.int .i64 a)).cell? ⟨g5, 2 * k + 1, none⟩ = some o2 := ⟨_, ((R5.set (2 * k) (.int .i64 a)).cell (2 * k + 1)).trans (List.getElem?_eq_getElem (by rw [List.length_set, hlen.out]; have := H4.out; omega))⟩
      have f1 := R5.frozen (2 * k)
      have f2 := (R5.set (2 * k) (.int .i64 a)).frozen (2 * k + 1)
      have p3 : w6.cell? ⟨g5, 2 * k + 1, none⟩ = some o2 := by rw [← p2]; exact (World.cell?_setCell_other _ _ _ _ (by simp)).symm
      have f3 := R5.frozen (2 * k + 1)
      have HR6 := Lib.hid R6; have HS1 := Lib.hid S1; have HS3 := Lib.hid S3; have HBB := Lib.hid BB
      have _hlen6 : Hid (((Ws.set (2 * k) (.int .i64 a)).set (2 * k + 1) (.int .i64 b)).length = 8) := show _ = _ by rw [List.length_set, List.length_set, hlen.out]
      have i5 : (2 : Int) * (k : Int) = ((2 * k : Nat) : Int) := by omega
      have i6 : ((2 * k : Nat) : Int) + 1 = ((2 * k + 1 : Nat) : Int) := by omega
      have i7 : ((2 * k : Nat) : Int) < 8 := by have := H4.out; omega
      have i8 : ((2 * k + 1 : Nat) : Int) < 8 := by have := H4.out; omega
      have ni : (2 * k) ≠ (2 * k + 1) := by omega
      have k4 : (k : Int) < 4 := by have := H4.out; omega
      clear R1 R3 R5 B R6 S1 S3 BB B7 HR1 HR3 HR5 HB cS H2 h4 d1
      generalize 2 * k + 1 = I3 at *
      generalize 2 * k = I2 at *
      have i9 : (0 : Int) ≤ (I2 : Int) := by omega
      have i10 : (0 : Int) ≤ (I3 : Int) := by omega
      go_wp2_with fail
      go_roundw
      case rel => exact ⟨k + 1, H4.out, rfl, ret_val (by have := H4.out; omega), HS1.out, HS3.out, HWN.out ▸ HR6.out, HBB.out⟩
      case measure => simp [intOf]; have := H4.out; omega
    · obtain rfl : k = 4 := by omega
      have d1 : decide (((4 : Nat) : Int) < 4) = false := by decide
      clear R1 R3 R5 B h4 hk
      have H3 := Lib.hid HR3.out.all
      have HW := Lib.hid HR5.out
      go_wp2_with (first | (refine wpList_load_mid rfl 25 (.tmp 3) rfl g3 0 rfl P1 _ H3.out Try.underlying25 rfl hsa.out ?_))
      refine (CB.out _).mono ?_
      rintro e w6 ⟨rfl, B7⟩
      have HB7 := Lib.hid (HB.out.trans (B7.mono HB.out.size))
      have HW7 := Lib.hid (HW.out.keep B7)
      clear B7 HB H3
      have hlb : Hid ((cx V).length = 4) := show _ = _ by rw [cx_length, HV.out.1]
      have hsb := Lib.hid (size_four _ hlb.out)
      have hmb : Hid ((Try.prog.info? 25).map (·.size) = some (cx V).toArray.size) := by show _ = _; rw [List.size_toArray]; exact hsb.out
      have oneb := Lib.hid (all_oneCell_toArray (cx_one V))
      have N1 : Row (w6.alloc (Obj.cells #[.complex .f64 0 0, .complex .f64 0 0, .complex .f64 0 0, .complex .f64 0 0] 25)) w6.heap.size 25 (cx noughts) := Row.new w6 _ (cx noughts)
      have thb : Hid ((w6.alloc (Obj.cells #[.complex .f64 0 0, .complex .f64 0 0, .complex .f64 0 0, .complex .f64 0 0] 25)).there w6.heap.size 0 (cx V).toArray.size) := N1.there 0 _ (by rw [List.size_toArray, hlb.out]; decide)
      have Nb : Row ((w6.alloc (Obj.cells #[.complex .f64 0 0, .complex .f64 0 0, .complex .f64 0 0, .complex .f64 0 0] 25)).setCells w6.heap.size 0 (cx V).toArray.toList) w6.heap.size 25 (cx V) := put_all hlb.out N1
      have Bb := below_puts (b := w6.heap.size) ((Below.refl w6.heap.size w6).alloc (Nat.le_refl _) (Obj.cells #[.complex .f64 0 0, .complex .f64 0 0, .complex .f64 0 0, .complex .f64 0 0] 25)) (Nat.le_refl _) 0 (cx V).toArray.toList
      clear N1
      have HB8 := Lib.hid (HB7.out.trans (Bb.mono HB7.out.size)); have HNb := Lib.hid Nb
      have HW8 := Lib.hid (HW7.out.keep Bb)
      clear HB7 Bb Nb
      obtain ⟨P2, hP2⟩ : ∃ P2, P2 = cx V := ⟨_, rfl⟩
      rw [← hP2] at hlb hsb hmb oneb thb HB8 HNb HW8 ⊢
      have HP2 := Lib.hid hP2
      clear hP2
      go_wp2_with (first | (refine wpList_store_mid rfl 25 (.tmp 9) (.tmp 57) rfl w6.heap.size 0 P2.toArray rfl rfl thb.out hmb.out oneb.out ?_))
      generalize (w6.alloc (Obj.cells #[.complex .f64 0 0, .complex .f64 0 0, .complex .f64 0 0, .complex .f64 0 0] 25)).setCells w6.heap.size 0 P2 = w7 at *
      generalize w6.heap.size = g at *
      clear thb hmb hlb hsb oneb
      go_loopw [11] (fun v wr => BackKY w g g5 V s t v wr) (fun v _ => 4 - (intOf v).toNat)
      case atStart => exact ⟨0, by omega, rfl, HP2.out ▸ HNb.out, HW8.out, HB8.out⟩
      case round =>
        clear HNb HB8 HW8
        obtain ⟨k, hk, rfl, R2, R5, B⟩ := hrel
        by_cases h4 : k < 4
        · have d2 : decide ((k : Int) < 4) = true := by simp; omega
          have k0 : (0 : Int) ≤ (k : Int) := by omega
          have k4 : (k : Int) < 4 := by omega
          have hwu := HV.out.2 k h4
          have hg := HG.out k
          have H4 := Lib.hid h4
          obtain ⟨⟨g1, g2⟩, g3', g4⟩ := hg
          have cP := Lib.hid (parts_yes (a := s k / 4) (b := t k / 4) hwu.1 hwu.2 ⟨by omega, by omega⟩ ⟨by omega, by omega⟩)
          have c1 := (R2.cell k).trans (cx_get V k (by rw [HV.out.1]; exact h4))
          have x1 := (R5.cell (2 * k)).trans (wantL_get s t k h4).1
          have y1 := (R5.cell (2 * k + 1)).trans (wantL_get s t k h4).2
          have i5 : (2 : Int) * (k : Int) = ((2 * k : Nat) : Int) := by omega
          have i6 : ((2 * k : Nat) : Int) + 1 = ((2 * k + 1 : Nat) : Int) := by omega
          have i7 : ((2 * k : Nat) : Int) < 8 := by omega
          have i8 : ((2 * k + 1 : Nat) : Int) < 8 := by omega
          have HR2 := Lib.hid R2; have HR5 := Lib.hid R5; have HB := Lib.hid B
          clear R2 R5 B hwu g1 g2 g3' g4 h4 hk
          generalize 2 * k + 1 = I3 at *
          generalize 2 * k = I2 at *
          have i9 : (0 : Int) ≤ (I2 : Int) := by omega
          have i10 : (0 : Int) ≤ (I3 : Int) := by omega
          generalize s k / 4 = x at *
          generalize t k / 4 = y at *
          have e1 : (x != x) = false := by simp
          have e2 : (y != y) = false := by simp
          generalize V.getD k (0, 0) = z at *
          go_wp2_with fail
          refine (cP.out _).mono ?_
          rintro e v1 ⟨rfl, hw⟩; subst v1
          go_wp2_with fail
          go_roundw
          case rel => exact ⟨k + 1, H4.out, ret_val (by have := H4.out; omega), HR2.out, HR5.out, HB.out⟩
          case measure => simp [intOf]; have := H4.out; omega
        · obtain rfl : k = 4 := by omega
          have HB := Lib.hid B
          clear R2 R5 B hk h4
          go_wp2_with fail
          go_ret
          exact ⟨rfl, HB.out⟩

set_option maxHeartbeats 8000000 in
theorem waveBack_E (ls : List Int) (hl : ls.length = 8) (hfit : fitTo ls 4 = true) (hdiv : divTo (tr (-1) (pR ls) (pI ls)) (ti (-1) (pR ls) (pI ls)) 4 = false) (w : World) :
    Calls Try.prog 4 #[.agg (intCells ls).toArray] w fun e w' => e = .returned (.bool true) ∧ Below w.heap.size w w' := by
  have CM := Lib.hid (made_any ls hl)
  have hfa := fitTo_all hfit
  have CS : Hid (∀ k, k < 4 → ∀ w, _) := fun k hk => sum_any (-1) (.inr rfl) ls hl hfa k hk
  have hgr : ∀ k, Great ((tr (-1) (pR ls) (pI ls)) k) ∧ Great ((ti (-1) (pR ls) (pI ls)) k) := fun k => turned_great hfa k
  have cB := back_any (made_are hfa) hfa false ⟨fun h => (by cases h), fun h => by
    have : divTo (tr (-1) (pR ls) (pI ls)) (ti (-1) (pR ls) (pI ls)) 4 = true := decide_eq_true h
    rw [hdiv] at this
    cases this⟩
  simp only [Bool.false_eq_true, if_false] at cB
  have hV := are_none
  generalize noughts = V at cB hV
  have HD := Lib.hid hdiv
  have HG := Lib.hid hgr
  generalize (tr (-1) (pR ls) (pI ls)) = s at *
  generalize (ti (-1) (pR ls) (pI ls)) = t at *
  have CB := Lib.hid cB; have HV := Lib.hid hV
  rw [hfit] at CM
  have hl8 : Hid ((intCells ls).length = 8) := show _ = _ by rw [intCells_length, hl]
  have hs8 := Lib.hid (size_oct _ hl8.out)
  have R1 : Row (w.alloc (.cells (intCells ls).toArray 22)) w.heap.size 22 (intCells ls) := Row.new w _ _
  have BW : Below w.heap.size w (w.alloc (.cells (intCells ls).toArray 22)) := (Below.refl _ _).alloc (Nat.le_refl _) _
  have HR1 := Lib.hid R1; have HBW := Lib.hid BW
  obtain ⟨L, hL⟩ : ∃ L, L = intCells ls := ⟨_, rfl⟩
  have HL := Lib.hid hL
  rw [← hL] at CM hl8 hs8 HR1 HBW ⊢
  rw [← hL] at CS
  clear hfa hgr
  clear hdiv
  clear cB hV hfit R1 BW hL
  go_enter Try.func4, Try.ntmps4
  go_wp2_with fail
  generalize w.alloc (.cells L.toArray 22) = W at *
  refine (awake_any W).mono ?_
  rintro e w1 ⟨rfl, B1⟩
  have HR2 := Lib.hid (HR1.out.keep B1); have HB2 := Lib.hid (HBW.out.trans (B1.mono HBW.out.size))
  have H2 := Lib.hid HR2.out.all
  clear HR1 HBW B1
  go_wp2_with (first | (refine wpList_load_mid rfl 22 (.tmp 1) rfl w.heap.size 0 rfl L _ H2.out Try.underlying22 rfl hs8.out ?_))
  refine (CM.out _).mono ?_
  rintro e w2 ⟨rfl, B3⟩
  have HR3 := Lib.hid (HR2.out.keep B3); have HB3 := Lib.hid (HB2.out.trans (B3.mono HB2.out.size))
  clear HR2 HB2 B3 H2 CM
  have hla : Hid ((cx (madeZ ls 4)).length = 4) := show _ = _ by rw [cx_length, madeZ_length]
  have hsa := Lib.hid (size_four _ hla.out)
  have hma : Hid ((Try.prog.info? 25).map (·.size) = some (cx (madeZ ls 4)).toArray.size) := by show _ = _; rw [List.size_toArray]; exact hsa.out
  have onea := Lib.hid (all_oneCell_toArray (cx_one (madeZ ls 4)))
  have N1 : Row (w2.alloc (Obj.cells #[.complex .f64 0 0, .complex .f64 0 0, .complex .f64 0 0, .complex .f64 0 0] 25)) w2.heap.size 25 (cx noughts) := Row.new w2 _ (cx noughts)
  have tha : Hid ((w2.alloc (Obj.cells #[.complex .f64 0 0, .complex .f64 0 0, .complex .f64 0 0, .complex .f64 0 0] 25)).there w2.heap.size 0 (cx (madeZ ls 4)).toArray.size) := N1.there 0 _ (by rw [List.size_toArray, hla.out]; decide)
  have Na : Row ((w2.alloc (Obj.cells #[.complex .f64 0 0, .complex .f64 0 0, .complex .f64 0 0, .complex .f64 0 0] 25)).setCells w2.heap.size 0 (cx (madeZ ls 4)).toArray.toList) w2.heap.size 25 (cx (madeZ ls 4)) := put_all hla.out N1
  have Ba := below_puts (b := w2.heap.size) ((Below.refl w2.heap.size w2).alloc (Nat.le_refl _) (Obj.cells #[.complex .f64 0 0, .complex .f64 0 0, .complex .f64 0 0, .complex .f64 0 0] 25)) (Nat.le_refl _) 0 (cx (madeZ ls 4)).toArray.toList
  clear N1
  have HR4 := Lib.hid (HR3.out.keep Ba); have HB4 := Lib.hid (HB3.out.trans (Ba.mono HB3.out.size)); have HNa := Lib.hid Na
  have l3 : w.heap.size ≤ w2.heap.size := HB3.out.size
  clear HR3 HB3 Ba Na
  generalize cx (madeZ ls 4) = P1 at *
  go_wp2_with (first | (refine wpList_store_mid rfl 25 (.tmp 3) (.tmp 20) rfl w2.heap.size 0 P1.toArray rfl rfl tha.out hma.out onea.out ?_))
  generalize (w2.alloc (Obj.cells #[.complex .f64 0 0, .complex .f64 0 0, .complex .f64 0 0, .complex .f64 0 0] 25)).setCells w2.heap.size 0 P1 = w3 at *
  generalize w2.heap.size = g3 at *
  have N5 : Row (w3.alloc (Obj.cells #[.int .i64 0, .int .i64 0, .int .i64 0, .int .i64 0, .int .i64 0, .int .i64 0, .int .i64 0, .int .i64 0] 22)) w3.heap.size 22 (intCells (List.replicate 8 0)) := Row.new w3 _ (intCells (List.replicate 8 0))
  have HR5 := Lib.hid (HR4.out.past (Obj.cells #[.int .i64 0, .int .i64 0, .int .i64 0, .int .i64 0, .int .i64 0, .int .i64 0, .int .i64 0, .int .i64 0] 22)); have HN5 := Lib.hid (HNa.out.past (Obj.cells #[.int .i64 0, .int .i64 0, .int .i64 0, .int .i64 0, .int .i64 0, .int .i64 0, .int .i64 0, .int .i64 0] 22)); have HW5 := Lib.hid N5; have HB5 := Lib.hid (HB4.out.alloc HB4.out.size (Obj.cells #[.int .i64 0, .int .i64 0, .int .i64 0, .int .i64 0, .int .i64 0, .int .i64 0, .int .i64 0, .int .i64 0] 22))
  have ne1 : w.heap.size ≠ w3.heap.size := by have := HR4.out.lt; omega
  have ne3 : g3 ≠ w3.heap.size := by have := HNa.out.lt; omega
  have l5 : w.heap.size ≤ w3.heap.size := HB4.out.size
  generalize w3.alloc (Obj.cells #[.int .i64 0, .int .i64 0, .int .i64 0, .int .i64 0, .int .i64 0, .int .i64 0, .int .i64 0, .int .i64 0] 22) = w5 at *
  generalize w3.heap.size = g5 at *
  clear N5 HR4 HNa HB4 tha hma onea
  go_loopw [4, 6] (fun v4 v6 wr => BackE w w.heap.size g3 g5 ls P1 s t v4 v6 wr) (fun _ v6 _ => 4 - (intOf v6).toNat)
  case atStart => exact ⟨0, _, by omega, by rw [divTo_zero], rfl, HL.out ▸ HR5.out, HN5.out, HW5.out, by simp [intCells], HB5.out⟩
  case round =>
    clear HN5 HB5 HR5 HW5
    obtain ⟨k, Ws, hk, rfl, rfl, R1, R3, R5, hwl, B⟩ := hrel
    have HR3 := Lib.hid R3; have HR5 := Lib.hid R5; have HB := Lib.hid B
    by_cases hgo : k < 4 ∧ divTo s t k = true
    · obtain ⟨h4, hdt⟩ := hgo
      rw [hdt]
      have d1 : decide ((k : Int) < 4) = true := by simp; omega
      have hg := HG.out k
      have HDN := Lib.hid (divTo_next s t k)
      have hlen := Lib.hid hwl
      clear hwl
      by_cases c1 : s k % 4 = 0
      · have m1 : (s k).tmod 4 = 0 := (tmod4 _).2 c1
        by_cases c2 : t k % 4 = 0
        · have m2 : (t k).tmod 4 = 0 := (tmod4 _).2 c2
          have HE : Hid (divTo s t (k + 1) = true) := show _ = _ by rw [HDN.out, hdt, decide_eq_true c1, decide_eq_true c2]; rfl
          obtain ⟨q1v, q1⟩ : ∃ a, (s k).tdiv 4 = a := ⟨_, rfl⟩
          obtain ⟨q2v, q2⟩ : ∃ a, (t k).tdiv 4 = a := ⟨_, rfl⟩
          clear c1 c2 hdt HDN
          have cS := Lib.hid (CS.out k h4)
          have H4 := Lib.hid h4
          have H2 : Hid (wr.rangeAt w.heap.size 0 L) := show World.rangeAt _ _ _ _ by rw [HL.out]; exact R1.all
          have HR1 := Lib.hid R1
          have qb1 : wrap64 q1v = q1v := by have := hg.1.1; have := hg.1.2; have := tdiv_bound (s k); unfold wrap64; omega
          have qb2 : wrap64 q2v = q2v := by have := hg.2.1; have := hg.2.2; have := tdiv_bound (t k); unfold wrap64; omega
          clear R1 R3 R5 B hg hk
          generalize q1v = a at *
          generalize q2v = b at *
          generalize s k = x at *
          generalize t k = y at *
          go_wp2_with (first | (refine wpList_load_mid rfl 22 (.tmp 1) rfl w.heap.size 0 rfl L _ H2.out Try.underlying22 rfl hs8.out ?_))
          refine (cS.out _).mono ?_
          rintro e w6 ⟨rfl, B7⟩
          have R1 := HR1.out.keep B7; have R3 := HR3.out.keep B7; have R5 := HR5.out.keep B7; have B := HB.out.trans (B7.mono HB.out.size)
          have R6 := (R5.set (2 * k) (.int .i64 a)).set (2 * k + 1) (.int .i64 b)
          have S1 := (R1.other (a := ⟨g5, 2 * k, none⟩) ne1 (.int .i64 a)).other (a := ⟨g5, 2 * k + 1, none⟩) ne1 (.int .i64 b)
          have S3 := (R3.other (a := ⟨g5, 2 * k, none⟩) ne3 (.int .i64 a)).other (a := ⟨g5, 2 * k + 1, none⟩) ne3 (.int .i64 b)
          have BB := (B.setCell (p := ⟨g5, 2 * k, none⟩) l5 (.int .i64 a)).setCell (p := ⟨g5, 2 * k + 1, none⟩) l5 (.int .i64 b)
          obtain ⟨o1, p1⟩ : ∃ o1, w6.cell? ⟨g5, 2 * k, none⟩ = some o1 := ⟨_, (R5.cell (2 * k)).trans (List.getElem?_eq_getElem (by rw [hlen.out]; have := H4.out; omega))⟩
          obtain ⟨o2, p2⟩ : ∃ o2, (w6.setCell ⟨g5, 2 * k, none⟩ (.int .i64 a)).cell? ⟨g5, 2 * k + 1, none⟩ = some o2 := ⟨_, ((R5.set (2 * k) (.int .i64 a)).cell (2 * k + 1)).trans (List.getElem?_eq_getElem (by rw [List.length_set, hlen.out]; have := H4.out; omega))⟩
          have f1 := R5.frozen (2 * k)
          have f2 := (R5.set (2 * k) (.int .i64 a)).frozen (2 * k + 1)
          have p3 : w6.cell? ⟨g5, 2 * k + 1, none⟩ = some o2 := by rw [← p2]; exact (World.cell?_setCell_other _ _ _ _ (by simp)).symm
          have f3 := R5.frozen (2 * k + 1)
          have HR6 := Lib.hid R6; have HS1 := Lib.hid S1; have HS3 := Lib.hid S3; have HBB := Lib.hid BB
          have hlen6 : Hid (((Ws.set (2 * k) (.int .i64 a)).set (2 * k + 1) (.int .i64 b)).length = 8) := show _ = _ by rw [List.length_set, List.length_set, hlen.out]
          have i5 : (2 : Int) * (k : Int) = ((2 * k : Nat) : Int) := by omega
          have i6 : ((2 * k : Nat) : Int) + 1 = ((2 * k + 1 : Nat) : Int) := by omega
          have i7 : ((2 * k : Nat) : Int) < 8 := by have := H4.out; omega
          have i8 : ((2 * k + 1 : Nat) : Int) < 8 := by have := H4.out; omega
          have ni : (2 * k) ≠ (2 * k + 1) := by omega
          have k4 : (k : Int) < 4 := by have := H4.out; omega
          clear R1 R3 R5 B R6 S1 S3 BB B7 HR1 HR3 HR5 HB cS H2 h4 d1
          generalize 2 * k + 1 = I3 at *
          generalize 2 * k = I2 at *
          have i9 : (0 : Int) ≤ (I2 : Int) := by omega
          have i10 : (0 : Int) ≤ (I3 : Int) := by omega
          go_wp2_with fail
          go_roundw
          case rel => exact ⟨k + 1, _, H4.out, by rw [HE.out], ret_val (by have := H4.out; omega), HS1.out, HS3.out, HR6.out, hlen6.out, HBB.out⟩
          case measure => simp [intOf]; have := H4.out; omega
        · obtain ⟨r2, m2⟩ : ∃ r, (t k).tmod 4 = r := ⟨_, rfl⟩
          have z2 : (r2 == 0) = false := beq_eq_false_iff_ne.2 (fun h => c2 ((tmod4 _).1 (m2.trans h)))
          have HE : Hid (divTo s t (k + 1) = false) := show _ = _ by rw [HDN.out, decide_eq_false c2, Bool.and_false, Bool.and_false]
          obtain ⟨q1v, q1⟩ : ∃ a, (s k).tdiv 4 = a := ⟨_, rfl⟩
          obtain ⟨q2v, q2⟩ : ∃ a, (t k).tdiv 4 = a := ⟨_, rfl⟩
          clear c1 c2 hdt HDN
          have cS := Lib.hid (CS.out k h4)
          have H4 := Lib.hid h4
          have H2 : Hid (wr.rangeAt w.heap.size 0 L) := show World.rangeAt _ _ _ _ by rw [HL.out]; exact R1.all
          have HR1 := Lib.hid R1
          have qb1 : wrap64 q1v = q1v := by have := hg.1.1; have := hg.1.2; have := tdiv_bound (s k); unfold wrap64; omega
          have qb2 : wrap64 q2v = q2v := by have := hg.2.1; have := hg.2.2; have := tdiv_bound (t k); unfold wrap64; omega
          clear R1 R3 R5 B hg hk
          generalize q1v = a at *
          generalize q2v = b at *
          generalize s k = x at *
          generalize t k = y at *
          go_wp2_with (first | (refine wpList_load_mid rfl 22 (.tmp 1) rfl w.heap.size 0 rfl L _ H2.out Try.underlying22 rfl hs8.out ?_))
          refine (cS.out _).mono ?_
          rintro e w6 ⟨rfl, B7⟩
          have R1 := HR1.out.keep B7; have R3 := HR3.out.keep B7; have R5 := HR5.out.keep B7; have B := HB.out.trans (B7.mono HB.out.size)
          have R6 := (R5.set (2 * k) (.int .i64 a)).set (2 * k + 1) (.int .i64 b)
          have S1 := (R1.other (a := ⟨g5, 2 * k, none⟩) ne1 (.int .i64 a)).other (a := ⟨g5, 2 * k + 1, none⟩) ne1 (.int .i64 b)
          have S3 := (R3.other (a := ⟨g5, 2 * k, none⟩) ne3 (.int .i64 a)).other (a := ⟨g5, 2 * k + 1, none⟩) ne3 (.int .i64 b)
          have BB := (B.setCell (p := ⟨g5, 2 * k, none⟩) l5 (.int .i64 a)).setCell (p := ⟨g5, 2 * k + 1, none⟩) l5 (.int .i64 b)
          obtain ⟨o1, p1⟩ : ∃ o1, w6.cell? ⟨g5, 2 * k, none⟩ = some o1 := ⟨_, (R5.cell (2 * k)).trans (List.getElem?_eq_getElem (by rw [hlen.out]; have := H4.out; omega))⟩
          obtain ⟨o2, p2⟩ : ∃ o2, (w6.setCell ⟨g5, 2 * k, none⟩ (.int .i64 a)).cell? ⟨g5, 2 * k + 1, none⟩ = some o2 := ⟨_, ((R5.set (2 * k) (.int .i64 a)).cell (2 * k + 1)).trans (List.getElem?_eq_getElem (by rw [List.length_set, hlen.out]; have := H4.out; omega))⟩
          have f1 := R5.frozen (2 * k)
          have f2 := (R5.set (2 * k) (.int .i64 a)).frozen (2 * k + 1)
          have p3 : w6.cell? ⟨g5, 2 * k + 1, none⟩ = some o2 := by rw [← p2]; exact (World.cell?_setCell_other _ _ _ _ (by simp)).symm
          have f3 := R5.frozen (2 * k + 1)
          have HR6 := Lib.hid R6; have HS1 := Lib.hid S1; have HS3 := Lib.hid S3; have HBB := Lib.hid BB
          have hlen6 : Hid (((Ws.set (2 * k) (.int .i64 a)).set (2 * k + 1) (.int .i64 b)).length = 8) := show _ = _ by rw [List.length_set, List.length_set, hlen.out]
          have i5 : (2 : Int) * (k : Int) = ((2 * k : Nat) : Int) := by omega
          have i6 : ((2 * k : Nat) : Int) + 1 = ((2 * k + 1 : Nat) : Int) := by omega
          have i7 : ((2 * k : Nat) : Int) < 8 := by have := H4.out; omega
          have i8 : ((2 * k + 1 : Nat) : Int) < 8 := by have := H4.out; omega
          have ni : (2 * k) ≠ (2 * k + 1) := by omega
          have k4 : (k : Int) < 4 := by have := H4.out; omega
          clear R1 R3 R5 B R6 S1 S3 BB B7 HR1 HR3 HR5 HB cS H2 h4 d1
          generalize 2 * k + 1 = I3 at *
          generalize 2 * k = I2 at *
          have i9 : (0 : Int) ≤ (I2 : Int) := by omega
          have i10 : (0 : Int) ≤ (I3 : Int) := by omega
          go_wp2_with fail
          go_roundw
          case rel => exact ⟨k + 1, _, H4.out, by rw [HE.out], ret_val (by have := H4.out; omega), HS1.out, HS3.out, HR6.out, hlen6.out, HBB.out⟩
          case measure => simp [intOf]; have := H4.out; omega
      · obtain ⟨r1, m1⟩ : ∃ r, (s k).tmod 4 = r := ⟨_, rfl⟩
        have z1 : (r1 == 0) = false := beq_eq_false_iff_ne.2 (fun h => c1 ((tmod4 _).1 (m1.trans h)))
        have HE : Hid (divTo s t (k + 1) = false) := show _ = _ by rw [HDN.out, decide_eq_false c1, Bool.false_and, Bool.and_false]
        obtain ⟨q1v, q1⟩ : ∃ a, (s k).tdiv 4 = a := ⟨_, rfl⟩
        obtain ⟨q2v, q2⟩ : ∃ a, (t k).tdiv 4 = a := ⟨_, rfl⟩
        clear c1 hdt HDN
        have cS := Lib.hid (CS.out k h4)
        have H4 := Lib.hid h4
        have H2 : Hid (wr.rangeAt w.heap.size 0 L) := show World.rangeAt _ _ _ _ by rw [HL.out]; exact R1.all
        have HR1 := Lib.hid R1
        have qb1 : wrap64 q1v = q1v := by have := hg.1.1; have := hg.1.2; have := tdiv_bound (s k); unfold wrap64; omega
        have qb2 : wrap64 q2v = q2v := by have := hg.2.1; have := hg.2.2; have := tdiv_bound (t k); unfold wrap64; omega
        clear R1 R3 R5 B hg hk
        generalize q1v = a at *
        generalize q2v = b at *
        generalize s k = x at *
        generalize t k = y at *
        go_wp2_with (first | (refine wpList_load_mid rfl 22 (.tmp 1) rfl w.heap.size 0 rfl L _ H2.out Try.underlying22 rfl hs8.out ?_))
        refine (cS.out _).mono ?_
        rintro e w6 ⟨rfl, B7⟩
        have R1 := HR1.out.keep B7; have R3 := HR3.out.keep B7; have R5 := HR5.out.keep B7; have B := HB.out.trans (B7.mono HB.out.size)
        have R6 := (R5.set (2 * k) (.int .i64 a)).set (2 * k + 1) (.int .i64 b)
        have S1 := (R1.other (a := ⟨g5, 2 * k, none⟩) ne1 (.int .i64 a)).other (a := ⟨g5, 2 * k + 1, none⟩) ne1 (.int .i64 b)
        have S3 := (R3.other (a := ⟨g5, 2 * k, none⟩) ne3 (.int .i64 a)).other (a := ⟨g5, 2 * k + 1, none⟩) ne3 (.int .i64 b)
        have BB := (B.setCell (p := ⟨g5, 2 * k, none⟩) l5 (.int .i64 a)).setCell (p := ⟨g5, 2 * k + 1, none⟩) l5 (.int .i64 b)
        obtain ⟨o1, p1⟩ : ∃ o1, w6.cell? ⟨g5, 2 * k, none⟩ = some o1 := ⟨_, (R5.cell (2 * k)).trans (List.getElem?_eq_getElem (by rw [hlen.out]; have := H4.out; omega))⟩
        obtain ⟨o2, p2⟩ : ∃ o2, (w6.setCell ⟨g5, 2 * k, none⟩ (.int .i64 a)).cell? ⟨g5, 2 * k + 1, none⟩ = some o2 := ⟨_, ((R5.set (2 * k) (.int .i64 a)).cell (2 * k + 1)).trans (List.getElem?_eq_getElem (by rw [List.length_set, hlen.out]; have := H4.out; omega))⟩
        have f1 := R5.frozen (2 * k)
        have f2 := (R5.set (2 * k) (.int .i64 a)).frozen (2 * k + 1)
        have p3 : w6.cell? ⟨g5, 2 * k + 1, none⟩ = some o2 := by rw [← p2]; exact (World.cell?_setCell_other _ _ _ _ (by simp)).symm
        have f3 := R5.frozen (2 * k + 1)
        have HR6 := Lib.hid R6; have HS1 := Lib.hid S1; have HS3 := Lib.hid S3; have HBB := Lib.hid BB
        have hlen6 : Hid (((Ws.set (2 * k) (.int .i64 a)).set (2 * k + 1) (.int .i64 b)).length = 8) := show _ = _ by rw [List.length_set, List.length_set, hlen.out]
        have i5 : (2 : Int) * (k : Int) = ((2 * k : Nat) : Int) := by omega
        have i6 : ((2 * k : Nat) : Int) + 1 = ((2 * k + 1 : Nat) : Int) := by omega
        have i7 : ((2 * k : Nat) : Int) < 8 := by have := H4.out; omega
        have i8 : ((2 * k + 1 : Nat) : Int) < 8 := by have := H4.out; omega
        have ni : (2 * k) ≠ (2 * k + 1) := by omega
        have k4 : (k : Int) < 4 := by have := H4.out; omega
        clear R1 R3 R5 B R6 S1 S3 BB B7 HR1 HR3 HR5 HB cS H2 h4 d1
        generalize 2 * k + 1 = I3 at *
        generalize 2 * k = I2 at *
        have i9 : (0 : Int) ≤ (I2 : Int) := by omega
        have i10 : (0 : Int) ≤ (I3 : Int) := by omega
        go_wp2_with fail
        go_roundw
        case rel => exact ⟨k + 1, _, H4.out, by rw [HE.out], ret_val (by have := H4.out; omega), HS1.out, HS3.out, HR6.out, hlen6.out, HBB.out⟩
        case measure => simp [intOf]; have := H4.out; omega
    · have hdf : divTo s t k = false := by
        cases h : divTo s t k with
        | false => rfl
        | true =>
          have : k = 4 := by
            by_cases h4 : k < 4
            · exact absurd ⟨h4, h⟩ hgo
            · omega
          subst this
          rw [HD.out] at h
          cases h
      rw [hdf]
      clear R1 R3 R5 B hgo hwl
      by_cases h4 : k < 4
      · have d1 : decide ((k : Int) < 4) = true := by simp; omega
        have H3 := Lib.hid HR3.out.all
        go_wp2_with (first | (refine wpList_load_mid rfl 25 (.tmp 3) rfl g3 0 rfl P1 _ H3.out Try.underlying25 rfl hsa.out ?_))
        refine (CB.out _).mono ?_
        rintro e w6 ⟨rfl, B7⟩
        have HB7 := Lib.hid (HB.out.trans (B7.mono HB.out.size))
        clear B7 HB H3
        have hlb : Hid ((cx V).length = 4) := show _ = _ by rw [cx_length, HV.out.1]
        have hsb := Lib.hid (size_four _ hlb.out)
        have hmb : Hid ((Try.prog.info? 25).map (·.size) = some (cx V).toArray.size) := by show _ = _; rw [List.size_toArray]; exact hsb.out
        have oneb := Lib.hid (all_oneCell_toArray (cx_one V))
        have N1 : Row (w6.alloc (Obj.cells #[.complex .f64 0 0, .complex .f64 0 0, .complex .f64 0 0, .complex .f64 0 0] 25)) w6.heap.size 25 (cx noughts) := Row.new w6 _ (cx noughts)
        have thb : Hid ((w6.alloc (Obj.cells #[.complex .f64 0 0, .complex .f64 0 0, .complex .f64 0 0, .complex .f64 0 0] 25)).there w6.heap.size 0 (cx V).toArray.size) := N1.there 0 _ (by rw [List.size_toArray, hlb.out]; decide)
        have Nb : Row ((w6.alloc (Obj.cells #[.complex .f64 0 0, .complex .f64 0 0, .complex .f64 0 0, .complex .f64 0 0] 25)).setCells w6.heap.size 0 (cx V).toArray.toList) w6.heap.size 25 (cx V) := put_all hlb.out N1
        have Bb := below_puts (b := w6.heap.size) ((Below.refl w6.heap.size w6).alloc (Nat.le_refl _) (Obj.cells #[.complex .f64 0 0, .complex .f64 0 0, .complex .f64 0 0, .complex .f64 0 0] 25)) (Nat.le_refl _) 0 (cx V).toArray.toList
        clear N1
        have HB8 := Lib.hid (HB7.out.trans (Bb.mono HB7.out.size)); have HNb := Lib.hid Nb
        clear HB7 Bb Nb
        obtain ⟨P2, hP2⟩ : ∃ P2, P2 = cx V := ⟨_, rfl⟩
        rw [← hP2] at hlb hsb hmb oneb thb HB8 HNb ⊢
        have HP2 := Lib.hid hP2
        clear hP2
        go_wp2_with (first | (refine wpList_store_mid rfl 25 (.tmp 9) (.tmp 57) rfl w6.heap.size 0 P2.toArray rfl rfl thb.out hmb.out oneb.out ?_))
        generalize (w6.alloc (Obj.cells #[.complex .f64 0 0, .complex .f64 0 0, .complex .f64 0 0, .complex .f64 0 0] 25)).setCells w6.heap.size 0 P2 = w7 at *
        generalize w6.heap.size = g at *
        clear thb hmb hlb hsb oneb
        go_loopw [11] (fun v wr => BackK w g V v wr) (fun v _ => 4 - (intOf v).toNat)
        case atStart => exact ⟨0, by omega, rfl, HP2.out ▸ HNb.out, HB8.out⟩
        case round =>
          clear HNb HB8
          obtain ⟨j, hj, rfl, R2, B⟩ := hrel
          by_cases hj4 : j < 4
          · have d2 : decide ((j : Int) < 4) = true := by simp; omega
            have k0 : (0 : Int) ≤ (j : Int) := by omega
            have k4 : (j : Int) < 4 := by omega
            have hwu : Whole (V.getD j (0, 0)).1 0 ∧ Whole (V.getD j (0, 0)).2 0 := HV.out.2 j hj4
            have H4 := Lib.hid hj4
            have cP := Lib.hid (parts_yes hwu.1 hwu.2 ⟨by decide, by decide⟩ ⟨by decide, by decide⟩)
            have c1 := (R2.cell j).trans (cx_get V j (by rw [HV.out.1]; exact hj4))
            have HR2 := Lib.hid R2; have HB := Lib.hid B
            clear R2 B hwu hj4 hj
            generalize V.getD j (0, 0) = z at *
            go_wp2_with fail
            refine (cP.out _).mono ?_
            rintro e v1 ⟨rfl, hw⟩; subst v1
            go_wp2_with fail
            go_roundw
            case rel => exact ⟨j + 1, H4.out, ret_val (by have := H4.out; omega), HR2.out, HB.out⟩
            case measure => simp [intOf]; have := H4.out; omega
          · obtain rfl : j = 4 := by omega
            have HB := Lib.hid B
            clear R2 B hj hj4
            go_wp2_with fail
            go_ret
            exact ⟨rfl, HB.out⟩
      · have d1 : decide ((k : Int) < 4) = false := by simp; omega
        have H3 := Lib.hid HR3.out.all
        go_wp2_with (first | (refine wpList_load_mid rfl 25 (.tmp 3) rfl g3 0 rfl P1 _ H3.out Try.underlying25 rfl hsa.out ?_))
        refine (CB.out _).mono ?_
        rintro e w6 ⟨rfl, B7⟩
        have HB7 := Lib.hid (HB.out.trans (B7.mono HB.out.size))
        clear B7 HB H3
        have hlb : Hid ((cx V).length = 4) := show _ = _ by rw [cx_length, HV.out.1]
        have hsb := Lib.hid (size_four _ hlb.out)
        have hmb : Hid ((Try.prog.info? 25).map (·.size) = some (cx V).toArray.size) := by show _ = _; rw [List.size_toArray]; exact hsb.out
        have oneb := Lib.hid (all_oneCell_toArray (cx_one V))
        have N1 : Row (w6.alloc (Obj.cells #[.complex .f64 0 0, .complex .f64 0 0, .complex .f64 0 0, .complex .f64 0 0] 25)) w6.heap.size 25 (cx noughts) := Row.new w6 _ (cx noughts)
        have thb : Hid ((w6.alloc (Obj.cells #[.complex .f64 0 0, .complex .f64 0 0, .complex .f64 0 0, .complex .f64 0 0] 25)).there w6.heap.size 0 (cx V).toArray.size) := N1.there 0 _ (by rw [List.size_toArray, hlb.out]; decide)
        have Nb : Row ((w6.alloc (Obj.cells #[.complex .f64 0 0, .complex .f64 0 0, .complex .f64 0 0, .complex .f64 0 0] 25)).setCells w6.heap.size 0 (cx V).toArray.toList) w6.heap.size 25 (cx V) := put_all hlb.out N1
        have Bb := below_puts (b := w6.heap.size) ((Below.refl w6.heap.size w6).alloc (Nat.le_refl _) (Obj.cells #[.complex .f64 0 0, .complex .f64 0 0, .complex .f64 0 0, .complex .f64 0 0] 25)) (Nat.le_refl _) 0 (cx V).toArray.toList
        clear N1
        have HB8 := Lib.hid (HB7.out.trans (Bb.mono HB7.out.size)); have HNb := Lib.hid Nb
        clear HB7 Bb Nb
        obtain ⟨P2, hP2⟩ : ∃ P2, P2 = cx V := ⟨_, rfl⟩
        rw [← hP2] at hlb hsb hmb oneb thb HB8 HNb ⊢
        have HP2 := Lib.hid hP2
        clear hP2
        go_wp2_with (first | (refine wpList_store_mid rfl 25 (.tmp 9) (.tmp 57) rfl w6.heap.size 0 P2.toArray rfl rfl thb.out hmb.out oneb.out ?_))
        generalize (w6.alloc (Obj.cells #[.complex .f64 0 0, .complex .f64 0 0, .complex .f64 0 0, .complex .f64 0 0] 25)).setCells w6.heap.size 0 P2 = w7 at *
        generalize w6.heap.size = g at *
        clear thb hmb hlb hsb oneb
        go_loopw [11] (fun v wr => BackK w g V v wr) (fun v _ => 4 - (intOf v).toNat)
        case atStart => exact ⟨0, by omega, rfl, HP2.out ▸ HNb.out, HB8.out⟩
        case round =>
          clear HNb HB8
          obtain ⟨j, hj, rfl, R2, B⟩ := hrel
          by_cases hj4 : j < 4
          · have d2 : decide ((j : Int) < 4) = true := by simp; omega
            have k0 : (0 : Int) ≤ (j : Int) := by omega
            have k4 : (j : Int) < 4 := by omega
            have hwu : Whole (V.getD j (0, 0)).1 0 ∧ Whole (V.getD j (0, 0)).2 0 := HV.out.2 j hj4
            have H4 := Lib.hid hj4
            have cP := Lib.hid (parts_yes hwu.1 hwu.2 ⟨by decide, by decide⟩ ⟨by decide, by decide⟩)
            have c1 := (R2.cell j).trans (cx_get V j (by rw [HV.out.1]; exact hj4))
            have HR2 := Lib.hid R2; have HB := Lib.hid B
            clear R2 B hwu hj4 hj
            generalize V.getD j (0, 0) = z at *
            go_wp2_with fail
            refine (cP.out _).mono ?_
            rintro e v1 ⟨rfl, hw⟩; subst v1
            go_wp2_with fail
            go_roundw
            case rel => exact ⟨j + 1, H4.out, ret_val (by have := H4.out; omega), HR2.out, HB.out⟩
            case measure => simp [intOf]; have := H4.out; omega
          · obtain rfl : j = 4 := by omega
            have HB := Lib.hid B
            clear R2 B hj hj4
            go_wp2_with fail
            go_ret
            exact ⟨rfl, HB.out⟩

theorem waveBack_any (ls : List Int) (hl : ls.length = 8) (w : World) :
    Calls Try.prog 4 #[.agg (intCells ls).toArray] w fun e w' => e = .returned (.bool true) ∧ Below w.heap.size w w' := by
  cases h : fitTo ls 4 with
  | false => exact waveBack_N ls hl h w
  | true =>
    cases h2 : divTo (tr (-1) (pR ls) (pI ls)) (ti (-1) (pR ls) (pI ls)) 4 with
    | true => exact waveBack_Y ls hl h h2 w
    | false => exact waveBack_E ls hl h h2 w

end Go.Proofs.Ytdclgdpifamomaa
