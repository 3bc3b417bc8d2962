/-
  wave's joined: numbers told from values, laid over one another. No condition beyond what each contract says.
-/
import Derived.Test.YtcejbkmmiklhbaaWaveG
namespace Go.Proofs.Ytcejbkmmiklhbaa
open Go.RowKit

/-- The list behind i rounds and j steps. -/
def lay (n : Nat) (c : Nat → Nat → Int) (i j : Nat) : List Int := (List.range n).map (laid (fun s j => 2 * s + j) 4 i j c)
theorem lay_length (n : Nat) (c : Nat → Nat → Int) (i j : Nat) : (lay n c i j).length = n := by simp [lay]
theorem lay_get (n : Nat) (c : Nat → Nat → Int) (i j t : Nat) (h : t < n) : (lay n c i j).getD t 0 = laid (fun s j => 2 * s + j) 4 i j c t := by simp [lay, List.getD, h]
theorem lay_zero (n : Nat) (c : Nat → Nat → Int) : lay n c 0 0 = List.replicate n 0 := by
  apply List.ext_getElem
  · simp [lay]
  · intro t h1 h2
    simp [lay, laid_first]
theorem lay_round (n : Nat) (c : Nat → Nat → Int) (i : Nat) : lay n c i 4 = lay n c (i + 1) 0 := by
  unfold lay
  congr 1
  funext t
  rw [laid_round]
theorem lay_past (n : Nat) (c : Nat → Nat → Int) (i j : Nat) (h : n ≤ 2 * i + j) : lay n c i j = lay n c i (j + 1) := by
  apply List.ext_getElem
  · simp [lay]
  · intro t h1 h2
    simp only [lay, List.length_map, List.length_range] at h1
    simp only [lay, List.getElem_map, List.getElem_range]
    rw [laid_step, if_neg (by omega), Int.add_zero]
theorem lay_next (n : Nat) (c : Nat → Nat → Int) (i j : Nat) : (intCells (lay n c i j)).set (2 * i + j) (.int .i64 ((lay n c i j).getD (2 * i + j) 0 + c i j)) = intCells (lay n c i (j + 1)) := by
  apply List.ext_getElem
  · simp [lay, intCells]
  · intro t h1 h2
    simp only [lay, intCells, List.length_map, List.length_range] at h2
    rw [List.getElem_set]
    by_cases h : 2 * i + j = t
    · subst h
      rw [if_pos rfl]
      simp only [intCells, List.getElem_map]
      rw [lay_get _ _ _ _ _ h2]
      simp only [lay, List.getElem_map, List.getElem_range]
      rw [laid_step, if_pos rfl]
    · rw [if_neg h]
      simp only [intCells, lay, List.getElem_map, List.getElem_range]
      rw [laid_step, if_neg h, Int.add_zero]
theorem intCells_get (l : List Int) (t : Nat) (h : t < l.length) : (intCells l)[t]? = some (.int .i64 (l.getD t 0)) := by simp [intCells, List.getD, h]
theorem intCells_length (l : List Int) : (intCells l).length = l.length := by simp [intCells]

/-- A slice of so many numbers, all 0. -/
theorem make_ints (n : Nat) (hn : n ≤ 1000000) (L : List Value) (hL : L = intCells (List.replicate n 0)) (w : World) : (Instr.makeSlice 46 (.int .i64 (n : Int)) (.int .i64 (n : Int))).run Try.prog w = .ok (.slice (some ⟨w.heap.size, 0, none⟩) n n) (w.alloc (.cells L.toArray 3)) := by
  subst hL
  obtain ⟨i, hi, hz, hs, hb⟩ := info_parts (P := Try.prog) (e := 3) (z := .int .i64 0) (size := 1) (bytes := 8) (by kernel_rfl)
  have h := run_makeSlice (P := Try.prog) w 46 3 i _ Try.underlying46 hi hz .i64 .i64 (n : Int) (n : Int) (by omega) (by omega) (by rw [hs]; simp; omega) (by rw [hb]; omega) (by omega)
  rw [h, hs]
  congr 3
  rw [Int.toNat_natCast]
  apply Array.ext
  · simp [madeCells, intCells]
  · intro c c1 c2
    simp only [madeCells, Array.getElem_map, Array.getElem_range, Value.cells]
    rw [show (#[.int .i64 0] : Array Value).size = 1 from rfl, Nat.mod_one]
    simp [intCells]

/-- What Back tells of the values of c. -/
theorem back_are (c : Nat → Int) (h3 : c 3 = 0) (hb : ∀ r, 0 ≤ c r ∧ c r ≤ 141832671494400) : Are (quarters (tr (-1) (fun k => vr k c) (fun k => vi k c)) (ti (-1) (fun k => vr k c) (fun k => vi k c)) 4) c (fun _ => 0) := by
  refine ⟨quarters_length _ _ _, fun k hk => ?_⟩
  obtain ⟨e1, e2⟩ := value_back h3 hk
  rw [quarters_get _ _ _ _ hk, if_pos hk, e1, e2]
  have := hb k
  have e : 4 * c k / 4 = c k := by omega
  show Whole (floatOfInt .f64 (4 * c k / 4)) (c k) ∧ Whole (floatOfInt .f64 (0 / 4)) 0
  rw [e]
  exact ⟨whole_of_int _ (by omega), whole_of_int _ (by decide)⟩
theorem v_fit (c : Nat → Int) (hb : ∀ r, 0 ≤ c r ∧ c r ≤ 141832671494400) (k : Nat) : Fit (vr k c) ∧ Fit (vi k c) := by
  have h := v_bound (k := k) hb
  unfold Fit
  omega
theorem lay_bound {n : Nat} {c : Nat → Nat → Int} (hb : ∀ s r, 0 ≤ c s r ∧ c s r ≤ 141832671494400) {i j : Nat} (hi : i ≤ 255) (hj : j ≤ 4) (t : Nat) (ht : t < n) : 0 ≤ (lay n c i j).getD t 0 ∧ (lay n c i j).getD t 0 ≤ 145236655610265600 := by
  rw [lay_get _ _ _ _ _ ht]
  have h := laid_bound (s := fun s j => 2 * s + j) (M := 4) (I := i) (J := j) (t := t) (B := 141832671494400) (by decide) hb
  refine ⟨h.1, Int.le_trans h.2 ?_⟩
  have h3 : ((i * 4 + j : Nat) : Int) ≤ 1024 := by omega
  generalize ((i * 4 + j : Nat) : Int) = z at h3
  omega

/-- The two loops. -/
def JoinI (w : World) (gl n S : Nat) (c : Nat → Nat → Int) (v : Value) (wr : World) : Prop :=
  ∃ i : Nat, i ≤ S ∧ v = .int .i64 (i : Int) ∧ Row wr gl 3 (intCells (lay n c i 0)) ∧ Below w.heap.size w wr
def JoinJ (w : World) (gl n i : Nat) (c : Nat → Nat → Int) (v : Value) (wr : World) : Prop :=
  ∃ j : Nat, j ≤ 4 ∧ v = .int .i64 (j : Int) ∧ Row wr gl 3 (intCells (lay n c i j)) ∧ Below w.heap.size w wr

set_option maxHeartbeats 4000000 in
theorem joined_any (gs S n : Nat) (zs : List (Nat × Nat)) (c : Nat → Nat → Int) (w : World) (R : Row w gs 76 (cx zs)) (Q : Quads zs S (fun s k => vr k (c s)) (fun s k => vi k (c s)))
    (hb : ∀ s r, 0 ≤ c s r ∧ c s r ≤ 141832671494400) (h3 : ∀ s, c s 3 = 0) (hS : S ≤ 255) (hn : n ≤ 511) :
    Calls Try.prog 52 #[.slice (some ⟨gs, 0, none⟩) S S, .int .i64 (n : Int)] w fun e w' => ∃ gl, e = .returned (.slice (some ⟨gl, 0, none⟩) n n) ∧ w.heap.size ≤ gl ∧ Row w' gl 3 (intCells (lay n c S 0)) ∧ Below w.heap.size w w' := by
  obtain ⟨L, hL⟩ : ∃ L, L = intCells (lay n c 0 0) := ⟨_, rfl⟩
  have mk := make_ints n (by omega) L (by rw [hL, lay_zero]) w
  have HR := Lib.hid R; have HQ := Lib.hid Q; have HB := Lib.hid hb; have H3 := Lib.hid h3; have HL := Lib.hid hL
  clear R Q hb h3 hL
  go_enter Try.func52, Try.ntmps52
  go_wp2_with fail
  have R0 : Row (w.alloc (.cells L.toArray 3)) w.heap.size 3 L := Row.new w _ _
  have B0 : Below w.heap.size w (w.alloc (.cells L.toArray 3)) := (Below.refl _ _).alloc (Nat.le_refl _) _
  rw [HL.out] at R0 B0 ⊢
  generalize w.alloc (.cells (intCells (lay n c 0 0)).toArray 3) = W at *
  have ls : gs < w.heap.size := HR.out.lt
  obtain ⟨gl, hg⟩ : ∃ gl, gl = w.heap.size := ⟨_, rfl⟩
  have gle : w.heap.size ≤ gl := by omega
  rw [← hg] at R0 ⊢
  have HR0 := Lib.hid R0; have HB0 := Lib.hid B0; have HLS := Lib.hid ls; have HGL := Lib.hid gle
  clear mk hg R0 B0 HL ls gle
  go_loopw [20] (fun v wr => JoinI w gl n S c v wr) (fun v _ => S - (intOf v).toNat)
  case atStart => exact ⟨0, by omega, rfl, HR0.out, HB0.out⟩
  case round =>
    clear HR0 HB0
    obtain ⟨i, hi, rfl, R1, B1⟩ := hrel
    by_cases hlt : i < S
    · have d1 : decide ((i : Int) < (S : Int)) = true := by simp; omega
      have d1n : decide (i < S) = true := by simp; omega
      have i0 : (0 : Int) ≤ (i : Int) := by omega
      have iS : (i : Int) < (S : Int) := by omega
      obtain ⟨Z, hZ⟩ : ∃ Z, Z = (zs.drop (i * 4)).take 4 := ⟨_, rfl⟩
      have hzl := HQ.out.1
      have hZl : Z.length = 4 := by rw [hZ]; simp [hzl]; omega
      have hZc : cx Z = ((cx zs).drop (i * 4)).take 4 := by rw [hZ]; simp [cx, List.map_take, List.map_drop]
      have hA : Are Z (fun k => vr k (c i)) (fun k => vi k (c i)) := by
        refine ⟨hZl, fun k hk => ?_⟩
        have e : Z.getD k (0, 0) = zs.getD (i * 4 + k) (0, 0) := by
          rw [hZ]
          simp [List.getD, hk, List.getElem?_drop]
        rw [e]
        exact HQ.out.2 i k hlt hk
      have cB := back_any hA (fun k _ => v_fit (c i) (HB.out i) k) true ⟨fun _ k hk => by
        obtain ⟨e1, e2⟩ := value_back (H3.out i) hk
        rw [e1, e2]; omega, fun _ => rfl⟩
      have hV := back_are (c i) (H3.out i) (HB.out i)
      simp only [if_true] at cB
      generalize quarters (tr (-1) (fun k => vr k (c i)) (fun k => vi k (c i))) (ti (-1) (fun k => vr k (c i)) (fun k => vi k (c i))) 4 = V at cB hV
      have RS := HR.out.keep_at B1 HLS.out
      have H1 : Hid (wr.rangeAt gs (i * 4) (cx Z)) := by rw [hZc]; exact RS.range (i * 4) 4
      have hsz := Lib.hid (size_four (cx Z) (by rw [cx_length, hZl]))
      have hsm : Hid ((Try.prog.info? 76).map (·.size) = some (cx Z).toArray.size) := by show _ = _; rw [List.size_toArray]; exact hsz.out
      have one := Lib.hid (all_oneCell_toArray (cx_one Z))
      have N1 : Row (wr.alloc (Obj.cells #[.complex .f64 0 0, .complex .f64 0 0, .complex .f64 0 0, .complex .f64 0 0] 76)) wr.heap.size 76 (cx noughts) := Row.new wr _ (cx noughts)
      have th : Hid ((wr.alloc (Obj.cells #[.complex .f64 0 0, .complex .f64 0 0, .complex .f64 0 0, .complex .f64 0 0] 76)).there wr.heap.size 0 (cx Z).toArray.size) := N1.there 0 _ (by rw [List.size_toArray, cx_length, hZl]; decide)
      have N2 : Row ((wr.alloc (Obj.cells #[.complex .f64 0 0, .complex .f64 0 0, .complex .f64 0 0, .complex .f64 0 0] 76)).setCells wr.heap.size 0 (cx Z).toArray.toList) wr.heap.size 76 (cx Z) := put_all (by rw [cx_length, hZl]) N1
      have ne : gl ≠ wr.heap.size := by have := R1.lt; omega
      have R2 : Row ((wr.alloc (Obj.cells #[.complex .f64 0 0, .complex .f64 0 0, .complex .f64 0 0, .complex .f64 0 0] 76)).setCells wr.heap.size 0 (cx Z).toArray.toList) gl 3 (intCells (lay n c i 0)) := (R1.past _).puts_other ne 0 _
      have B2 := below_puts (b := wr.heap.size) (B1.alloc B1.size (Obj.cells #[.complex .f64 0 0, .complex .f64 0 0, .complex .f64 0 0, .complex .f64 0 0] 76)) B1.size 0 (cx Z).toArray.toList
      have H2 := Lib.hid N2.all
      have HR2 := Lib.hid R2
      have HB2 := Lib.hid B2
      have CB := Lib.hid cB
      have HV := Lib.hid hV
      have HI := Lib.hid hlt
      clear cB hV N1 N2 R2 B2 R1 B1 RS hZ hZc ne hZl hA hzl hlt hi
      generalize cx Z = P at *
      go_wp2_with (first | (refine wpList_load_mid rfl 76 (.tmp 23) rfl gs (i * 4) rfl P _ H1.out Try.underlying76 rfl hsz.out ?_) | (refine wpList_store_mid rfl 76 (.tmp 7) (.tmp 24) rfl wr.heap.size 0 P.toArray rfl rfl th.out hsm.out one.out ?_) | (refine wpList_load_mid rfl 76 (.tmp 7) rfl wr.heap.size 0 rfl P _ H2.out Try.underlying76 rfl hsz.out ?_))
      refine (CB.out _).mono ?_
      rintro e w3 ⟨rfl, B3⟩
      have R3 := HR2.out.keep B3
      have B4 := HB2.out.trans (B3.mono HB2.out.size)
      have hvl := HV.out.1
      have hc : Hid (∀ k, k < 4 → (cx V)[k]? = some (.complex .f64 (V.getD k (0, 0)).1 (V.getD k (0, 0)).2)) := fun k hk => cx_get V k (by rw [hvl]; exact hk)
      have hs3 := Lib.hid (size_four (cx V) (by rw [cx_length, hvl]))
      have hm3 : Hid ((Try.prog.info? 76).map (·.size) = some (cx V).toArray.size) := by show _ = _; rw [List.size_toArray]; exact hs3.out
      have one3 := Lib.hid (all_oneCell_toArray (cx_one V))
      have N1 : Row (w3.alloc (Obj.cells #[.complex .f64 0 0, .complex .f64 0 0, .complex .f64 0 0, .complex .f64 0 0] 76)) w3.heap.size 76 (cx noughts) := Row.new w3 _ (cx noughts)
      have th3 : Hid ((w3.alloc (Obj.cells #[.complex .f64 0 0, .complex .f64 0 0, .complex .f64 0 0, .complex .f64 0 0] 76)).there w3.heap.size 0 (cx V).toArray.size) := N1.there 0 _ (by rw [List.size_toArray, cx_length, hvl]; decide)
      have N2 : Row ((w3.alloc (Obj.cells #[.complex .f64 0 0, .complex .f64 0 0, .complex .f64 0 0, .complex .f64 0 0] 76)).setCells w3.heap.size 0 (cx V).toArray.toList) w3.heap.size 76 (cx V) := put_all (by rw [cx_length, hvl]) N1
      have ne : gl ≠ w3.heap.size := by have := R3.lt; omega
      have R5 : Row ((w3.alloc (Obj.cells #[.complex .f64 0 0, .complex .f64 0 0, .complex .f64 0 0, .complex .f64 0 0] 76)).setCells w3.heap.size 0 (cx V).toArray.toList) gl 3 (intCells (lay n c i 0)) := (R3.past _).puts_other ne 0 _
      have B5 := below_puts (b := w3.heap.size) (B4.alloc B4.size (Obj.cells #[.complex .f64 0 0, .complex .f64 0 0, .complex .f64 0 0, .complex .f64 0 0] 76)) B4.size 0 (cx V).toArray.toList
      have H5 := Lib.hid N2.all
      have HR5 := Lib.hid R5
      have HB5 := Lib.hid B5
      clear N1 N2 R5 B5 R3 B4 B3 ne HR2 HB2 H2 H1 th hsz hsm one CB hvl
      generalize cx V = P2 at *
      go_wp2_with (first | (refine wpList_store_mid rfl 76 (.tmp 8) (.tmp 28) rfl w3.heap.size 0 P2.toArray rfl rfl th3.out hm3.out one3.out ?_) | (refine wpList_load_mid rfl 76 (.tmp 8) rfl w3.heap.size 0 rfl P2 _ H5.out Try.underlying76 rfl hs3.out ?_))
      generalize (w3.alloc (Obj.cells #[.complex .f64 0 0, .complex .f64 0 0, .complex .f64 0 0, .complex .f64 0 0] 76)).setCells w3.heap.size 0 P2 = w5 at *
      clear H5 th3 hs3 hm3 one3
      go_loopw [31] (fun v wr => JoinJ w gl n i c v wr) (fun v _ => 4 - (intOf v).toNat)
      case atStart => exact ⟨0, by omega, rfl, HR5.out, HB5.out⟩
      case round =>
        clear HR5 HB5
        obtain ⟨j, hj, rfl, R6, B6⟩ := hrel
        by_cases hj4 : j < 4
        · have d2 : decide ((j : Int) < 4) = true := by simp; omega
          have hx := at_four P2 j _ hj4 (hc.out j hj4)
          have hw : Whole (V.getD j (0, 0)).1 (c i j) ∧ Whole (V.getD j (0, 0)).2 0 := HV.out.2 j hj4
          have hcb := HB.out i j
          have cp := Lib.hid (parts_yes hw.1 hw.2 ⟨by omega, by omega⟩ ⟨by omega, by omega⟩)
          obtain ⟨t, ht⟩ : ∃ t, t = 2 * i + j := ⟨_, rfl⟩
          have t1 : (i : Int) * 2 + (j : Int) = (t : Int) := by omega
          have t2 : wrap64 ((i : Int) * 2) = (i : Int) * 2 := by have := HI.out; unfold wrap64; omega
          have t3 : wrap64 ((i : Int) * 2 + (j : Int)) = (t : Int) := by have := HI.out; unfold wrap64; omega
          have t4 : wrap64 (t : Int) = (t : Int) := by have := HI.out; unfold wrap64; omega
          have HJ := Lib.hid hj4
          generalize V.getD j (0, 0) = z at hx cp
          clear hw hj
          by_cases htn : t < n
          · have d3 : decide ((t : Int) < (n : Int)) = true := by simp; omega
            have d3n : decide (t < n) = true := by simp; omega
            have ti0 : (0 : Int) ≤ (t : Int) := by omega
            have ti1 : (t : Int) < (n : Int) := by omega
            have bd := lay_bound (n := n) HB.out (show i ≤ 255 by have := HI.out; omega) (show j ≤ 4 by omega) t htn
            have cl := (R6.cell t).trans (intCells_get _ t (by rw [lay_length]; exact htn))
            have fl := R6.frozen t
            have R7 := R6.set t (.int .i64 ((lay n c i j).getD t 0 + c i j))
            have B7 := B6.setCell (p := ⟨gl, t, none⟩) HGL.out (.int .i64 ((lay n c i j).getD t 0 + c i j))
            rw [ht, lay_next, ← ht] at R7
            have ov : wrap64 ((lay n c i j).getD t 0 + c i j) = (lay n c i j).getD t 0 + c i j := by unfold wrap64; omega
            have H7 := Lib.hid R7; have HB7 := Lib.hid B7
            clear R7 B7 R6 B6 bd hcb ht
            generalize (lay n c i j).getD t 0 = y at *
            generalize c i j = x at *
            obtain ⟨y2, hy2⟩ : ∃ y2, y2 = y + x := ⟨_, rfl⟩
            rw [← hy2] at ov H7 HB7
            have ov2 : wrap64 y2 = y2 := ov
            have ov1 : y + x = y2 := hy2.symm
            clear ov hy2
            go_wp2_with fail
            refine (cp.out _).mono ?_
            rintro e v1 ⟨rfl, hw⟩; subst v1
            go_wp2_with fail
            go_roundw
            case rel => exact ⟨j + 1, HJ.out, ret_val (by have := HJ.out; omega), H7.out, HB7.out⟩
            case measure => simp [intOf]; have := HJ.out; omega
          · have d3 : decide ((t : Int) < (n : Int)) = false := by simp; omega
            have d3n : decide (t < n) = false := by simp; omega
            rw [lay_past n c i j (by omega)] at R6
            have H7 := Lib.hid R6; have HB7 := Lib.hid B6
            clear R6 B6 hcb ht htn
            generalize c i j = x at cp
            go_wp2_with fail
            refine (cp.out _).mono ?_
            rintro e v1 ⟨rfl, hw⟩; subst v1
            go_wp2_with fail
            go_roundw
            case rel => exact ⟨j + 1, HJ.out, ret_val (by have := HJ.out; omega), H7.out, HB7.out⟩
            case measure => simp [intOf]; have := HJ.out; omega
        · obtain rfl : j = 4 := by omega
          rw [lay_round] at R6
          have H7 := Lib.hid R6; have HB7 := Lib.hid B6
          clear R6 B6 hj hj4
          go_wp2_with fail
          go_roundw
          case rel => exact ⟨i + 1, HI.out, ret_val (by have := HI.out; omega), H7.out, HB7.out⟩
          case measure => simp [intOf]; have := HI.out; omega
    · obtain rfl : i = S := by omega
      have d1 : decide ((i : Int) < (i : Int)) = false := by simp
      have H7 := Lib.hid R1; have HB7 := Lib.hid B1
      clear R1 B1 hlt hi
      go_wp2_with fail
      go_ret
      exact ⟨gl, rfl, HGL.out, H7.out, HB7.out⟩

end Go.Proofs.Ytcejbkmmiklhbaa
