/-
  What Add and Sub do. No condition beyond what each contract says.
-/
import Derived.Test.YtcejbkmmiklhbaaBigE
namespace Go.Proofs.Ytcejbkmmiklhbaa
open Go.RowKit

set_option maxHeartbeats 4000000 in
theorem add_yes (A : Option Addr) (n c : Nat) (a : Nat) (B : Option Addr) (m d : Nat) (b : Nat) (w : World) (h1 : Digs w A n (dg a)) (h2 : Digs w B m (dg b)) (ha : a < top) (hb : b < top) :
    Calls Try.prog 13 #[.slice A n c, .slice B m d] w fun e w' => ∃ R k, e = .returned (.slice R (dg (a + b)).length k) ∧ Digs w' R (dg (a + b)).length (dg (a + b)) ∧ Below w.heap.size w w' := by
  have c1 := Lib.hid (is_yes A n c a w h1 ha)
  have c2 := Lib.hid (is_yes B m d b w h2 hb)
  have hn : n ≤ 256 := by have := top_len ha; have := h1.1; omega
  have hm : m ≤ 256 := by have := top_len hb; have := h2.1; omega
  obtain ⟨s, hs⟩ : ∃ s, s = max n m := ⟨_, rfl⟩
  have hsn : n ≤ s := by omega
  have hsm : m ≤ s := by omega
  have hs2 : s ≤ 256 := by omega
  obtain ⟨f, hf⟩ : ∃ f : Nat → Int, f = fun i => (((dg a).getD i 0 : Nat) : Int) + (((dg b).getD i 0 : Nat) : Int) := ⟨_, rfl⟩
  obtain ⟨L, hL⟩ : ∃ L, L = intCells (fillL s 0 f) := ⟨_, rfl⟩
  have mk := make_ints s (by omega) L (by rw [hL, fillL_zero]) w
  have HE : Hid (ev 65536 (fillL s s f) = ((a + b : Nat) : Int)) := show _ = _ by rw [hf, ev_sumd _ _ _ (by rw [h1.1]; exact hsn) (by rw [h2.1]; exact hsm), nv_dg, nv_dg]
  have HX : Hid (∀ i, f i = (((dg a).getD i 0 : Nat) : Int) + (((dg b).getD i 0 : Nat) : Int)) := fun i => by rw [hf]
  have H1 := Lib.hid h1; have H2 := Lib.hid h2; have HL := Lib.hid hL
  clear h1 h2 ha hb hL hf
  rcases Nat.lt_or_ge n m with hnm | hnm
  · obtain rfl : s = m := by omega
    have q1 : (n : Int) < (s : Int) := by omega
    have q2 : decide ((n : Int) < (s : Int)) = true := by simp; omega
    clear hs
    go_enter Try.func13, Try.ntmps13
    go_wp2_with fail
    refine c1.out.mono ?_
    rintro e v1 ⟨rfl, hw⟩; subst v1
    go_wp2_with fail
    refine c2.out.mono ?_
    rintro e v1 ⟨rfl, hw⟩; subst v1
    go_wp2_with fail
    have R0 : Row (w.alloc (.cells L.toArray 3)) w.heap.size 3 L := Row.new w _ _
    have B0 : Below w.heap.size w (w.alloc (.cells L.toArray 3)) := (Below.refl _ _).alloc (Nat.le_refl _) _
    rw [HL.out] at R0 B0 ⊢
    generalize w.alloc (.cells (intCells (fillL s 0 f)).toArray 3) = W at *
    obtain ⟨gl, hg⟩ : ∃ gl, gl = w.heap.size := ⟨_, rfl⟩
    have gle : w.heap.size ≤ gl := by omega
    rw [← hg] at R0 ⊢
    have HR0 := Lib.hid R0; have HB0 := Lib.hid B0; have HGL := Lib.hid gle
    clear mk hg R0 B0 HL gle
    go_loopw [23] (fun v wr => FillAt w gl s f v wr) (fun v _ => s - (intOf v).toNat)
    case atStart => exact ⟨0, by omega, rfl, HR0.out, HB0.out⟩
    case round =>
      clear HR0 HB0
      obtain ⟨i, hi, rfl, R1, B1⟩ := hrel
      by_cases hlt : i < s
      · have d1 := lt_t hlt
        have d1n := ltn_t hlt
        have i0 : (0 : Int) ≤ (i : Int) := by omega
        have iS : (i : Int) < (s : Int) := by omega
        have e1 := Lib.hid (digit_nat A n c (dg a) i wr (H1.out.below B1) (by omega))
        have e2 := Lib.hid (digit_nat B s d (dg b) i wr (H2.out.below B1) (by omega))
        have bx := H1.out.2.1.get i
        have bY := H2.out.2.1.get i
        have cl := (R1.cell i).trans (intCells_get _ i (by rw [fillL_length]; exact hlt))
        have fl := R1.frozen i
        have R2 := R1.set i (.int .i64 (f i))
        rw [fillL_next] at R2
        have B2 := B1.setCell (p := ⟨gl, i, none⟩) HGL.out (.int .i64 (f i))
        rw [HX.out i] at R2 B2
        generalize (dg a).getD i 0 = x at *
        generalize (dg b).getD i 0 = y at *
        have H3 := Lib.hid R2; have HB2 := Lib.hid B2; have HI := Lib.hid hlt
        have ov : wrap64 ((x : Int) + (y : Int)) = (x : Int) + (y : Int) := by unfold wrap64; omega
        clear R1 B1 R2 B2 hi
        go_wp2_with fail
        refine e1.out.mono ?_
        rintro e v1 ⟨rfl, hw⟩; subst v1
        go_wp2_with fail
        refine e2.out.mono ?_
        rintro e v1 ⟨rfl, hw⟩; subst v1
        go_wp2_with fail
        go_roundw
        case rel => exact ⟨i + 1, HI.out, ret_val (by have := HI.out; omega), H3.out, HB2.out⟩
        case measure => simp [intOf]; have := HI.out; omega
      · obtain rfl : i = s := by omega
        have d1 := lt_f (Nat.le_refl i)
        have d1n := ltn_f (Nat.le_refl i)
        have HI3 := Lib.hid (ints_row R1 (fillL_length i i f))
        have c6 := Lib.hid (carried_any (some ⟨gl, 0, none⟩) i i (fillL i i f) wr HI3.out (fun j hj => by
          have q1 := H1.out.2.1.get j
          have q2 := H2.out.2.1.get j
          rw [fillL_get _ _ _ _ hj, if_pos hj, HX.out j]
          omega) (by omega) (a + b) HE.out)
        have HB2 := Lib.hid B1
        clear R1 B1 hlt hi
        go_wp2_with fail
        refine c6.out.mono ?_
        rintro e w4 ⟨S, j, rfl, D, B4⟩
        have HD := Lib.hid D
        have HB4 := Lib.hid (HB2.out.trans (B4.mono HB2.out.size))
        clear D B4 HB2 c6
        go_wp2_with fail
        go_ret
        exact ⟨S, j, rfl, HD.out, HB4.out⟩
  · obtain rfl : s = n := by omega
    have q1 : ¬ (s : Int) < (m : Int) := by omega
    have q2 : decide ((s : Int) < (m : Int)) = false := by simp; omega
    clear hs
    go_enter Try.func13, Try.ntmps13
    go_wp2_with fail
    refine c1.out.mono ?_
    rintro e v1 ⟨rfl, hw⟩; subst v1
    go_wp2_with fail
    refine c2.out.mono ?_
    rintro e v1 ⟨rfl, hw⟩; subst v1
    go_wp2_with fail
    have R0 : Row (w.alloc (.cells L.toArray 3)) w.heap.size 3 L := Row.new w _ _
    have B0 : Below w.heap.size w (w.alloc (.cells L.toArray 3)) := (Below.refl _ _).alloc (Nat.le_refl _) _
    rw [HL.out] at R0 B0 ⊢
    generalize w.alloc (.cells (intCells (fillL s 0 f)).toArray 3) = W at *
    obtain ⟨gl, hg⟩ : ∃ gl, gl = w.heap.size := ⟨_, rfl⟩
    have gle : w.heap.size ≤ gl := by omega
    rw [← hg] at R0 ⊢
    have HR0 := Lib.hid R0; have HB0 := Lib.hid B0; have HGL := Lib.hid gle
    clear mk hg R0 B0 HL gle
    go_loopw [23] (fun v wr => FillAt w gl s f v wr) (fun v _ => s - (intOf v).toNat)
    case atStart => exact ⟨0, by omega, rfl, HR0.out, HB0.out⟩
    case round =>
      clear HR0 HB0
      obtain ⟨i, hi, rfl, R1, B1⟩ := hrel
      by_cases hlt : i < s
      · have d1 := lt_t hlt
        have d1n := ltn_t hlt
        have i0 : (0 : Int) ≤ (i : Int) := by omega
        have iS : (i : Int) < (s : Int) := by omega
        have e1 := Lib.hid (digit_nat A s c (dg a) i wr (H1.out.below B1) (by omega))
        have e2 := Lib.hid (digit_nat B m d (dg b) i wr (H2.out.below B1) (by omega))
        have bx := H1.out.2.1.get i
        have bY := H2.out.2.1.get i
        have cl := (R1.cell i).trans (intCells_get _ i (by rw [fillL_length]; exact hlt))
        have fl := R1.frozen i
        have R2 := R1.set i (.int .i64 (f i))
        rw [fillL_next] at R2
        have B2 := B1.setCell (p := ⟨gl, i, none⟩) HGL.out (.int .i64 (f i))
        rw [HX.out i] at R2 B2
        generalize (dg a).getD i 0 = x at *
        generalize (dg b).getD i 0 = y at *
        have H3 := Lib.hid R2; have HB2 := Lib.hid B2; have HI := Lib.hid hlt
        have ov : wrap64 ((x : Int) + (y : Int)) = (x : Int) + (y : Int) := by unfold wrap64; omega
        clear R1 B1 R2 B2 hi
        go_wp2_with fail
        refine e1.out.mono ?_
        rintro e v1 ⟨rfl, hw⟩; subst v1
        go_wp2_with fail
        refine e2.out.mono ?_
        rintro e v1 ⟨rfl, hw⟩; subst v1
        go_wp2_with fail
        go_roundw
        case rel => exact ⟨i + 1, HI.out, ret_val (by have := HI.out; omega), H3.out, HB2.out⟩
        case measure => simp [intOf]; have := HI.out; omega
      · obtain rfl : i = s := by omega
        have d1 := lt_f (Nat.le_refl i)
        have d1n := ltn_f (Nat.le_refl i)
        have HI3 := Lib.hid (ints_row R1 (fillL_length i i f))
        have c6 := Lib.hid (carried_any (some ⟨gl, 0, none⟩) i i (fillL i i f) wr HI3.out (fun j hj => by
          have q1 := H1.out.2.1.get j
          have q2 := H2.out.2.1.get j
          rw [fillL_get _ _ _ _ hj, if_pos hj, HX.out j]
          omega) (by omega) (a + b) HE.out)
        have HB2 := Lib.hid B1
        clear R1 B1 hlt hi
        go_wp2_with fail
        refine c6.out.mono ?_
        rintro e w4 ⟨S, j, rfl, D, B4⟩
        have HD := Lib.hid D
        have HB4 := Lib.hid (HB2.out.trans (B4.mono HB2.out.size))
        clear D B4 HB2 c6
        go_wp2_with fail
        go_ret
        exact ⟨S, j, rfl, HD.out, HB4.out⟩

set_option maxHeartbeats 4000000 in
theorem sub_yes (A : Option Addr) (n c : Nat) (a : Nat) (B : Option Addr) (m d : Nat) (b : Nat) (w : World) (h1 : Digs w A n (dg a)) (h2 : Digs w B m (dg b)) (ha : a < top) (hb : b < top) (hle : b ≤ a) :
    Calls Try.prog 12 #[.slice A n c, .slice B m d] w fun e w' => ∃ R k, e = .returned (.tuple #[.slice R (dg (a - b)).length k, .bool true]) ∧ Digs w' R (dg (a - b)).length (dg (a - b)) ∧ Below w.heap.size w w' := by
  have c1 := Lib.hid (is_yes A n c a w h1 ha)
  have c2 := Lib.hid (is_yes B m d b w h2 hb)
  have hn : n ≤ 256 := by have := top_len ha; have := h1.1; omega
  have hm : m ≤ 256 := by have := top_len hb; have := h2.1; omega
  have c3 := Lib.hid (cmp_yes A n c a B m d b w h1 h2 ha hb)
  have hcp : decide (cp a b < 0) = false := by
    unfold cp
    rw [if_neg (by omega)]
    split <;> decide
  obtain ⟨s, hs⟩ : ∃ s, s = n := ⟨_, rfl⟩
  have hmn : m ≤ n := by
    rcases Nat.lt_or_ge n m with h | h
    · have := cmp_len (a := a) (b := b) (by rw [h1.1, h2.1]; exact h)
      omega
    · exact h
  have hsn : n ≤ s := by omega
  have hsm : m ≤ s := by omega
  have hs2 : s ≤ 256 := by omega
  obtain ⟨f, hf⟩ : ∃ f : Nat → Int, f = fun i => (((dg a).getD i 0 : Nat) : Int) - (((dg b).getD i 0 : Nat) : Int) := ⟨_, rfl⟩
  obtain ⟨L, hL⟩ : ∃ L, L = intCells (fillL s 0 f) := ⟨_, rfl⟩
  have HE : Hid (ev 65536 (fillL s s f) = ((a - b : Nat) : Int)) := show _ = _ by rw [hf, ev_diff _ _ _ (by rw [h1.1]; exact hsn) (by rw [h2.1]; exact hsm) (by rw [nv_dg, nv_dg]; exact hle), nv_dg, nv_dg]
  have HX : Hid (∀ i, f i = (((dg a).getD i 0 : Nat) : Int) - (((dg b).getD i 0 : Nat) : Int)) := fun i => by rw [hf]
  have H1 := Lib.hid h1; have H2 := Lib.hid h2; have HL := Lib.hid hL
  generalize cp a b = cc at *
  have mk0 : Hid (∀ W : World, (Instr.makeSlice 46 (.int .i64 (s : Int)) (.int .i64 (s : Int))).run Try.prog W = .ok (.slice (some ⟨W.heap.size, 0, none⟩) s s) (W.alloc (.cells L.toArray 3))) := fun W => make_ints s (by omega) L (by rw [HL.out, fillL_zero]) W
  obtain rfl : s = n := hs
  clear h1 h2 ha hb hL hf hle hmn
  go_enter Try.func12, Try.ntmps12
  go_wp2_with fail
  refine c1.out.mono ?_
  rintro e v1 ⟨rfl, hw⟩; subst v1
  go_wp2_with fail
  refine c2.out.mono ?_
  rintro e v1 ⟨rfl, hw⟩; subst v1
  go_wp2_with fail
  refine c3.out.mono ?_
  rintro e V ⟨rfl, BV⟩
  have hks := BV.size
  have HBV := Lib.hid BV
  have mk := mk0.out V
  clear c1 c2 c3 BV mk0
  go_wp2_with fail
  have R0 : Row (V.alloc (.cells L.toArray 3)) V.heap.size 3 L := Row.new V _ _
  have B0 : Below w.heap.size w (V.alloc (.cells L.toArray 3)) := HBV.out.alloc HBV.out.size _
  rw [HL.out] at R0 B0 ⊢
  generalize V.alloc (.cells (intCells (fillL s 0 f)).toArray 3) = W at *
  obtain ⟨gl, hg⟩ : ∃ gl, gl = V.heap.size := ⟨_, rfl⟩
  have gle : w.heap.size ≤ gl := by have := HBV.out.size; omega
  rw [← hg] at R0 ⊢
  have HR0 := Lib.hid R0; have HB0 := Lib.hid B0; have HGL := Lib.hid gle
  clear mk hg R0 B0 HL gle
  go_loopw [27] (fun v wr => FillAt w gl s f v wr) (fun v _ => s - (intOf v).toNat)
  case atStart => exact ⟨0, by omega, rfl, HR0.out, HB0.out⟩
  case round =>
    clear HR0 HB0
    obtain ⟨i, hi, rfl, R1, B1⟩ := hrel
    by_cases hlt : i < s
    · have d1 := lt_t hlt
      have d1n := ltn_t hlt
      have i0 : (0 : Int) ≤ (i : Int) := by omega
      have iS : (i : Int) < (s : Int) := by omega
      have e1 := Lib.hid (digit_nat A s c (dg a) i wr (H1.out.below B1) (by omega))
      have e2 := Lib.hid (digit_nat B m d (dg b) i wr (H2.out.below B1) (by omega))
      have bx := H1.out.2.1.get i
      have bY := H2.out.2.1.get i
      have cl := (R1.cell i).trans (intCells_get _ i (by rw [fillL_length]; exact hlt))
      have fl := R1.frozen i
      have R2 := R1.set i (.int .i64 (f i))
      rw [fillL_next] at R2
      have B2 := B1.setCell (p := ⟨gl, i, none⟩) HGL.out (.int .i64 (f i))
      rw [HX.out i] at R2 B2
      generalize (dg a).getD i 0 = x at *
      generalize (dg b).getD i 0 = y at *
      have H3 := Lib.hid R2; have HB2 := Lib.hid B2; have HI := Lib.hid hlt
      have ov : wrap64 ((x : Int) - (y : Int)) = (x : Int) - (y : Int) := by unfold wrap64; omega
      clear R1 B1 R2 B2 hi
      go_wp2_with fail
      refine e1.out.mono ?_
      rintro e v1 ⟨rfl, hw⟩; subst v1
      go_wp2_with fail
      refine e2.out.mono ?_
      rintro e v1 ⟨rfl, hw⟩; subst v1
      go_wp2_with fail
      go_roundw
      case rel => exact ⟨i + 1, HI.out, ret_val (by have := HI.out; omega), H3.out, HB2.out⟩
      case measure => simp [intOf]; have := HI.out; omega
    · obtain rfl : i = s := by omega
      have d1 := lt_f (Nat.le_refl i)
      have d1n := ltn_f (Nat.le_refl i)
      have HI3 := Lib.hid (ints_row R1 (fillL_length i i f))
      have c6 := Lib.hid (carried_any (some ⟨gl, 0, none⟩) i i (fillL i i f) wr HI3.out (fun j hj => by
        have q1 := H1.out.2.1.get j
        have q2 := H2.out.2.1.get j
        rw [fillL_get _ _ _ _ hj, if_pos hj, HX.out j]
        omega) (by omega) (a - b) HE.out)
      have HB2 := Lib.hid B1
      clear R1 B1 hlt hi
      go_wp2_with fail
      refine c6.out.mono ?_
      rintro e w4 ⟨S, j, rfl, D, B4⟩
      have HD := Lib.hid D
      have HB4 := Lib.hid (HB2.out.trans (B4.mono HB2.out.size))
      clear D B4 HB2 c6
      go_wp2_with fail
      go_ret2
      exact ⟨S, j, rfl, HD.out, HB4.out⟩

set_option maxHeartbeats 1000000 in
theorem add_no (A : Option Addr) (n c : Nat) (xs : List Nat) (B : Option Addr) (m d : Nat) (ys : List Nat) (w : World) (h1 : Digs w A n xs) (h2 : Digs w B m ys) (hn : n ≤ 1000000000) (hm : m ≤ 1000000000) (hi : isN xs = false ∨ isN ys = false) :
    Calls Try.prog 13 #[.slice A n c, .slice B m d] w fun e w' => e = .returned (.slice none 0 0) ∧ w' = w := by
  have c1 := Lib.hid (is_any A n c xs w h1 (by omega))
  have c2 := Lib.hid (is_any B m d ys w h2 (by omega))
  by_cases hx : isN xs = false
  · rw [hx] at c1
    clear hi hx c2
    go_enter Try.func13, Try.ntmps13
    go_wp2_with fail
    refine c1.out.mono ?_
    rintro e v1 ⟨rfl, hw⟩; subst v1
    go_wp2_with fail
    go_ret
    exact ⟨rfl, rfl⟩
  · have hy : isN ys = false := by rcases hi with h | h; exact absurd h hx; exact h
    rw [eq_true_of_ne_false hx] at c1
    rw [hy] at c2
    clear hi hx hy
    go_enter Try.func13, Try.ntmps13
    go_wp2_with fail
    refine c1.out.mono ?_
    rintro e v1 ⟨rfl, hw⟩; subst v1
    go_wp2_with fail
    refine c2.out.mono ?_
    rintro e v1 ⟨rfl, hw⟩; subst v1
    go_wp2_with fail
    go_ret
    exact ⟨rfl, rfl⟩

set_option maxHeartbeats 1000000 in
theorem sub_no (A : Option Addr) (n c : Nat) (xs : List Nat) (B : Option Addr) (m d : Nat) (ys : List Nat) (w : World) (h1 : Digs w A n xs) (h2 : Digs w B m ys) (hn : n ≤ 1000000000) (hm : m ≤ 1000000000) (hi : isN xs = false ∨ isN ys = false) :
    Calls Try.prog 12 #[.slice A n c, .slice B m d] w fun e w' => e = .returned (.tuple #[.slice none 0 0, .bool false]) ∧ w' = w := by
  have c1 := Lib.hid (is_any A n c xs w h1 (by omega))
  have c2 := Lib.hid (is_any B m d ys w h2 (by omega))
  by_cases hx : isN xs = false
  · rw [hx] at c1
    clear hi hx c2
    go_enter Try.func12, Try.ntmps12
    go_wp2_with fail
    refine c1.out.mono ?_
    rintro e v1 ⟨rfl, hw⟩; subst v1
    go_wp2_with fail
    go_ret2
    exact ⟨rfl, rfl⟩
  · have hy : isN ys = false := by rcases hi with h | h; exact absurd h hx; exact h
    rw [eq_true_of_ne_false hx] at c1
    rw [hy] at c2
    clear hi hx hy
    go_enter Try.func12, Try.ntmps12
    go_wp2_with fail
    refine c1.out.mono ?_
    rintro e v1 ⟨rfl, hw⟩; subst v1
    go_wp2_with fail
    refine c2.out.mono ?_
    rintro e v1 ⟨rfl, hw⟩; subst v1
    go_wp2_with fail
    go_ret2
    exact ⟨rfl, rfl⟩

set_option maxHeartbeats 1000000 in
theorem sub_less (A : Option Addr) (n c : Nat) (a : Nat) (B : Option Addr) (m d : Nat) (b : Nat) (w : World) (h1 : Digs w A n (dg a)) (h2 : Digs w B m (dg b)) (ha : a < top) (hb : b < top) (hlt : a < b) :
    Calls Try.prog 12 #[.slice A n c, .slice B m d] w fun e w' => e = .returned (.tuple #[.slice none 0 0, .bool false]) ∧ Below w.heap.size w w' := by
  have c1 := Lib.hid (is_yes A n c a w h1 ha)
  have c2 := Lib.hid (is_yes B m d b w h2 hb)
  have c3 := Lib.hid (cmp_yes A n c a B m d b w h1 h2 ha hb)
  have hcp : decide (cp a b < 0) = true := by rw [cp_lt hlt]; decide
  generalize cp a b = cc at *
  clear h1 h2 ha hb hlt
  go_enter Try.func12, Try.ntmps12
  go_wp2_with fail
  refine c1.out.mono ?_
  rintro e v1 ⟨rfl, hw⟩; subst v1
  go_wp2_with fail
  refine c2.out.mono ?_
  rintro e v1 ⟨rfl, hw⟩; subst v1
  go_wp2_with fail
  refine c3.out.mono ?_
  rintro e V ⟨rfl, BV⟩
  go_wp2_with fail
  go_ret2
  exact ⟨rfl, BV⟩

end Go.Proofs.Ytcejbkmmiklhbaa
