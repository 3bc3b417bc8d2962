/-
  What Up does, of the program and of the document. No condition beyond what each contract says.
-/
import Derived.Deep.Cut
import Derived.Test.YtcejbkmmiklhbaaBits9
namespace Go.Proofs.Ytcejbkmmiklhbaa
open Go.RowKit

/-- The numbers of a row that is moved up. -/
def upF (xs : List Nat) (W r : Nat) (t : Nat) : Int := if t < W then 0 else ((xs.getD (t - W) 0 * 2 ^ r : Nat) : Int)
theorem upF_at (xs : List Nat) (W r i : Nat) : upF xs W r (W + i) = ((xs.getD i 0 * 2 ^ r : Nat) : Int) := by
  unfold upF
  rw [if_neg (by omega), Nat.add_sub_cancel_left]
theorem up_start (xs : List Nat) (W r T : Nat) : fillL T W (upF xs W r) = List.replicate T 0 := by
  apply List.ext_getElem
  · simp [fillL]
  · intro t h1 h2
    simp only [fillL, List.getElem_map, List.getElem_range, List.getElem_replicate]
    by_cases h : t < W
    · rw [if_pos h]; unfold upF; rw [if_pos h]
    · rw [if_neg h]
theorem ev_noughts (n : Nat) : ev 65536 (List.replicate n 0) = 0 := by
  induction n with
  | zero => rfl
  | succ n ih =>
    rw [List.replicate_succ]
    show 0 + 65536 * ev 65536 (List.replicate n 0) = 0
    rw [ih]
    rfl
theorem ev_scale (xs : List Nat) (c : Nat) : ev 65536 (xs.map fun x : Nat => ((x * c : Nat) : Int)) = ((nv xs * c : Nat) : Int) := by
  induction xs with
  | nil => simp [ev, nv]
  | cons x r ih =>
    rw [List.map_cons]
    show ((x * c : Nat) : Int) + 65536 * ev 65536 (r.map fun x : Nat => ((x * c : Nat) : Int)) = _
    rw [ih, nv_cons, Nat.add_mul, Nat.mul_assoc]
    omega
theorem up_all (xs : List Nat) (W r n : Nat) (hn : xs.length = n) : fillL (W + n) (W + n) (upF xs W r) = List.replicate W 0 ++ xs.map fun x : Nat => ((x * 2 ^ r : Nat) : Int) := by
  apply List.ext_getElem
  · simp [fillL, hn]
  · intro t h1 h2
    simp only [fillL, List.length_map, List.length_range] at h1
    simp only [fillL, List.getElem_map, List.getElem_range]
    rw [if_pos h1]
    unfold upF
    by_cases h : t < W
    · rw [if_pos h, List.getElem_append_left (by rw [List.length_replicate]; exact h), List.getElem_replicate]
    · rw [if_neg h, List.getElem_append_right (by rw [List.length_replicate]; omega), List.getElem_map]
      simp only [List.length_replicate]
      simp [List.getD, show t - W < xs.length by omega]
theorem up_ev (xs : List Nat) (W r n N : Nat) (hn : xs.length = n) (hN : N = 16 * W + r) : ev 65536 (fillL (W + n) (W + n) (upF xs W r)) = ((nv xs * 2 ^ N : Nat) : Int) := by
  rw [up_all xs W r n hn, ev_append, ev_noughts, ev_scale, List.length_replicate, hN, Nat.pow_add, Nat.pow_mul]
  simp
  grind
theorem up_bound {xs : List Nat} (hx : Dg xs) {W r : Nat} (hr : r < 16) (t : Nat) : 0 ≤ upF xs W r t ∧ upF xs W r t ≤ 2147450880 := by
  unfold upF
  split
  · omega
  · have h1 := hx.get (t - W)
    have h2 : 2 ^ r ≤ 2 ^ 15 := Nat.pow_le_pow_right (by omega) (by omega)
    have h3 : xs.getD (t - W) 0 * 2 ^ r ≤ 65535 * 2 ^ 15 := Nat.mul_le_mul (by omega) h2
    have h4 : 65535 * 2 ^ 15 = 2147450880 := by decide
    generalize xs.getD (t - W) 0 * 2 ^ r = p at *
    omega
/-- The loop that fills a row from W on. -/
def UpI (w : World) (gl n W r : Nat) (xs : List Nat) (v : Value) (wr : World) : Prop :=
  ∃ i : Nat, i ≤ n ∧ v = .int .i64 (i : Int) ∧ Row wr gl 3 (intCells (fillL (W + n) (W + i) (upF xs W r))) ∧ Below w.heap.size w wr

set_option maxHeartbeats 4000000 in
theorem up_yes (A : Option Addr) (n c : Nat) (a : Nat) (N : Nat) (w : World) (h : Digs w A n (dg a)) (ha : a < top) (hN : N ≤ 4096) :
    Calls Try.prog 22 #[.slice A n c, .int .i64 (N : Int)] w fun e w' => ∃ R k, e = .returned (.slice R (dg (a * 2 ^ N)).length k) ∧ Digs w' R (dg (a * 2 ^ N)).length (dg (a * 2 ^ N)) ∧ Below w.heap.size w w' := by
  have c1 := Lib.hid (is_yes A n c a w h ha)
  have hn : n ≤ 256 := by have := top_len ha; have := h.1; omega
  obtain ⟨W, hW⟩ : ∃ W, W = N / 16 := ⟨_, rfl⟩
  obtain ⟨r, hr⟩ : ∃ r, r = N % 16 := ⟨_, rfl⟩
  have hr16 : r < 16 := by omega
  have hW256 : W ≤ 256 := by omega
  obtain ⟨T, hT⟩ : ∃ T, T = W + n := ⟨_, rfl⟩
  obtain ⟨L, hL⟩ : ∃ L, L = intCells (fillL T W (upF (dg a) W r)) := ⟨_, rfl⟩
  have mk := make_ints T (by omega) L (by rw [hL, up_start]) w
  have HE : Hid (ev 65536 (fillL (W + n) (W + n) (upF (dg a) W r)) = ((a * 2 ^ N : Nat) : Int)) := show _ = _ by
    rw [up_ev (dg a) W r n N h.1 (by omega), nv_dg]
  have HB : Hid (∀ t, 0 ≤ upF (dg a) W r t ∧ upF (dg a) W r t ≤ 2147450880) := fun t => up_bound h.2.1 hr16 t
  have H := Lib.hid h; have HL := Lib.hid hL; have HT := Lib.hid hT
  have d1 : decide ((N : Int) < 0) = false := by simp
  have d2 : decide ((4096 : Int) < (N : Int)) = false := by simp; omega
  have d2n : decide (4096 < N) = false := by simp; omega
  have e1 : (W : Int) + (n : Int) = (T : Int) := by omega
  have e2 : (N : Int).tdiv 16 = (W : Int) := by rw [hW]; simp
  have E3 : Hid ((N : Int).tmod 16 = (r : Int)) := show _ = _ by clear e2; rw [Int.tmod_eq_emod_of_nonneg (by omega)]; omega
  have e3 := E3.out
  have hT512 : T ≤ 512 := by clear e2 e3; omega
  have hWw : W < 4611686018427387904 := by clear e2 e3; omega
  have wW := wr64 hWw
  generalize a * 2 ^ N = V at *
  clear h ha hL hT hW hr hWw
  go_enter Try.func22, Try.ntmps22
  go_wp2_with fail
  refine c1.out.mono ?_
  rintro e v1 ⟨rfl, hw⟩; subst v1
  go_wp2_with fail
  have R0 : Row (w.alloc (.cells L.toArray 3)) w.heap.size 3 L := Row.new w _ _
  have B0 : Below w.heap.size w (w.alloc (.cells L.toArray 3)) := (Below.refl _ _).alloc (Nat.le_refl _) _
  rw [HL.out] at R0 B0 ⊢
  rw [HT.out] at R0
  rw [HT.out] at B0
  generalize hWW : w.alloc (.cells (intCells (fillL T W (upF (dg a) W r))).toArray 3) = WW at *
  rw [← HT.out, hWW] at R0 B0
  rw [HT.out] at R0
  obtain ⟨gl, hg⟩ : ∃ gl, gl = w.heap.size := ⟨_, rfl⟩
  have gle : w.heap.size ≤ gl := by clear e2 e3 wW; omega
  rw [← hg] at R0 ⊢
  have HR0 := Lib.hid R0; have HB0 := Lib.hid B0; have HGL := Lib.hid gle
  clear mk hg R0 B0 HL gle hWW c1 e2 e3 E3 wW
  go_loopw [32] (fun v wr => UpI w gl n W r (dg a) v wr) (fun v _ => n - (intOf v).toNat)
  case atStart => exact ⟨0, by omega, rfl, HR0.out, HB0.out⟩
  case round =>
    clear HR0 HB0
    obtain ⟨i, hi, rfl, R1, B1⟩ := hrel
    by_cases hlt : i < n
    · have d1 := lt_t hlt
      have d1n := ltn_t hlt
      have i0 : (0 : Int) ≤ (i : Int) := by omega
      have iS : (i : Int) < (n : Int) := by omega
      obtain ⟨b0, o, rfl, m1, hc⟩ := H.out.2.2 (by omega)
      have x1 := (B1.cell (p := ⟨b0, o + i, none⟩) m1).trans (hc i hlt)
      have bx := H.out.2.1.get i
      obtain ⟨j, hj⟩ : ∃ j, j = W + i := ⟨_, rfl⟩
      have hy := HB.out j
      rw [← hj] at R1
      have cl := (R1.cell j).trans (intCells_get _ j (by rw [fillL_length]; omega))
      have fl := R1.frozen j
      have R2 := R1.set j (.int .i64 (upF (dg a) W r j))
      rw [fillL_next, hj, Nat.add_assoc] at R2
      have B2 := B1.setCell (p := ⟨gl, j, none⟩) HGL.out (.int .i64 (upF (dg a) W r j))
      have hf : upF (dg a) W r (W + i) = (((dg a).getD i 0 * 2 ^ r : Nat) : Int) := upF_at (dg a) W r i
      rw [hf, ← hj] at R2
      rw [hj, hf, ← hj] at B2
      rw [hj, hf] at hy
      generalize (dg a).getD i 0 = x at *
      obtain ⟨y, hyy⟩ : ∃ y, y = x * 2 ^ r := ⟨_, rfl⟩
      rw [← hyy] at R2 B2 hy
      have z1 : (x : Int) * 2 ^ r = (y : Int) := by rw [hyy]; simp
      have e4 : (W : Int) + (i : Int) = (j : Int) := by omega
      have e5 : (j : Int) < (T : Int) := by have := HT.out; omega
      have e6 : (0 : Int) ≤ (j : Int) := by omega
      have hjw : j < 4611686018427387904 := by omega
      have hyw : y < 4611686018427387904 := by omega
      have H2 := Lib.hid R2; have HB2 := Lib.hid B2; have HI := Lib.hid hlt
      have z2 := wr64 hyw
      have Z12 : Hid (wrap64 ((x : Int) * 2 ^ r) = (y : Int)) := show _ = _ by rw [z1]; exact z2
      clear z1 z2
      have z3 := wr64 hjw
      have z4 := wr64 (Nat.lt_trans bx (by decide))
      clear R1 B1 R2 B2 hc m1 hi hf hy hyy hyw hjw hj bx
      go_wp2_with fail
      go_roundw
      case rel =>
        rw [Z12.out]
        exact ⟨i + 1, HI.out, ret_val (by have := HI.out; omega), H2.out, HB2.out⟩
      case measure => simp [intOf]; have := HI.out; omega
    · obtain rfl : i = n := by omega
      have d1 := lt_f (Nat.le_refl i)
      have d1n := ltn_f (Nat.le_refl i)
      have c6 := Lib.hid (carried_any (some ⟨gl, 0, none⟩) T T (fillL (W + i) (W + i) (upF (dg a) W r)) wr (by rw [HT.out]; exact ints_row R1 (fillL_length (W + i) (W + i) _)) (fun j hj => by
        have q := HB.out j
        rw [fillL_get _ _ _ _ (by rw [← HT.out]; exact hj), if_pos (by rw [← HT.out]; exact hj)]
        omega) (by omega) V HE.out)
      have HB2 := Lib.hid B1
      clear R1 B1 hlt hi
      go_wp2_with fail
      refine c6.out.mono ?_
      rintro e w4 ⟨S, j, rfl, D, B4⟩
      have HD := Lib.hid D
      have HB4 := Lib.hid (HB2.out.trans (B4.mono HB2.out.size))
      clear D B4 HB2 c6
      go_wp2_with fail
      go_ret
      exact ⟨S, j, rfl, HD.out, HB4.out⟩

set_option maxHeartbeats 1000000 in
theorem up_no (A : Option Addr) (n c : Nat) (xs : List Nat) (N : Int) (w : World) (h : Digs w A n xs) (hn : n ≤ 1000000000) (hi : isN xs = false ∨ N < 0 ∨ 4096 < N) :
    Calls Try.prog 22 #[.slice A n c, .int .i64 N] w fun e w' => e = .returned (.slice none 0 0) ∧ w' = w := by
  have c1 := Lib.hid (is_any A n c xs w h (by omega))
  by_cases hx : isN xs = false
  · rw [hx] at c1
    clear hi hx h
    go_enter Try.func22, Try.ntmps22
    go_wp2_with fail
    refine c1.out.mono ?_
    rintro e v1 ⟨rfl, hw⟩; subst v1
    go_wp2_with fail
    go_ret
    exact ⟨rfl, rfl⟩
  · rw [eq_true_of_ne_false hx] at c1
    by_cases h0 : N < 0
    · have d0 : decide (N < 0) = true := by simp; omega
      clear hi hx h
      go_enter Try.func22, Try.ntmps22
      go_wp2_with fail
      refine c1.out.mono ?_
      rintro e v1 ⟨rfl, hw⟩; subst v1
      go_wp2_with fail
      go_ret
      exact ⟨rfl, rfl⟩
    · have d0 : decide (N < 0) = false := by simp; omega
      have d1 : decide ((4096 : Int) < N) = true := by
        simp
        rcases hi with h | h | h
        · exact absurd h hx
        · exact absurd h h0
        · exact h
      clear hi hx h
      go_enter Try.func22, Try.ntmps22
      go_wp2_with fail
      refine c1.out.mono ?_
      rintro e v1 ⟨rfl, hw⟩; subst v1
      go_wp2_with fail
      go_ret
      exact ⟨rfl, rfl⟩

theorem nv_two (W r : Nat) : nv (List.replicate W 0 ++ [2 ^ r]) = 2 ^ (16 * W + r) := by
  rw [nv_append, nv_noughts, List.length_replicate, Nat.pow_add, Nat.pow_mul]
  simp [nv]
theorem two_set (W d : Nat) : (dc (List.replicate (W + 1) 0)).set W (.int .u16 (d : Int)) = dc (List.replicate W 0 ++ [d]) := by
  rw [dc_set, List.replicate_succ']
  rw [List.set_append_right _ _ (by rw [List.length_replicate]; exact Nat.le_refl _), List.length_replicate, Nat.sub_self, List.set_cons_zero]

set_option maxHeartbeats 4000000 in
theorem refUp_any (A : Option Addr) (n c : Nat) (a : Nat) (N : Nat) (w : World) (h : Digs w A n (dg a)) (hn : n ≤ 1000) (hN : N ≤ 4096) :
    Calls Try.prog 27 #[.slice A n c, .int .i64 (N : Int)] w fun e w' => ∃ R k, e = .returned (.slice R (dg (a * 2 ^ N)).length k) ∧ Digs w' R (dg (a * 2 ^ N)).length (dg (a * 2 ^ N)) ∧ Below w.heap.size w w' := by
  obtain ⟨W, hW⟩ : ∃ W, W = N / 16 := ⟨_, rfl⟩
  obtain ⟨r, hr⟩ : ∃ r, r = N % 16 := ⟨_, rfl⟩
  have hr16 : r < 16 := by omega
  have hW256 : W ≤ 256 := by omega
  obtain ⟨T, hT⟩ : ∃ T, T = W + 1 := ⟨_, rfl⟩
  obtain ⟨L, hL⟩ : ∃ L, L = dc (List.replicate T 0) := ⟨_, rfl⟩
  have mk := make_u16 T (by omega) L hL w
  obtain ⟨d, hd⟩ : ∃ d, d = 2 ^ r := ⟨_, rfl⟩
  have hd65 : d < 65536 := by
    rw [hd]
    have h2 : 2 ^ r ≤ 2 ^ 15 := Nat.pow_le_pow_right (by omega) (by omega)
    have h4 : 2 ^ 15 = 32768 := by decide
    omega
  have R0 : Row (w.alloc (.cells L.toArray 45)) w.heap.size 45 L := Row.new w _ _
  have B0 : Below w.heap.size w (w.alloc (.cells L.toArray 45)) := (Below.refl _ _).alloc (Nat.le_refl _) _
  have cl : (w.alloc (.cells L.toArray 45)).cell? ⟨w.heap.size, W, none⟩ = some (.int .u16 (0 : Nat)) := by
    rw [R0.cell W, hL, dc_get _ _ (by rw [List.length_replicate]; omega)]
    simp [List.getD, hT]
  have fl := R0.frozen W
  have R1 : Row (w.alloc (.cells (L.set W (.int .u16 (d : Int))).toArray 45)) w.heap.size 45 (dc (List.replicate W 0 ++ [d])) := by
    have h2 : L.set W (.int .u16 (d : Int)) = dc (List.replicate W 0 ++ [d]) := by rw [hL, hT, two_set]
    have h1 := Row.new w 45 (L.set W (.int .u16 (d : Int)))
    rw [h2] at h1 ⊢
    exact h1
  have B1 : Below w.heap.size w (w.alloc (.cells (L.set W (.int .u16 (d : Int))).toArray 45)) := (Below.refl _ _).alloc (Nat.le_refl _) _
  have hdg : Dg (List.replicate W 0 ++ [d]) := (Dg.noughts W).append (Dg.one hd65)
  have D1 := row_digs (n := T) R1 hdg (by rw [List.length_append, List.length_replicate, hT]; rfl)
  have ht : a * 2 ^ N = nv (dg a) * nv (List.replicate W 0 ++ [d]) := by
    rw [nv_dg, hd, nv_two, show 16 * W + r = N by omega]
  have cM := refMul_any A n c (dg a) (some ⟨w.heap.size, 0, none⟩) T T (List.replicate W 0 ++ [d]) _ (h.below B1) D1 hn (by omega) (a * 2 ^ N) ht
  have CM := Lib.hid cM; have HB1 := Lib.hid B1
  generalize a * 2 ^ N = V at *
  have e1 : (W : Int) + 1 = (T : Int) := by omega
  have e2 : (N : Int).tdiv 16 = (W : Int) := by rw [hW]; simp
  have hWw : W < 4611686018427387904 := by clear e2; omega
  have j0 : (0 : Int) ≤ (W : Int) := by clear e2; omega
  have jT : (W : Int) < (T : Int) := by clear e2; omega
  have E3 : Hid ((N : Int).tmod 16 = (r : Int)) := show _ = _ by clear e2; rw [Int.tmod_eq_emod_of_nonneg (by omega)]; omega
  have e3 := E3.out
  have hrw : r < 18446744073709551616 := by clear e2 e3; omega
  have zr := wru64 hrw
  have wW := wr64 hWw
  have wT := wr64 (x := T) (by clear e2 e3 zr wW; omega)
  have zd : (2 : Int) ^ r = (d : Int) := by rw [hd]; simp
  have zd2 : IntKind.u16.wrap (2 ^ r) = (d : Int) := by rw [zd]; exact wr16 hd65
  have HW16 := Lib.hid (wr16 hd65)
  clear hT hd hd65 R1 B1 hdg D1 ht h hL R0 B0 cM hW hr hWw hrw E3
  go_enter Try.func27, Try.ntmps27
  go_wp2_with fail
  rw [HW16.out]
  refine CM.out.mono ?_
  rintro e w3 ⟨R, k, rfl, D, B3⟩
  have HD := Lib.hid D
  have HB3 := Lib.hid (HB1.out.trans (B3.mono HB1.out.size))
  clear D B3
  go_wp2_with fail
  go_ret
  exact ⟨R, k, rfl, HD.out, HB3.out⟩

end Go.Proofs.Ytcejbkmmiklhbaa
