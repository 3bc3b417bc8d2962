/-
  Numbers as sums of digits times powers; rows that are filled number by number; what a product of rows of digits comes to; pure. No condition beyond what each lemma asks.
  What numbers and Mul do. No condition beyond what each contract says.
  What Add and Sub do. No condition beyond what each contract says.
-/
import Derived.Test.YtojpfmlmalmlcaaGreatDoorNBigC
namespace Go.Proofs.YtojpfmlmalmlcaaGreatDoor.G
open Go.RowKit
theorem cast_getD (xs : List Nat) (i : Nat) : (xs.map fun x : Nat => (x : Int)).getD i 0 = ((xs.getD i 0 : Nat) : Int) := by
  by_cases h : i < xs.length
  · simp [List.getD, h]
  · simp [List.getD, List.getElem?_eq_none (Nat.le_of_not_lt h)]
theorem nv_sum (xs : List Nat) (n : Nat) (h : xs.length ≤ n) : sm n (fun i => ((xs.getD i 0 : Nat) : Int) * 65536 ^ i) = (nv xs : Int) := by
  rw [← ev_eq, ev_sum, List.length_map, sm_more h (fun i hi => by rw [nv_past hi]; simp)]
  exact sm_congr fun i _ => by rw [cast_getD]
/-- A row of n numbers, of which i have been laid. -/
def fillL (n i : Nat) (f : Nat → Int) : List Int := (List.range n).map fun t => if t < i then f t else 0
theorem fillL_length (n i : Nat) (f : Nat → Int) : (fillL n i f).length = n := by simp [fillL]
theorem fillL_get (n i : Nat) (f : Nat → Int) (t : Nat) (h : t < n) : (fillL n i f).getD t 0 = if t < i then f t else 0 := by simp [fillL, List.getD, h]
theorem fillL_zero (n : Nat) (f : Nat → Int) : fillL n 0 f = List.replicate n 0 := by
  apply List.ext_getElem
  · simp [fillL]
  · intro t h1 h2
    simp [fillL]
theorem fillL_next (n i : Nat) (f : Nat → Int) : (intCells (fillL n i f)).set i (.int .i64 (f i)) = intCells (fillL n (i + 1) f) := by
  apply List.ext_getElem
  · simp [fillL, intCells]
  · intro t h1 h2
    simp only [fillL, intCells, List.length_map, List.length_range] at h2
    rw [List.getElem_set]
    by_cases h : i = t
    · subst h
      rw [if_pos rfl]
      simp [intCells, fillL]
    · rw [if_neg h]
      simp only [intCells, fillL, List.getElem_map, List.getElem_range]
      by_cases h2 : t < i
      · rw [if_pos h2, if_pos (by omega)]
      · rw [if_neg h2, if_neg (by omega)]
theorem fill_ev (n : Nat) (f : Nat → Int) : ev 65536 (fillL n n f) = sm n (fun i => f i * 65536 ^ i) := by
  rw [ev_sum, fillL_length]
  exact sm_congr fun i hi => by rw [fillL_get _ _ _ _ hi, if_pos hi]
/-- The loop that fills a row. -/
def FillAt (w : World) (gl n : Nat) (f : Nat → Int) (v : Value) (wr : World) : Prop :=
  ∃ i : Nat, i ≤ n ∧ v = .int .i64 (i : Int) ∧ Row wr gl 3 (intCells (fillL n i f)) ∧ Below w.heap.size w wr
theorem ev_sumd (xs ys : List Nat) (n : Nat) (hx : xs.length ≤ n) (hy : ys.length ≤ n) : ev 65536 (fillL n n fun i => (xs.getD i 0 : Nat) + (ys.getD i 0 : Nat)) = ((nv xs + nv ys : Nat) : Int) := by
  rw [fill_ev, sm_congr (g := fun i => ((xs.getD i 0 : Nat) : Int) * 65536 ^ i + ((ys.getD i 0 : Nat) : Int) * 65536 ^ i) (fun i _ => by rw [Int.add_mul]), sm_add, nv_sum xs n hx, nv_sum ys n hy]
  simp
theorem ev_diff (xs ys : List Nat) (n : Nat) (hx : xs.length ≤ n) (hy : ys.length ≤ n) (h : nv ys ≤ nv xs) : ev 65536 (fillL n n fun i => (xs.getD i 0 : Nat) - (ys.getD i 0 : Nat)) = ((nv xs - nv ys : Nat) : Int) := by
  rw [fill_ev, sm_congr (g := fun i => ((xs.getD i 0 : Nat) : Int) * 65536 ^ i + (-1) * (((ys.getD i 0 : Nat) : Int) * 65536 ^ i)) (fun i _ => by grind), sm_add, sm_mul, nv_sum xs n hx, nv_sum ys n hy]
  omega
/-- A row of digits as numbers. -/
def ns (xs : List Nat) : List Int := xs.map fun x : Nat => (x : Int)
theorem ns_length (xs : List Nat) : (ns xs).length = xs.length := by simp [ns]
theorem fill_ns (xs : List Nat) (n : Nat) (h : xs.length = n) : fillL n n (fun i => (xs.getD i 0 : Nat)) = ns xs := by
  subst h
  apply List.ext_getElem
  · simp [fillL, ns]
  · intro t h1 h2
    simp only [ns, List.length_map] at h2
    simp [fillL, ns, h2]
theorem ns_dig {xs : List Nat} (h : Dg xs) (hl : xs.length ≤ 256) : Dig (ns xs) := ⟨by rw [ns_length]; exact hl, fun i _ => by
  unfold ns
  rw [cast_getD]
  have := h.get i
  omega⟩
theorem ev_prod (xs ys : List Nat) : ev 65536 (foldL (ns xs) (ns ys)) = ((nv xs * nv ys : Nat) : Int) := by
  rw [ev_fold]
  unfold ns
  rw [ev_eq, ev_eq]
  simp
theorem prodB {xs ys : List Nat} (hx : Dg xs) (hy : Dg ys) (lx : xs.length ≤ 256) (ly : ys.length ≤ 256) (i : Nat) (hi : i < (foldL (ns xs) (ns ys)).length) : -281474976710656 ≤ (foldL (ns xs) (ns ys)).getD i 0 ∧ (foldL (ns xs) (ns ys)).getD i 0 ≤ 281474976710656 := by
  by_cases h : xs.length = 0 ∨ ys.length = 0
  · exfalso
    unfold foldL at hi
    rw [ns_length, ns_length, if_pos h] at hi
    simp at hi
  · have x0 : (ns xs).length ≠ 0 := by rw [ns_length]; omega
    have y0 : (ns ys).length ≠ 0 := by rw [ns_length]; omega
    rw [foldL_length _ _ x0 y0] at hi
    rw [foldL_get _ _ x0 y0 hi]
    have hb := conv_bound (xs := ns xs) (ys := ns ys) (B := 4294836225) (by decide) (fun i j => by
      unfold ns
      rw [cast_getD, cast_getD]
      have h1 := hx.get i; have h2 := hy.get j
      have h3 : xs.getD i 0 * ys.getD j 0 ≤ 65535 * 65535 := Nat.mul_le_mul (by omega) (by omega)
      have h4 : ((xs.getD i 0 : Nat) : Int) * ((ys.getD j 0 : Nat) : Int) = ((xs.getD i 0 * ys.getD j 0 : Nat) : Int) := by simp
      rw [h4]
      omega) i
    rw [ns_length, ns_length] at hb
    refine ⟨by have := hb.1; omega, Int.le_trans hb.2 ?_⟩
    have e1 : ((xs.length : Int) * ((ys.length : Int) * 4294836225)) = ((xs.length * ys.length : Nat) : Int) * 4294836225 := by simp [Int.mul_assoc]
    rw [e1]
    have h5 : xs.length * ys.length ≤ 256 * 256 := Nat.mul_le_mul lx ly
    generalize xs.length * ys.length = z at h5
    omega
end Go.Proofs.YtojpfmlmalmlcaaGreatDoor.G
namespace Go.Proofs.YtojpfmlmalmlcaaGreatDoor.G
open Go.RowKit
set_option maxHeartbeats 2000000 in
theorem numbers_any (A : Option Addr) (n c : Nat) (xs : List Nat) (w : World) (h : Digs w A n xs) (hn : n ≤ 1000) :
    Calls Tryz.prog 103 #[.slice A n c] w fun e w' => ∃ gl, e = .returned (.slice (some ⟨gl, 0, none⟩) n n) ∧ Ints w' (· < w'.heap.size) (some ⟨gl, 0, none⟩) n (ns xs) ∧ Below w.heap.size w w' := by
  obtain ⟨f, hf⟩ : ∃ f : Nat → Int, f = fun i => ((xs.getD i 0 : Nat) : Int) := ⟨_, rfl⟩
  obtain ⟨L, hL⟩ : ∃ L, L = intCells (fillL n 0 f) := ⟨_, rfl⟩
  have mk := make_ints n (by omega) L (by rw [hL, fillL_zero]) w
  have HF : Hid (fillL n n f = ns xs) := show _ = _ by rw [hf]; exact fill_ns xs n h.1
  have HX : Hid (∀ i, f i = ((xs.getD i 0 : Nat) : Int)) := fun i => by rw [hf]
  have H := Lib.hid h; have HL := Lib.hid hL
  clear h hL hf
  go_enter Tryz.func103, Tryz.ntmps103
  go_wp2_with fail
  have R0 : Row (w.alloc (.cells L.toArray 3)) w.heap.size 3 L := Row.new w _ _
  have B0 : Below w.heap.size w (w.alloc (.cells L.toArray 3)) := (Below.refl _ _).alloc (Nat.le_refl _) _
  rw [HL.out] at R0 B0 ⊢
  generalize w.alloc (.cells (intCells (fillL n 0 f)).toArray 3) = W at *
  obtain ⟨gl, hg⟩ : ∃ gl, gl = w.heap.size := ⟨_, rfl⟩
  have gle : w.heap.size ≤ gl := by omega
  rw [← hg] at R0 ⊢
  have HR0 := Lib.hid R0; have HB0 := Lib.hid B0; have HGL := Lib.hid gle
  clear mk hg R0 B0 HL gle
  go_loopw [11] (fun v wr => FillAt w gl n f v wr) (fun v _ => n - (intOf v).toNat)
  case atStart => exact ⟨0, by omega, rfl, HR0.out, HB0.out⟩
  case round =>
    clear HR0 HB0
    obtain ⟨i, hi, rfl, R1, B1⟩ := hrel
    by_cases hlt : i < n
    · have d1 := lt_t hlt
      have d1n := ltn_t hlt
      have i0 : (0 : Int) ≤ (i : Int) := by omega
      have iS : (i : Int) < (n : Int) := by omega
      obtain ⟨b0, o, rfl, m1, hc⟩ := H.out.2.2 (by omega)
      have x1 := (B1.cell (p := ⟨b0, o + i, none⟩) m1).trans (hc i hlt)
      have bx := H.out.2.1.get i
      have cl := (R1.cell i).trans (intCells_get _ i (by rw [fillL_length]; exact hlt))
      have fl := R1.frozen i
      have R2 := R1.set i (.int .i64 (f i))
      rw [fillL_next] at R2
      have B2 := B1.setCell (p := ⟨gl, i, none⟩) HGL.out (.int .i64 (f i))
      rw [HX.out i] at R2 B2
      generalize xs.getD i 0 = x at *
      have H2 := Lib.hid R2; have HB2 := Lib.hid B2; have HI := Lib.hid hlt
      clear R1 B1 R2 B2 hc m1 hi
      go_wp2_with fail
      go_roundw
      case rel => exact ⟨i + 1, HI.out, ret_val (by have := HI.out; omega), H2.out, HB2.out⟩
      case measure => simp [intOf]; have := HI.out; omega
    · obtain rfl : i = n := by omega
      have d1 := lt_f (Nat.le_refl i)
      have d1n := ltn_f (Nat.le_refl i)
      rw [HF.out] at R1
      have H2 := Lib.hid R1; have HB2 := Lib.hid B1
      have HL2 : Hid ((ns xs).length = i) := show _ = _ by rw [ns_length, H.out.1]
      clear R1 B1 hlt hi
      go_wp2_with fail
      go_ret
      exact ⟨gl, rfl, ints_row H2.out HL2.out, HB2.out⟩
set_option maxHeartbeats 2000000 in
theorem mul_yes (A : Option Addr) (n c : Nat) (a : Nat) (B : Option Addr) (m d : Nat) (b : Nat) (w : World) (h1 : Digs w A n (dg a)) (h2 : Digs w B m (dg b)) (ha : a < top) (hb : b < top) :
    Calls Tryz.prog 71 #[.slice A n c, .slice B m d] w fun e w' => ∃ R k, e = .returned (.slice R (dg (a * b)).length k) ∧ Digs w' R (dg (a * b)).length (dg (a * b)) ∧ Below w.heap.size w w' := by
  have c1 := Lib.hid (is_yes A n c a w h1 ha)
  have c2 := Lib.hid (is_yes B m d b w h2 hb)
  have hn : n ≤ 256 := by have := top_len ha; have := h1.1; omega
  have hm : m ≤ 256 := by have := top_len hb; have := h2.1; omega
  have c3 := Lib.hid (numbers_any A n c (dg a) w h1 (by omega))
  have c4 : Hid (∀ w1, Below w.heap.size w w1 → Calls Tryz.prog 103 #[.slice B m d] w1 fun e w' => ∃ gl, e = .returned (.slice (some ⟨gl, 0, none⟩) m m) ∧ Ints w' (· < w'.heap.size) (some ⟨gl, 0, none⟩) m (ns (dg b)) ∧ Below w1.heap.size w1 w') :=
    fun w1 B1 => numbers_any B m d (dg b) w1 (h2.below B1) (by omega)
  have hd1 : Dig (ns (dg a)) := ns_dig h1.2.1 (by rw [h1.1]; omega)
  have hd2 : Dig (ns (dg b)) := ns_dig h2.2.1 (by rw [h2.1]; omega)
  have HB : Hid (∀ i, i < (foldL (ns (dg a)) (ns (dg b))).length → -281474976710656 ≤ (foldL (ns (dg a)) (ns (dg b))).getD i 0 ∧ (foldL (ns (dg a)) (ns (dg b))).getD i 0 ≤ 281474976710656) :=
    fun i hi => prodB h1.2.1 h2.2.1 (by rw [h1.1]; omega) (by rw [h2.1]; omega) i hi
  have HE : Hid (ev 65536 (foldL (ns (dg a)) (ns (dg b))) = ((a * b : Nat) : Int)) := show _ = _ by rw [ev_prod, nv_dg, nv_dg]
  have HLn : Hid ((foldL (ns (dg a)) (ns (dg b))).length ≤ 1000) := show _ ≤ _ by
    have l1 := hd1.1; have l2 := hd2.1
    by_cases h : (ns (dg a)).length = 0 ∨ (ns (dg b)).length = 0
    · unfold foldL; rw [if_pos h]; simp
    · rw [foldL_length _ _ (by omega) (by omega)]
      omega
  generalize ns (dg a) = xs at *
  generalize ns (dg b) = ys at *
  have H1 := Lib.hid hd1; have H2 := Lib.hid hd2
  clear h1 h2 hd1 hd2 ha hb
  go_enter Tryz.func71, Tryz.ntmps71
  go_wp2_with fail
  refine c1.out.mono ?_
  rintro e v1 ⟨rfl, hw⟩; subst v1
  go_wp2_with fail
  refine c2.out.mono ?_
  rintro e v1 ⟨rfl, hw⟩; subst v1
  go_wp2_with fail
  refine c3.out.mono ?_
  rintro e w1 ⟨g1, rfl, I1, B1⟩
  have HI1 := Lib.hid I1; have HB1 := Lib.hid B1
  clear I1 B1
  go_wp2_with fail
  refine (c4.out w1 HB1.out).mono ?_
  rintro e w2 ⟨g2, rfl, I2, B2⟩
  have HI1' := Lib.hid (HI1.out.below B2)
  have HB2 := Lib.hid (HB1.out.trans (B2.mono HB1.out.size))
  have HI2 := Lib.hid I2
  have c5 := Lib.hid (fold_any _ n n xs _ m m ys w2 HI1'.out HI2.out (by omega) (by omega) true ⟨fun _ => ⟨H1.out, H2.out⟩, fun _ => rfl⟩)
  clear I2 B2 HB1 HI1
  go_wp2_with fail
  refine c5.out.mono ?_
  rintro e w3 ⟨R, k, rfl, I3, B3⟩
  simp only [if_true] at I3
  have hk := I3.1
  have c6 := Lib.hid (carried_any R k k (foldL xs ys) w3 I3 (by rw [← hk]; exact HB.out) (by rw [← hk]; exact HLn.out) (a * b) HE.out)
  have HB3 := Lib.hid (HB2.out.trans (B3.mono HB2.out.size))
  clear I3 B3 HB2 hk c5
  go_wp2_with fail
  refine c6.out.mono ?_
  rintro e w4 ⟨S, j, rfl, D, B4⟩
  have HD := Lib.hid D
  have HB4 := Lib.hid (HB3.out.trans (B4.mono HB3.out.size))
  clear D B4 HB3 c6
  go_wp2_with fail
  go_ret
  exact ⟨S, j, rfl, HD.out, HB4.out⟩
set_option maxHeartbeats 1000000 in
theorem mul_no (A : Option Addr) (n c : Nat) (xs : List Nat) (B : Option Addr) (m d : Nat) (ys : List Nat) (w : World) (h1 : Digs w A n xs) (h2 : Digs w B m ys) (hn : n ≤ 1000000000) (hm : m ≤ 1000000000) (hi : isN xs = false ∨ isN ys = false) :
    Calls Tryz.prog 71 #[.slice A n c, .slice B m d] w fun e w' => e = .returned (.slice none 0 0) ∧ w' = w := by
  have c1 := Lib.hid (is_any A n c xs w h1 (by omega))
  have c2 := Lib.hid (is_any B m d ys w h2 (by omega))
  by_cases hx : isN xs = false
  · rw [hx] at c1
    clear hi hx c2
    go_enter Tryz.func71, Tryz.ntmps71
    go_wp2_with fail
    refine c1.out.mono ?_
    rintro e v1 ⟨rfl, hw⟩; subst v1
    go_wp2_with fail
    go_ret
    exact ⟨rfl, rfl⟩
  · have hy : isN ys = false := by rcases hi with h | h; exact absurd h hx; exact h
    rw [eq_true_of_ne_false hx] at c1
    rw [hy] at c2
    clear hi hx hy
    go_enter Tryz.func71, Tryz.ntmps71
    go_wp2_with fail
    refine c1.out.mono ?_
    rintro e v1 ⟨rfl, hw⟩; subst v1
    go_wp2_with fail
    refine c2.out.mono ?_
    rintro e v1 ⟨rfl, hw⟩; subst v1
    go_wp2_with fail
    go_ret
    exact ⟨rfl, rfl⟩
end Go.Proofs.YtojpfmlmalmlcaaGreatDoor.G
namespace Go.Proofs.YtojpfmlmalmlcaaGreatDoor.G
open Go.RowKit
end Go.Proofs.YtojpfmlmalmlcaaGreatDoor.G
