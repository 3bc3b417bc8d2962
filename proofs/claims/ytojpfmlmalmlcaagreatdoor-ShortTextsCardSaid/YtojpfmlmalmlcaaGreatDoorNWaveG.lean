/-
  wave's products: rows of values, multiplied as polynomials, point by point. No condition beyond what each contract says.
  wave's joined: numbers told from values, laid over one another. No condition beyond what each contract says.
  wave's Fold: the product of two lists, or none. No condition beyond what each contract says.
-/
import Derived.Test.YtojpfmlmalmlcaaGreatDoorNWaveE
namespace Go.Proofs.YtojpfmlmalmlcaaGreatDoor.G
open Go.RowKit
/-- Number r of place s, behind i rounds and j steps. -/
def sumAt (xs ys : List Int) (M i j s r : Nat) : Int := laid (fun i j => i + j) M i j (term xs ys r) s
theorem sumAt_zero (xs ys : List Int) (M s r : Nat) : sumAt xs ys M 0 0 s r = 0 := laid_first _ _ _ _
theorem sumAt_step (xs ys : List Int) (M i j s r : Nat) : sumAt xs ys M i (j + 1) s r = sumAt xs ys M i j s r + if i + j = s then term xs ys r i j else 0 := laid_step _ _ _ _ _ _
theorem sumAt_round (xs ys : List Int) (M i s r : Nat) : sumAt xs ys M (i + 1) 0 s r = sumAt xs ys M i M s r := laid_round _ _ _ _ _
theorem prod_bound {x y : Int} (hx : 0 ≤ x ∧ x ≤ 65535) (hy : 0 ≤ y ∧ y ≤ 65535) : 0 ≤ x * y ∧ x * y ≤ 4294836225 := by
  refine ⟨Int.mul_nonneg hx.1 hy.1, ?_⟩
  have := Int.mul_le_mul hx.2 hy.2 hy.1 (by decide : (0 : Int) ≤ 65535)
  omega
theorem dig_get {xs : List Int} (hd : Dig xs) (i : Nat) : 0 ≤ xs.getD i 0 ∧ xs.getD i 0 ≤ 65535 := by
  by_cases h : i < xs.length
  · exact hd.2 i h
  · rw [getD_past (by omega)]; decide
theorem term_bound {xs ys : List Int} (hx : Dig xs) (hy : Dig ys) (r i j : Nat) : 0 ≤ term xs ys r i j ∧ term xs ys r i j ≤ 8589672450 := by
  have h0 := prod_bound (dig_get hx (2 * i)) (dig_get hy (2 * j))
  have h1 := prod_bound (dig_get hx (2 * i)) (dig_get hy (2 * j + 1))
  have h2 := prod_bound (dig_get hx (2 * i + 1)) (dig_get hy (2 * j))
  have h3 := prod_bound (dig_get hx (2 * i + 1)) (dig_get hy (2 * j + 1))
  unfold term
  repeat' split
  all_goals omega
theorem sumAt_bound {xs ys : List Int} (hx : Dig xs) (hy : Dig ys) {M i j : Nat} (hM : M ≤ 128) (hi : i ≤ 128) (hj : j ≤ 128) (s r : Nat) : 0 ≤ sumAt xs ys M i j s r ∧ sumAt xs ys M i j s r ≤ 141832671494400 := by
  have h := laid_bound (s := fun i j => i + j) (M := M) (I := i) (J := j) (t := s) (B := 8589672450) (by decide) (term_bound hx hy r)
  have h2 : i * M ≤ 128 * 128 := Nat.mul_le_mul hi hM
  refine ⟨h.1, Int.le_trans h.2 ?_⟩
  have h3 : ((i * M + j : Nat) : Int) ≤ 16512 := by omega
  generalize ((i * M + j : Nat) : Int) = z at h3
  omega
theorem sumV_bound {xs ys : List Int} (hx : Dig xs) (hy : Dig ys) {M i j : Nat} (hM : M ≤ 128) (hi : i ≤ 128) (hj : j ≤ 128) (s k : Nat) : Fit (vr k (sumAt xs ys M i j s)) ∧ Fit (vi k (sumAt xs ys M i j s)) := by
  have h := v_bound (k := k) (fun r => sumAt_bound hx hy hM hi hj s r)
  unfold Fit
  omega
theorem pt_small {xs : List Int} (hd : Dig xs) (i k : Nat) : Small (vr k (pt xs i)) ∧ Small (vi k (pt xs i)) := by
  have h := v_bound (k := k) (fun r => pt_bound xs hd i r)
  unfold Small
  omega
theorem Quads.cong {zs : List (Nat × Nat)} {m : Nat} {p q p' q' : Nat → Nat → Int} (h : Quads zs m p q) (e : ∀ i k, i < m → k < 4 → p i k = p' i k ∧ q i k = q' i k) : Quads zs m p' q' :=
  ⟨h.1, fun i k hi hk => ⟨(h.2 i k hi hk).1.cast (e i k hi hk).1, (h.2 i k hi hk).2.cast (e i k hi hk).2⟩⟩
theorem Quads.set {zs : List (Nat × Nat)} {m : Nat} {p q p' q' : Nat → Nat → Int} (h : Quads zs m p q) {s c : Nat} (_hs : s < m) (hc : c < 4) {z : Nat × Nat} (h1 : Whole z.1 (p' s c)) (h2 : Whole z.2 (q' s c))
    (e : ∀ i k, i < m → k < 4 → ¬ (i = s ∧ k = c) → p i k = p' i k ∧ q i k = q' i k) : Quads (zs.set (s * 4 + c) z) m p' q' := by
  refine ⟨by simp [h.1], fun i k hi hk => ?_⟩
  by_cases hik : i = s ∧ k = c
  · obtain ⟨rfl, rfl⟩ := hik
    have : (zs.set (i * 4 + k) z).getD (i * 4 + k) (0, 0) = z := by
      have hl := h.1
      simp [List.getD, show i * 4 + k < zs.length by omega]
    rw [this]
    exact ⟨h1, h2⟩
  · have : (zs.set (s * 4 + c) z).getD (i * 4 + k) (0, 0) = zs.getD (i * 4 + k) (0, 0) := by
      simp [List.getD, show s * 4 + c ≠ i * 4 + k by omega]
    rw [this]
    obtain ⟨e1, e2⟩ := e i k hi hk hik
    exact ⟨(h.2 i k hi hk).1.cast e1, (h.2 i k hi hk).2.cast e2⟩
theorem cx_set (zs : List (Nat × Nat)) (c : Nat) (z : Nat × Nat) : (cx zs).set c (.complex .f64 z.1 z.2) = cx (zs.set c z) := by simp [cx, List.map_set]
/-- Inside a step: the first k points have been brought up. -/
def inV (v : Nat → (Nat → Int) → Int) (xs ys : List Int) (M i j k : Nat) : Nat → Nat → Int := fun s c => if s = i + j ∧ c < k then v c (sumAt xs ys M i (j + 1) s) else v c (sumAt xs ys M i j s)
theorem inV_zero (v : Nat → (Nat → Int) → Int) (xs ys : List Int) (M i j s c : Nat) : v c (sumAt xs ys M i j s) = inV v xs ys M i j 0 s c := by
  unfold inV; rw [if_neg (by omega)]
set_option maxRecDepth 100000 in
theorem inV_four (v : Nat → (Nat → Int) → Int) (xs ys : List Int) (M i j s c : Nat) (hc : c < 4) : inV v xs ys M i j 4 s c = v c (sumAt xs ys M i (j + 1) s) := by
  unfold inV
  by_cases h : s = i + j
  · rw [if_pos ⟨h, hc⟩]
  · rw [if_neg (by omega)]
    congr 1
    funext r
    rw [sumAt_step, if_neg (by omega), Int.add_zero]
theorem inV_other (v : Nat → (Nat → Int) → Int) (xs ys : List Int) (M i j k s c : Nat) (h : ¬ (s = i + j ∧ c = k)) : inV v xs ys M i j k s c = inV v xs ys M i j (k + 1) s c := by
  unfold inV
  by_cases h1 : s = i + j ∧ c < k
  · rw [if_pos h1, if_pos (by omega)]
  · rw [if_neg h1, if_neg (by omega)]
theorem inV_old (v : Nat → (Nat → Int) → Int) (xs ys : List Int) (M i j k : Nat) : inV v xs ys M i j k (i + j) k = v k (sumAt xs ys M i j (i + j)) := by
  unfold inV; rw [if_neg (by omega)]
theorem inV_new (v : Nat → (Nat → Int) → Int) (xs ys : List Int) (M i j k : Nat) : inV v xs ys M i j (k + 1) (i + j) k = v k (sumAt xs ys M i (j + 1) (i + j)) := by
  unfold inV; rw [if_pos (by omega)]
theorem sum_add {xs ys : List Int} {M i j k : Nat} (hk : k < 4) :
    vr k (sumAt xs ys M i j (i + j)) + (vr k (pt xs i) * vr k (pt ys j) - vi k (pt xs i) * vi k (pt ys j)) = vr k (sumAt xs ys M i (j + 1) (i + j)) ∧
    vi k (sumAt xs ys M i j (i + j)) + (vr k (pt xs i) * vi k (pt ys j) + vi k (pt xs i) * vr k (pt ys j)) = vi k (sumAt xs ys M i (j + 1) (i + j)) := by
  obtain ⟨e1, e2⟩ := value_times xs ys i j hk (pt xs i) (pt ys j) (fun _ => rfl) (fun _ => rfl)
  have e3 : sumAt xs ys M i (j + 1) (i + j) = fun r => sumAt xs ys M i j (i + j) r + term xs ys r i j := by
    funext r; rw [sumAt_step, if_pos rfl]
  rw [e1, e2, e3, vr_add, vi_add]
  exact ⟨rfl, rfl⟩
theorem inV_old' (v : Nat → (Nat → Int) → Int) (xs ys : List Int) (M i j k : Nat) {s : Nat} (h : s = i + j) : inV v xs ys M i j k s k = v k (sumAt xs ys M i j s) := by subst h; exact inV_old _ _ _ _ _ _ _
theorem inV_new' (v : Nat → (Nat → Int) → Int) (xs ys : List Int) (M i j k : Nat) {s : Nat} (h : s = i + j) : inV v xs ys M i j (k + 1) s k = v k (sumAt xs ys M i (j + 1) s) := by subst h; exact inV_new _ _ _ _ _ _ _
theorem inV_other' (v : Nat → (Nat → Int) → Int) (xs ys : List Int) (M i j k s c : Nat) {s' : Nat} (e : s' = i + j) (h : ¬ (s = s' ∧ c = k)) : inV v xs ys M i j k s c = inV v xs ys M i j (k + 1) s c := by subst e; exact inV_other _ _ _ _ _ _ _ _ _ h
/-- The three loops. -/
def ProdI (w : World) (gs S M : Nat) (xs ys : List Int) (N : Nat) (v : Value) (wr : World) : Prop :=
  ∃ (i : Nat) (zs : List (Nat × Nat)), i ≤ N ∧ v = .int .i64 (i : Int) ∧ Row wr gs 164 (cx zs) ∧ Below w.heap.size w wr ∧ Quads zs S (fun s k => vr k (sumAt xs ys M i 0 s)) (fun s k => vi k (sumAt xs ys M i 0 s))
def ProdJ (w : World) (gs S M : Nat) (xs ys : List Int) (i : Nat) (v : Value) (wr : World) : Prop :=
  ∃ (j : Nat) (zs : List (Nat × Nat)), j ≤ M ∧ v = .int .i64 (j : Int) ∧ Row wr gs 164 (cx zs) ∧ Below w.heap.size w wr ∧ Quads zs S (fun s k => vr k (sumAt xs ys M i j s)) (fun s k => vi k (sumAt xs ys M i j s))
def ProdK (w : World) (gs S M : Nat) (xs ys : List Int) (i j : Nat) (v : Value) (wr : World) : Prop :=
  ∃ (k : Nat) (zs : List (Nat × Nat)), k ≤ 4 ∧ v = .int .i64 (k : Int) ∧ Row wr gs 164 (cx zs) ∧ Below w.heap.size w wr ∧ Quads zs S (inV vr xs ys M i j k) (inV vi xs ys M i j k)
set_option maxRecDepth 100000 in
set_option maxHeartbeats 4000000 in
theorem products_any (ga gb N M S : Nat) (za zb : List (Nat × Nat)) (xs ys : List Int) (w : World) (Ra : Row w ga 164 (cx za)) (Rb : Row w gb 164 (cx zb))
    (Qa : Quads za N (fun i k => vr k (pt xs i)) (fun i k => vi k (pt xs i))) (Qb : Quads zb M (fun i k => vr k (pt ys i)) (fun i k => vi k (pt ys i))) (hx : Dig xs) (hy : Dig ys) (hN : N ≤ 128) (hM : M ≤ 128) (N0 : 0 < N) (M0 : 0 < M) (hS : S = N + M - 1) :
    Calls Tryz.prog 130 #[.slice (some ⟨ga, 0, none⟩) N N, .slice (some ⟨gb, 0, none⟩) M M] w fun e w' => ∃ gs zs, e = .returned (.slice (some ⟨gs, 0, none⟩) S S) ∧ w.heap.size ≤ gs ∧ Row w' gs 164 (cx zs) ∧
      Quads zs S (fun s k => vr k (sumAt xs ys M N 0 s)) (fun s k => vi k (sumAt xs ys M N 0 s)) ∧ Below w.heap.size w w' := by
  have a3 : (N : Int) + (M : Int) - 1 = (S : Int) := by omega
  obtain ⟨L, hL⟩ : ∃ L, L = List.replicate (S * 4) (Value.complex .f64 0 0) := ⟨_, rfl⟩
  have mk := make_four S (by omega) L hL w
  rw [← a3] at mk
  have HA := Lib.hid Ra; have HB := Lib.hid Rb; have HQA := Lib.hid Qa; have HQB := Lib.hid Qb; have HX := Lib.hid hx; have HY := Lib.hid hy; have HS := Lib.hid hS; have HL := Lib.hid hL
  clear Ra Rb Qa Qb hx hy a3 hL hS
  go_enter Tryz.func130, Tryz.ntmps130
  go_wp2_with fail
  have R0 : Row (w.alloc (.cells L.toArray 164)) w.heap.size 164 L := Row.new w _ _
  have B0 : Below w.heap.size w (w.alloc (.cells L.toArray 164)) := (Below.refl _ _).alloc (Nat.le_refl _) _
  have Q0 : Hid (Quads (List.replicate (S * 4) (0, 0)) S (fun s k => vr k (sumAt xs ys M 0 0 s)) (fun s k => vi k (sumAt xs ys M 0 0 s))) := by
    refine ⟨by simp, fun i k hi hk => ?_⟩
    have e : (List.replicate (S * 4) ((0 : Nat), (0 : Nat))).getD (i * 4 + k) (0, 0) = (0, 0) := by simp [List.getD, show i * 4 + k < S * 4 by omega]
    rw [e]
    have z : sumAt xs ys M 0 0 i = fun _ => 0 := by funext r; exact sumAt_zero _ _ _ _ _
    show Whole 0 (vr k (sumAt xs ys M 0 0 i)) ∧ Whole 0 (vi k (sumAt xs ys M 0 0 i))
    rw [z]
    exact ⟨whole_0.cast (by simp [vr]), whole_0.cast (by simp [vi])⟩
  have eL : L = cx (List.replicate (S * 4) (0, 0)) := by rw [HL.out]; simp [cx]
  rw [eL] at R0 B0 ⊢
  generalize w.alloc (.cells (cx (List.replicate (S * 4) (0, 0))).toArray 164) = W at *
  have ne1 : ga ≠ w.heap.size := by have := HA.out.lt; omega
  have ne2 : gb ≠ w.heap.size := by have := HB.out.lt; omega
  have la : ga < w.heap.size := HA.out.lt
  have lb : gb < w.heap.size := HB.out.lt
  obtain ⟨gs, hg⟩ : ∃ gs, gs = w.heap.size := ⟨_, rfl⟩
  have gl : w.heap.size ≤ gs := by omega
  rw [← hg] at R0 ne1 ne2 ⊢
  have HR0 := Lib.hid R0; have HB0 := Lib.hid B0; have HLA := Lib.hid la; have HLB := Lib.hid lb; have HGL := Lib.hid gl
  clear mk hg R0 B0 eL HL la lb gl
  go_loopw [19] (fun v wr => ProdI w gs S M xs ys N v wr) (fun v _ => N - (intOf v).toNat)
  case atStart => exact ⟨0, _, by omega, rfl, HR0.out, HB0.out, Q0.out⟩
  case round =>
    clear HR0 HB0 Q0
    obtain ⟨i, zs, hi, rfl, R1, B1, Q1⟩ := hrel
    have HR1 := Lib.hid R1; have HB1 := Lib.hid B1; have HQ1 := Lib.hid Q1
    clear R1 B1 Q1
    by_cases hlt : i < N
    · have d1 : decide ((i : Int) < (N : Int)) = true := by simp; omega
      have d1n : decide (i < N) = true := by simp; omega
      go_wp2_with fail
      obtain ⟨wi, rfl⟩ : ∃ wi, wi = wr := ⟨_, rfl⟩
      go_loopw [24] (fun v wr => ProdJ w gs S M xs ys i v wr) (fun v _ => M - (intOf v).toNat)
      case atStart => exact ⟨0, zs, by omega, rfl, HR1.out, HB1.out, HQ1.out⟩
      case round =>
        clear HR1 HB1 HQ1
        obtain ⟨j, zj, hj, rfl, R2, B2, Q2⟩ := hrel
        have HR2 := Lib.hid R2; have HB2 := Lib.hid B2; have HQ2 := Lib.hid Q2
        clear R2 B2 Q2
        by_cases hjl : j < M
        · have d2 : decide ((j : Int) < (M : Int)) = true := by simp; omega
          have d2n : decide (j < M) = true := by simp; omega
          obtain ⟨s, hs⟩ : ∃ s, s = i + j := ⟨_, rfl⟩
          have s1 : (i : Int) + (j : Int) = (s : Int) := by omega
          have s2 : (s : Int) < (S : Int) := by have := HS.out; omega
          have s3 : wrap64 (s : Int) = (s : Int) := by unfold wrap64; omega
          have s4 : (0 : Int) ≤ (s : Int) := by omega
          have s5 : wrap64 ((i : Int) + (j : Int)) = (s : Int) := by unfold wrap64; omega
          have HSS := Lib.hid hs
          clear hs
          go_wp2_with fail
          obtain ⟨wj, rfl⟩ : ∃ wj, wj = wr := ⟨_, rfl⟩
          go_loopw [32] (fun v wr => ProdK w gs S M xs ys i j v wr) (fun v _ => 4 - (intOf v).toNat)
          case atStart => exact ⟨0, zj, by omega, rfl, HR2.out, HB2.out, HQ2.out.cong (fun s k _ _ => ⟨inV_zero vr _ _ _ _ _ _ _, inV_zero vi _ _ _ _ _ _ _⟩)⟩
          case round =>
            clear HR2 HB2 HQ2
            obtain ⟨k, zk, hk, rfl, R3, B3, Q3⟩ := hrel
            by_cases hkl : k < 4
            · have d3 : decide ((k : Int) < 4) = true := by simp; omega
              have k0 : (0 : Int) ≤ (k : Int) := by omega
              have k4 : (k : Int) < 4 := by omega
              have i0 : (0 : Int) ≤ (i : Int) := by omega
              have iN : (i : Int) < (N : Int) := by omega
              have j0 : (0 : Int) ≤ (j : Int) := by omega
              have jM : (j : Int) < (M : Int) := by omega
              have sS : s < S := by omega
              have es := HSS.out
              have qa := HQA.out.2 i k hlt hkl
              have qb := HQB.out.2 j k hjl hkl
              have qs := Q3.2 s k sS hkl
              have ca := ((HA.out.keep_at B3 HLA.out).cell (i * 4 + k)).trans (cx_get za _ (by rw [HQA.out.1]; omega))
              have cb := ((HB.out.keep_at B3 HLB.out).cell (j * 4 + k)).trans (cx_get zb _ (by rw [HQB.out.1]; omega))
              have cs := (R3.cell (s * 4 + k)).trans (cx_get zk _ (by rw [Q3.1]; omega))
              obtain ⟨p1, p2⟩ := pt_small HX.out i k
              obtain ⟨p3, p4⟩ := pt_small HY.out j k
              obtain ⟨re, im, cT, w1, w2⟩ := times_any qa.1 qa.2 qb.1 qb.2 p1 p2 p3 p4
              obtain ⟨t1, t2⟩ := sum_add (xs := xs) (ys := ys) (M := M) (i := i) (j := j) hkl
              rw [← es] at t1 t2
              obtain ⟨f1, f2⟩ := sumV_bound HX.out HY.out hM (show i ≤ 128 by omega) (show j + 1 ≤ 128 by omega) s k
              rw [inV_old' vr _ _ _ _ _ _ es, inV_old' vi _ _ _ _ _ _ es] at qs
              obtain ⟨nr, ni, hadd, w3, w4⟩ := qs.1.csum qs.2 w1 w2 (by rw [t1]; have := f1.1; have := f1.2; omega) (by rw [t2]; have := f2.1; have := f2.2; omega)
              rw [t1] at w3
              rw [t2] at w4
              have add' : ∀ w, (binOp .add 163 (.complex .f64 (zk.getD (s * 4 + k) (0, 0)).1 (zk.getD (s * 4 + k) (0, 0)).2) (.complex .f64 re im)).run Tryz.prog w = .ok (.complex .f64 nr ni) w := fun w => hadd w
              have Q4 := Q3.set (z := (nr, ni)) sS hkl (p' := inV vr xs ys M i j (k + 1)) (q' := inV vi xs ys M i j (k + 1)) (by rw [inV_new' vr _ _ _ _ _ _ es]; exact w3) (by rw [inV_new' vi _ _ _ _ _ _ es]; exact w4) (fun s' k' _ _ hne => ⟨inV_other' vr _ _ _ _ _ _ _ _ es hne, inV_other' vi _ _ _ _ _ _ _ _ es hne⟩)
              have R4 := R3.drew.set (s * 4 + k) (.complex .f64 nr ni)
              rw [cx_set zk _ (nr, ni)] at R4
              have B4 := B3.drew.setCell (p := ⟨gs, s * 4 + k, none⟩) HGL.out (.complex .f64 nr ni)
              have c4 : wr.drew.cell? ⟨gs, s * 4 + k, none⟩ = some (.complex .f64 (zk.getD (s * 4 + k) (0, 0)).1 (zk.getD (s * 4 + k) (0, 0)).2) := cs
              have f4 : wr.drew.frozen? ⟨gs, s * 4 + k, none⟩ = false := R3.drew.frozen _
              have st := store_cx ⟨gs, s * 4 + k, none⟩
              have CT := Lib.hid cT
              have HQ4 := Lib.hid Q4; have HR4 := Lib.hid R4; have HB4 := Lib.hid B4
              have HK := Lib.hid hkl
              clear Q4 R4 B4 cT hadd w1 w2 w3 w4 t1 t2 f1 f2 p1 p2 p3 p4 qa qb qs Q3 R3 B3 sS hkl HA HB HQA HQB HX HY es s1 s2 s3 s4 s5 d1 d1n d2 d2n
              generalize (za.getD (i * 4 + k) (0, 0)) = zA at *
              generalize (zb.getD (j * 4 + k) (0, 0)) = zB at *
              generalize (zk.getD (s * 4 + k) (0, 0)) = zC at *
              generalize zk.set (s * 4 + k) (nr, ni) = zn at *
              go_wp2_with fail
              go_still_tail 21, (by kernel_rfl)
              still_call (CT.out _)
              repeat still_step
              refine wpStill_nil ?_
              change wpList _ _ _ _ _ wr.drew
              generalize wr.drew = wd at *
              clear ca cb cs add' CT i0 iN j0 jM k0 k4 d3 hlt hjl hi hj
              go_wp2_with fail
              go_roundw
              case rel => exact ⟨k + 1, zn, HK.out, ret_val (by have := HK.out; omega), HR4.out, HB4.out, HQ4.out⟩
              case measure => simp [intOf]; have := HK.out; omega
            · obtain rfl : k = 4 := by omega
              have HQ4 := Lib.hid (Q3.cong (p' := fun s k => vr k (sumAt xs ys M i (j + 1) s)) (q' := fun s k => vi k (sumAt xs ys M i (j + 1) s)) (fun s c _ hc => ⟨inV_four vr _ _ _ _ _ _ _ hc, inV_four vi _ _ _ _ _ _ _ hc⟩))
              have HR3 := Lib.hid R3; have HB3 := Lib.hid B3; have HJ := Lib.hid hjl
              clear Q3 R3 B3 hkl s1 s2 s3 s4 s5 hk
              go_wp2_with fail
              go_roundw
              case rel => exact ⟨j + 1, zk, HJ.out, ret_val (by have := HJ.out; omega), HR3.out, HB3.out, HQ4.out⟩
              case measure => simp [intOf]; have := HJ.out; omega
        · obtain rfl : j = M := by omega
          have d2 : decide ((j : Int) < (j : Int)) = false := by simp
          have HQ3 : Hid (Quads zj S (fun s k => vr k (sumAt xs ys j (i + 1) 0 s)) (fun s k => vi k (sumAt xs ys j (i + 1) 0 s))) := by
            have e : ∀ s, sumAt xs ys j i j s = sumAt xs ys j (i + 1) 0 s := fun s => by funext r; rw [sumAt_round]
            exact HQ2.out.cong (fun s k _ _ => ⟨by rw [e], by rw [e]⟩)
          have HI := Lib.hid hlt
          clear HQ2 hjl hj
          go_wp2_with fail
          go_roundw
          case rel => exact ⟨i + 1, zj, HI.out, ret_val (by have := HI.out; omega), HR2.out, HB2.out, HQ3.out⟩
          case measure => simp [intOf]; have := HI.out; omega
    · obtain rfl : i = N := by omega
      have d1 : decide ((i : Int) < (i : Int)) = false := by simp
      clear hlt hi
      go_wp2_with fail
      go_ret
      exact ⟨gs, zs, rfl, HGL.out, HR1.out, HQ1.out, HB1.out⟩
end Go.Proofs.YtojpfmlmalmlcaaGreatDoor.G
namespace Go.Proofs.YtojpfmlmalmlcaaGreatDoor.G
open Go.RowKit
/-- The list behind i rounds and j steps. -/
def lay (n : Nat) (c : Nat → Nat → Int) (i j : Nat) : List Int := (List.range n).map (laid (fun s j => 2 * s + j) 4 i j c)
theorem lay_length (n : Nat) (c : Nat → Nat → Int) (i j : Nat) : (lay n c i j).length = n := by simp [lay]
theorem lay_get (n : Nat) (c : Nat → Nat → Int) (i j t : Nat) (h : t < n) : (lay n c i j).getD t 0 = laid (fun s j => 2 * s + j) 4 i j c t := by simp [lay, List.getD, h]
theorem lay_zero (n : Nat) (c : Nat → Nat → Int) : lay n c 0 0 = List.replicate n 0 := by
  apply List.ext_getElem
  · simp [lay]
  · intro t h1 h2
    simp [lay, laid_first]
set_option maxRecDepth 100000 in
theorem lay_round (n : Nat) (c : Nat → Nat → Int) (i : Nat) : lay n c i 4 = lay n c (i + 1) 0 := by
  unfold lay
  congr 1
  funext t
  rw [laid_round]
theorem lay_past (n : Nat) (c : Nat → Nat → Int) (i j : Nat) (h : n ≤ 2 * i + j) : lay n c i j = lay n c i (j + 1) := by
  apply List.ext_getElem
  · simp [lay]
  · intro t h1 h2
    simp only [lay, List.length_map, List.length_range] at h1
    simp only [lay, List.getElem_map, List.getElem_range]
    rw [laid_step, if_neg (by omega), Int.add_zero]
theorem lay_next (n : Nat) (c : Nat → Nat → Int) (i j : Nat) : (intCells (lay n c i j)).set (2 * i + j) (.int .i64 ((lay n c i j).getD (2 * i + j) 0 + c i j)) = intCells (lay n c i (j + 1)) := by
  apply List.ext_getElem
  · simp [lay, intCells]
  · intro t h1 h2
    simp only [lay, intCells, List.length_map, List.length_range] at h2
    rw [List.getElem_set]
    by_cases h : 2 * i + j = t
    · subst h
      rw [if_pos rfl]
      simp only [intCells, List.getElem_map]
      rw [lay_get _ _ _ _ _ h2]
      simp only [lay, List.getElem_map, List.getElem_range]
      rw [laid_step, if_pos rfl]
    · rw [if_neg h]
      simp only [intCells, lay, List.getElem_map, List.getElem_range]
      rw [laid_step, if_neg h, Int.add_zero]
theorem intCells_get (l : List Int) (t : Nat) (h : t < l.length) : (intCells l)[t]? = some (.int .i64 (l.getD t 0)) := by simp [intCells, List.getD, h]
theorem intCells_length (l : List Int) : (intCells l).length = l.length := by simp [intCells]
set_option maxRecDepth 100000 in
/-- A slice of so many numbers, all 0. -/
theorem make_ints (n : Nat) (hn : n ≤ 1000000) (L : List Value) (hL : L = intCells (List.replicate n 0)) (w : World) : (Instr.makeSlice 113 (.int .i64 (n : Int)) (.int .i64 (n : Int))).run Tryz.prog w = .ok (.slice (some ⟨w.heap.size, 0, none⟩) n n) (w.alloc (.cells L.toArray 3)) := by
  subst hL
  obtain ⟨i, hi, hz, hs, hb⟩ := info_parts (P := Tryz.prog) (e := 3) (z := .int .i64 0) (size := 1) (bytes := 8) (by kernel_rfl)
  have h := run_makeSlice (P := Tryz.prog) w 113 3 i _ Tryz.underlying113 hi hz .i64 .i64 (n : Int) (n : Int) (by omega) (by omega) (by rw [hs]; simp; omega) (by rw [hb]; omega) (by omega)
  rw [h, hs]
  congr 3
  rw [Int.toNat_natCast]
  apply Array.ext
  · simp [madeCells, intCells]
  · intro c c1 c2
    simp only [madeCells, Array.getElem_map, Array.getElem_range, Value.cells]
    rw [show (#[.int .i64 0] : Array Value).size = 1 from rfl, Nat.mod_one]
    simp [intCells]
/-- What Back tells of the values of c. -/
theorem back_are (c : Nat → Int) (h3 : c 3 = 0) (hb : ∀ r, 0 ≤ c r ∧ c r ≤ 141832671494400) : Are (quarters (tr (-1) (fun k => vr k c) (fun k => vi k c)) (ti (-1) (fun k => vr k c) (fun k => vi k c)) 4) c (fun _ => 0) := by
  refine ⟨quarters_length _ _ _, fun k hk => ?_⟩
  obtain ⟨e1, e2⟩ := value_back h3 hk
  rw [quarters_get _ _ _ _ hk, if_pos hk, e1, e2]
  have := hb k
  have e : 4 * c k / 4 = c k := by omega
  show Whole (floatOfInt .f64 (4 * c k / 4)) (c k) ∧ Whole (floatOfInt .f64 (0 / 4)) 0
  rw [e]
  exact ⟨whole_of_int _ (by omega), whole_of_int _ (by decide)⟩
theorem v_fit (c : Nat → Int) (hb : ∀ r, 0 ≤ c r ∧ c r ≤ 141832671494400) (k : Nat) : Fit (vr k c) ∧ Fit (vi k c) := by
  have h := v_bound (k := k) hb
  unfold Fit
  omega
theorem lay_bound {n : Nat} {c : Nat → Nat → Int} (hb : ∀ s r, 0 ≤ c s r ∧ c s r ≤ 141832671494400) {i j : Nat} (hi : i ≤ 255) (hj : j ≤ 4) (t : Nat) (ht : t < n) : 0 ≤ (lay n c i j).getD t 0 ∧ (lay n c i j).getD t 0 ≤ 145236655610265600 := by
  rw [lay_get _ _ _ _ _ ht]
  have h := laid_bound (s := fun s j => 2 * s + j) (M := 4) (I := i) (J := j) (t := t) (B := 141832671494400) (by decide) hb
  refine ⟨h.1, Int.le_trans h.2 ?_⟩
  have h3 : ((i * 4 + j : Nat) : Int) ≤ 1024 := by omega
  generalize ((i * 4 + j : Nat) : Int) = z at h3
  omega
/-- The two loops. -/
def JoinI (w : World) (gl n S : Nat) (c : Nat → Nat → Int) (v : Value) (wr : World) : Prop :=
  ∃ i : Nat, i ≤ S ∧ v = .int .i64 (i : Int) ∧ Row wr gl 3 (intCells (lay n c i 0)) ∧ Below w.heap.size w wr
def JoinJ (w : World) (gl n i : Nat) (c : Nat → Nat → Int) (v : Value) (wr : World) : Prop :=
  ∃ j : Nat, j ≤ 4 ∧ v = .int .i64 (j : Int) ∧ Row wr gl 3 (intCells (lay n c i j)) ∧ Below w.heap.size w wr
set_option maxHeartbeats 4000000 in
theorem joined_any (gs S n : Nat) (zs : List (Nat × Nat)) (c : Nat → Nat → Int) (w : World) (R : Row w gs 164 (cx zs)) (Q : Quads zs S (fun s k => vr k (c s)) (fun s k => vi k (c s)))
    (hb : ∀ s r, 0 ≤ c s r ∧ c s r ≤ 141832671494400) (h3 : ∀ s, c s 3 = 0) (hS : S ≤ 255) (hn : n ≤ 511) :
    Calls Tryz.prog 129 #[.slice (some ⟨gs, 0, none⟩) S S, .int .i64 (n : Int)] w fun e w' => ∃ gl, e = .returned (.slice (some ⟨gl, 0, none⟩) n n) ∧ w.heap.size ≤ gl ∧ Row w' gl 3 (intCells (lay n c S 0)) ∧ Below w.heap.size w w' := by
  obtain ⟨L, hL⟩ : ∃ L, L = intCells (lay n c 0 0) := ⟨_, rfl⟩
  have mk := make_ints n (by omega) L (by rw [hL, lay_zero]) w
  have HR := Lib.hid R; have HQ := Lib.hid Q; have HB := Lib.hid hb; have H3 := Lib.hid h3; have HL := Lib.hid hL
  clear R Q hb h3 hL
  go_enter Tryz.func129, Tryz.ntmps129
  go_wp2_with fail
  have R0 : Row (w.alloc (.cells L.toArray 3)) w.heap.size 3 L := Row.new w _ _
  have B0 : Below w.heap.size w (w.alloc (.cells L.toArray 3)) := (Below.refl _ _).alloc (Nat.le_refl _) _
  rw [HL.out] at R0 B0 ⊢
  generalize w.alloc (.cells (intCells (lay n c 0 0)).toArray 3) = W at *
  have ls : gs < w.heap.size := HR.out.lt
  obtain ⟨gl, hg⟩ : ∃ gl, gl = w.heap.size := ⟨_, rfl⟩
  have gle : w.heap.size ≤ gl := by omega
  rw [← hg] at R0 ⊢
  have HR0 := Lib.hid R0; have HB0 := Lib.hid B0; have HLS := Lib.hid ls; have HGL := Lib.hid gle
  clear mk hg R0 B0 HL ls gle
  go_loopw [20] (fun v wr => JoinI w gl n S c v wr) (fun v _ => S - (intOf v).toNat)
  case atStart => exact ⟨0, by omega, rfl, HR0.out, HB0.out⟩
  case round =>
    clear HR0 HB0
    obtain ⟨i, hi, rfl, R1, B1⟩ := hrel
    by_cases hlt : i < S
    · have d1 : decide ((i : Int) < (S : Int)) = true := by simp; omega
      have d1n : decide (i < S) = true := by simp; omega
      have i0 : (0 : Int) ≤ (i : Int) := by omega
      have iS : (i : Int) < (S : Int) := by omega
      obtain ⟨Z, hZ⟩ : ∃ Z, Z = (zs.drop (i * 4)).take 4 := ⟨_, rfl⟩
      have hzl := HQ.out.1
      have hZl : Z.length = 4 := by rw [hZ]; simp [hzl]; omega
      have hZc : cx Z = ((cx zs).drop (i * 4)).take 4 := by rw [hZ]; simp [cx, List.map_take, List.map_drop]
      have hA : Are Z (fun k => vr k (c i)) (fun k => vi k (c i)) := by
        refine ⟨hZl, fun k hk => ?_⟩
        have e : Z.getD k (0, 0) = zs.getD (i * 4 + k) (0, 0) := by
          rw [hZ]
          simp [List.getD, hk, List.getElem?_drop]
        rw [e]
        exact HQ.out.2 i k hlt hk
      have cB := back_any hA (fun k _ => v_fit (c i) (HB.out i) k) true ⟨fun _ k hk => by
        obtain ⟨e1, e2⟩ := value_back (H3.out i) hk
        rw [e1, e2]; omega, fun _ => rfl⟩
      have hV := back_are (c i) (H3.out i) (HB.out i)
      simp only [if_true] at cB
      generalize quarters (tr (-1) (fun k => vr k (c i)) (fun k => vi k (c i))) (ti (-1) (fun k => vr k (c i)) (fun k => vi k (c i))) 4 = V at cB hV
      have RS := HR.out.keep_at B1 HLS.out
      have H1 : Hid (wr.rangeAt gs (i * 4) (cx Z)) := by rw [hZc]; exact RS.range (i * 4) 4
      have hsz := Lib.hid (size_four (cx Z) (by rw [cx_length, hZl]))
      have hsm : Hid ((Tryz.prog.info? 164).map (·.size) = some (cx Z).toArray.size) := by show _ = _; rw [List.size_toArray]; exact hsz.out
      have one := Lib.hid (all_oneCell_toArray (cx_one Z))
      have N1 : Row (wr.alloc (Obj.cells #[.complex .f64 0 0, .complex .f64 0 0, .complex .f64 0 0, .complex .f64 0 0] 164)) wr.heap.size 164 (cx noughts) := Row.new wr _ (cx noughts)
      have th : Hid ((wr.alloc (Obj.cells #[.complex .f64 0 0, .complex .f64 0 0, .complex .f64 0 0, .complex .f64 0 0] 164)).there wr.heap.size 0 (cx Z).toArray.size) := N1.there 0 _ (by rw [List.size_toArray, cx_length, hZl]; decide)
      have N2 : Row ((wr.alloc (Obj.cells #[.complex .f64 0 0, .complex .f64 0 0, .complex .f64 0 0, .complex .f64 0 0] 164)).setCells wr.heap.size 0 (cx Z).toArray.toList) wr.heap.size 164 (cx Z) := put_all (by rw [cx_length, hZl]) N1
      have ne : gl ≠ wr.heap.size := by have := R1.lt; omega
      have R2 : Row ((wr.alloc (Obj.cells #[.complex .f64 0 0, .complex .f64 0 0, .complex .f64 0 0, .complex .f64 0 0] 164)).setCells wr.heap.size 0 (cx Z).toArray.toList) gl 3 (intCells (lay n c i 0)) := (R1.past _).puts_other ne 0 _
      have B2 := below_puts (b := wr.heap.size) (B1.alloc B1.size (Obj.cells #[.complex .f64 0 0, .complex .f64 0 0, .complex .f64 0 0, .complex .f64 0 0] 164)) B1.size 0 (cx Z).toArray.toList
      have H2 := Lib.hid N2.all
      have HR2 := Lib.hid R2
      have HB2 := Lib.hid B2
      have CB := Lib.hid cB
      have HV := Lib.hid hV
      have HI := Lib.hid hlt
      clear cB hV N1 N2 R2 B2 R1 B1 RS hZ hZc ne hZl hA hzl hlt hi
      generalize cx Z = P at *
      go_wp2_with (first | (refine wpList_load_mid rfl 164 (.tmp 23) rfl gs (i * 4) rfl P _ H1.out Tryz.underlying164 rfl hsz.out ?_) | (refine wpList_store_mid rfl 164 (.tmp 7) (.tmp 24) rfl wr.heap.size 0 P.toArray rfl rfl th.out hsm.out one.out ?_) | (refine wpList_load_mid rfl 164 (.tmp 7) rfl wr.heap.size 0 rfl P _ H2.out Tryz.underlying164 rfl hsz.out ?_))
      refine (CB.out _).mono ?_
      rintro e w3 ⟨rfl, B3⟩
      have R3 := HR2.out.keep B3
      have B4 := HB2.out.trans (B3.mono HB2.out.size)
      have hvl := HV.out.1
      have hc : Hid (∀ k, k < 4 → (cx V)[k]? = some (.complex .f64 (V.getD k (0, 0)).1 (V.getD k (0, 0)).2)) := fun k hk => cx_get V k (by rw [hvl]; exact hk)
      have hs3 := Lib.hid (size_four (cx V) (by rw [cx_length, hvl]))
      have hm3 : Hid ((Tryz.prog.info? 164).map (·.size) = some (cx V).toArray.size) := by show _ = _; rw [List.size_toArray]; exact hs3.out
      have one3 := Lib.hid (all_oneCell_toArray (cx_one V))
      have N1 : Row (w3.alloc (Obj.cells #[.complex .f64 0 0, .complex .f64 0 0, .complex .f64 0 0, .complex .f64 0 0] 164)) w3.heap.size 164 (cx noughts) := Row.new w3 _ (cx noughts)
      have th3 : Hid ((w3.alloc (Obj.cells #[.complex .f64 0 0, .complex .f64 0 0, .complex .f64 0 0, .complex .f64 0 0] 164)).there w3.heap.size 0 (cx V).toArray.size) := N1.there 0 _ (by rw [List.size_toArray, cx_length, hvl]; decide)
      have N2 : Row ((w3.alloc (Obj.cells #[.complex .f64 0 0, .complex .f64 0 0, .complex .f64 0 0, .complex .f64 0 0] 164)).setCells w3.heap.size 0 (cx V).toArray.toList) w3.heap.size 164 (cx V) := put_all (by rw [cx_length, hvl]) N1
      have ne : gl ≠ w3.heap.size := by have := R3.lt; omega
      have R5 : Row ((w3.alloc (Obj.cells #[.complex .f64 0 0, .complex .f64 0 0, .complex .f64 0 0, .complex .f64 0 0] 164)).setCells w3.heap.size 0 (cx V).toArray.toList) gl 3 (intCells (lay n c i 0)) := (R3.past _).puts_other ne 0 _
      have B5 := below_puts (b := w3.heap.size) (B4.alloc B4.size (Obj.cells #[.complex .f64 0 0, .complex .f64 0 0, .complex .f64 0 0, .complex .f64 0 0] 164)) B4.size 0 (cx V).toArray.toList
      have H5 := Lib.hid N2.all
      have HR5 := Lib.hid R5
      have HB5 := Lib.hid B5
      clear N1 N2 R5 B5 R3 B4 B3 ne HR2 HB2 H2 H1 th hsz hsm one CB hvl
      generalize cx V = P2 at *
      go_wp2_with (first | (refine wpList_store_mid rfl 164 (.tmp 8) (.tmp 28) rfl w3.heap.size 0 P2.toArray rfl rfl th3.out hm3.out one3.out ?_) | (refine wpList_load_mid rfl 164 (.tmp 8) rfl w3.heap.size 0 rfl P2 _ H5.out Tryz.underlying164 rfl hs3.out ?_))
      generalize (w3.alloc (Obj.cells #[.complex .f64 0 0, .complex .f64 0 0, .complex .f64 0 0, .complex .f64 0 0] 164)).setCells w3.heap.size 0 P2 = w5 at *
      clear H5 th3 hs3 hm3 one3
      go_loopw [31] (fun v wr => JoinJ w gl n i c v wr) (fun v _ => 4 - (intOf v).toNat)
      case atStart => exact ⟨0, by omega, rfl, HR5.out, HB5.out⟩
      case round =>
        clear HR5 HB5
        obtain ⟨j, hj, rfl, R6, B6⟩ := hrel
        by_cases hj4 : j < 4
        · have d2 : decide ((j : Int) < 4) = true := by simp; omega
          have hx := at_four P2 j _ hj4 (hc.out j hj4)
          have hw : Whole (V.getD j (0, 0)).1 (c i j) ∧ Whole (V.getD j (0, 0)).2 0 := HV.out.2 j hj4
          have hcb := HB.out i j
          have cp := Lib.hid (parts_yes hw.1 hw.2 ⟨by omega, by omega⟩ ⟨by omega, by omega⟩)
          obtain ⟨t, ht⟩ : ∃ t, t = 2 * i + j := ⟨_, rfl⟩
          have t1 : (i : Int) * 2 + (j : Int) = (t : Int) := by omega
          have t2 : wrap64 ((i : Int) * 2) = (i : Int) * 2 := by have := HI.out; unfold wrap64; omega
          have t3 : wrap64 ((i : Int) * 2 + (j : Int)) = (t : Int) := by have := HI.out; unfold wrap64; omega
          have t4 : wrap64 (t : Int) = (t : Int) := by have := HI.out; unfold wrap64; omega
          have HJ := Lib.hid hj4
          generalize V.getD j (0, 0) = z at hx cp
          clear hw hj
          by_cases htn : t < n
          · have d3 : decide ((t : Int) < (n : Int)) = true := by simp; omega
            have d3n : decide (t < n) = true := by simp; omega
            have ti0 : (0 : Int) ≤ (t : Int) := by omega
            have ti1 : (t : Int) < (n : Int) := by omega
            have bd := lay_bound (n := n) HB.out (show i ≤ 255 by have := HI.out; omega) (show j ≤ 4 by omega) t htn
            have cl := (R6.cell t).trans (intCells_get _ t (by rw [lay_length]; exact htn))
            have fl := R6.frozen t
            have R7 := R6.set t (.int .i64 ((lay n c i j).getD t 0 + c i j))
            have B7 := B6.setCell (p := ⟨gl, t, none⟩) HGL.out (.int .i64 ((lay n c i j).getD t 0 + c i j))
            rw [ht, lay_next, ← ht] at R7
            have ov : wrap64 ((lay n c i j).getD t 0 + c i j) = (lay n c i j).getD t 0 + c i j := by unfold wrap64; omega
            have H7 := Lib.hid R7; have HB7 := Lib.hid B7
            clear R7 B7 R6 B6 bd hcb ht
            generalize (lay n c i j).getD t 0 = y at *
            generalize c i j = x at *
            obtain ⟨y2, hy2⟩ : ∃ y2, y2 = y + x := ⟨_, rfl⟩
            rw [← hy2] at ov H7 HB7
            have ov2 : wrap64 y2 = y2 := ov
            have ov1 : y + x = y2 := hy2.symm
            clear ov hy2
            go_wp2_with fail
            refine (cp.out _).mono ?_
            rintro e v1 ⟨rfl, hw⟩; subst v1
            go_wp2_with fail
            go_roundw
            case rel => exact ⟨j + 1, HJ.out, ret_val (by have := HJ.out; omega), H7.out, HB7.out⟩
            case measure => simp [intOf]; have := HJ.out; omega
          · have d3 : decide ((t : Int) < (n : Int)) = false := by simp; omega
            have d3n : decide (t < n) = false := by simp; omega
            rw [lay_past n c i j (by omega)] at R6
            have H7 := Lib.hid R6; have HB7 := Lib.hid B6
            clear R6 B6 hcb ht htn
            generalize c i j = x at cp
            go_wp2_with fail
            refine (cp.out _).mono ?_
            rintro e v1 ⟨rfl, hw⟩; subst v1
            go_wp2_with fail
            go_roundw
            case rel => exact ⟨j + 1, HJ.out, ret_val (by have := HJ.out; omega), H7.out, HB7.out⟩
            case measure => simp [intOf]; have := HJ.out; omega
        · obtain rfl : j = 4 := by omega
          rw [lay_round] at R6
          have H7 := Lib.hid R6; have HB7 := Lib.hid B6
          clear R6 B6 hj hj4
          go_wp2_with fail
          go_roundw
          case rel => exact ⟨i + 1, HI.out, ret_val (by have := HI.out; omega), H7.out, HB7.out⟩
          case measure => simp [intOf]; have := HI.out; omega
    · obtain rfl : i = S := by omega
      have d1 : decide ((i : Int) < (i : Int)) = false := by simp
      have H7 := Lib.hid R1; have HB7 := Lib.hid B1
      clear R1 B1 hlt hi
      go_wp2_with fail
      go_ret
      exact ⟨gl, rfl, HGL.out, H7.out, HB7.out⟩
end Go.Proofs.YtojpfmlmalmlcaaGreatDoor.G
namespace Go.Proofs.YtojpfmlmalmlcaaGreatDoor.G
open Go.RowKit
theorem _root_.Go.Proofs.YtojpfmlmalmlcaaGreatDoor.Ints.below {w w' : World} {A : Option Addr} {n : Nat} {xs : List Int} (h : Ints w (· < w.heap.size) A n xs) (B : Below w.heap.size w w') : Ints w' (· < w'.heap.size) A n xs :=
  ⟨h.1, fun hn => by
    obtain ⟨b, o, e, hm, hc⟩ := h.2 hn
    exact ⟨b, o, e, Nat.lt_of_lt_of_le hm B.size, fun i hi => (B.cell (p := ⟨b, o + i, none⟩) hm).trans (hc i hi)⟩⟩
theorem ints_row {w : World} {g n : Nat} {l : List Int} {t : TypeId} (h : Row w g t (intCells l)) (hl : l.length = n) : Ints w (· < w.heap.size) (some ⟨g, 0, none⟩) n l :=
  ⟨hl, fun _ => ⟨g, 0, rfl, h.lt, fun i hi => by rw [Nat.zero_add, h.cell i]; exact intCells_get l i (by omega)⟩⟩
theorem ints_none (w : World) (A : Option Addr) : Ints w (· < w.heap.size) A 0 [] := ⟨rfl, fun h => absurd h (by omega)⟩
theorem sumAt_three (xs ys : List Int) (M N s : Nat) : sumAt xs ys M N 0 s 3 = 0 := by
  unfold sumAt laid
  rw [sm_zero, sm_none (fun i _ => sm_none (fun j _ => by simp [term]))]
  rfl
theorem lay_fold (xs ys : List Int) (hx : 0 < xs.length) (hy : 0 < ys.length) :
    lay (xs.length + ys.length - 1) (fun s r => sumAt xs ys ((ys.length + 1) / 2) ((xs.length + 1) / 2) 0 s r) ((xs.length + 1) / 2 + (ys.length + 1) / 2 - 1) 0 = foldL xs ys := by
  refine foldL_of (by omega) (by omega) (lay_length _ _ _ _) (fun t ht => ?_)
  rw [lay_length] at ht
  rw [lay_get _ _ _ _ _ ht]
  exact spread_conv xs ys ((xs.length + 1) / 2) ((ys.length + 1) / 2) _ t (by omega) (by omega) (fun i j hi hj => by omega)
/-- What Fold answers. -/
def FoldR (r : Bool) (xs ys : List Int) (w : World) (e : Ending) (w' : World) : Prop :=
  ∃ R k, e = .returned (.tuple #[.slice R k k, .bool r]) ∧ Ints w' (· < w'.heap.size) R k (if r then foldL xs ys else []) ∧ Below w.heap.size w w'
set_option maxHeartbeats 4000000 in
theorem fold_main (A : Option Addr) (n c : Nat) (xs : List Int) (B : Option Addr) (m d : Nat) (ys : List Int) (w : World) (h1 : Ints w (· < w.heap.size) A n xs) (h2 : Ints w (· < w.heap.size) B m ys) (hx : Dig xs) (hy : Dig ys) (hn : 0 < n) (hm : 0 < m) :
    Calls Tryz.prog 102 #[.slice A n c, .slice B m d] w fun e w' => FoldR true xs ys w e w' := by
  have hxl := h1.1
  have hyl := h2.1
  have n1 := hx.1
  have n2 := hy.1
  have c1 := Lib.hid (digits_any A n c xs w h1 (by omega) true ⟨fun _ => hx, fun _ => rfl⟩)
  have c2 := Lib.hid (digits_any B m d ys w h2 (by omega) true ⟨fun _ => hy, fun _ => rfl⟩)
  have c3 := Lib.hid (values_any A n c xs w h1 hx)
  have e0 : ((n : Int) == 0) = false := by simp; omega
  have e1 : ((m : Int) == 0) = false := by simp; omega
  have e0n : (n == 0) = false := by simp; omega
  have e1n : (m == 0) = false := by simp; omega
  have H2 := Lib.hid h2
  have HX := Lib.hid hx
  have HY := Lib.hid hy
  have HF := Lib.hid (lay_fold xs ys (by omega) (by omega))
  have HC := Lib.hid (fun s => sumAt_three xs ys ((m + 1) / 2) ((n + 1) / 2) s)
  have HBd := Lib.hid (fun s r => sumAt_bound hx hy (M := (m + 1) / 2) (i := (n + 1) / 2) (j := 0) (by omega) (by omega) (by omega) s r)
  rw [hxl, hyl] at HF
  have hn' := Lib.hid hn
  have hm' := Lib.hid hm
  have hN : n ≤ 256 := by omega
  have hM : m ≤ 256 := by omega
  have HXL := Lib.hid hxl
  have HYL := Lib.hid hyl
  clear h1 h2 hx hy hxl hyl n1 n2 hn hm
  go_enter Tryz.func102, Tryz.ntmps102
  go_wp2_with fail
  refine c1.out.mono ?_
  rintro e v1 ⟨rfl, hw⟩; subst v1
  go_wp2_with fail
  refine c2.out.mono ?_
  rintro e v1 ⟨rfl, hw⟩; subst v1
  go_wp2_with fail
  refine c3.out.mono ?_
  rintro e w1 ⟨g1, z1, rfl, l1, R1, Q1, B1⟩
  have c4 := Lib.hid (values_any B m d ys w1 (H2.out.below B1) HY.out)
  have HR1 := Lib.hid R1; have HQ1 := Lib.hid Q1; have HB1 := Lib.hid B1
  clear R1 Q1 B1 l1 c1 c2 c3
  go_wp2_with fail
  refine c4.out.mono ?_
  rintro e w2 ⟨g2, z2, rfl, l2, R2, Q2, B2⟩
  have R1 := HR1.out.keep B2
  have B3 := HB1.out.trans (B2.mono HB1.out.size)
  have c5 := Lib.hid (products_any g1 g2 ((n + 1) / 2) ((m + 1) / 2) ((n + 1) / 2 + (m + 1) / 2 - 1) z1 z2 xs ys w2 R1 R2 HQ1.out Q2 HX.out HY.out (by omega) (by omega) (by have := hn'.out; omega) (by have := hm'.out; omega) rfl)
  have HB3 := Lib.hid B3
  clear R1 R2 Q2 B2 l2 B3 HR1 HQ1 HB1 c4
  have hS : (n + 1) / 2 + (m + 1) / 2 - 1 ≤ 255 := by omega
  generalize (n + 1) / 2 + (m + 1) / 2 - 1 = S at *
  go_wp2_with fail
  refine c5.out.mono ?_
  rintro e w3 ⟨gs, zs, rfl, l3, R3, Q3, B3⟩
  have B4 := HB3.out.trans (B3.mono HB3.out.size)
  obtain ⟨l, hl⟩ : ∃ l, l = n + m - 1 := ⟨_, rfl⟩
  have c6 := Lib.hid (joined_any gs S l zs (fun s r => sumAt xs ys ((m + 1) / 2) ((n + 1) / 2) 0 s r) w3 R3 Q3 HBd.out HC.out hS (by omega))
  have HB4 := Lib.hid B4
  rw [← hl] at HF
  have hl' : (n : Int) + (m : Int) - 1 = (l : Int) := by have := hn'.out; omega
  rw [← hl'] at c6
  have HLL : Hid ((foldL xs ys).length = l) := show _ = _ by
    rw [foldL_length xs ys (by have := hn'.out; have := HXL.out; omega) (by have := hm'.out; have := HYL.out; omega), HXL.out, HYL.out, hl]
  clear R3 Q3 B3 l3 B4 c5 HB3 hl hl' hS
  go_wp2_with fail
  refine c6.out.mono ?_
  rintro e w4 ⟨gl, rfl, l4, R4, B4⟩
  have B5 := HB4.out.trans (B4.mono HB4.out.size)
  have hF := HF.out
  rw [hF] at R4
  have hI := Lib.hid (ints_row R4 HLL.out)
  have HB5 := Lib.hid B5
  clear R4 B4 B5 l4 c6 HB4 hF
  go_wp2_with fail
  go_ret2
  exact ⟨_, _, rfl, hI.out, HB5.out⟩
set_option maxHeartbeats 2000000 in
theorem fold_any (A : Option Addr) (n c : Nat) (xs : List Int) (B : Option Addr) (m d : Nat) (ys : List Int) (w : World) (h1 : Ints w (· < w.heap.size) A n xs) (h2 : Ints w (· < w.heap.size) B m ys) (hn : n ≤ 9223372036854775807) (hm : m ≤ 9223372036854775807) (r : Bool) (hr : r = true ↔ Dig xs ∧ Dig ys) :
    Calls Tryz.prog 102 #[.slice A n c, .slice B m d] w fun e w' => FoldR r xs ys w e w' := by
  by_cases hx : Dig xs
  · by_cases hy : Dig ys
    · obtain rfl : r = true := hr.2 ⟨hx, hy⟩
      by_cases h0 : 0 < n ∧ 0 < m
      · exact fold_main A n c xs B m d ys w h1 h2 hx hy h0.1 h0.2
      · have c1 := Lib.hid (digits_any A n c xs w h1 hn true ⟨fun _ => hx, fun _ => rfl⟩)
        have c2 := Lib.hid (digits_any B m d ys w h2 hm true ⟨fun _ => hy, fun _ => rfl⟩)
        have HE : Hid (foldL xs ys = []) := show _ = _ by
          unfold foldL
          rw [if_pos (by rw [h1.1, h2.1]; omega)]
        by_cases n0 : n = 0
        · have e0 : ((n : Int) == 0) = true := by simp; omega
          have e0n : (n == 0) = true := by simp; omega
          clear h1 h2 hx hy hr h0 n0 hn hm
          go_enter Tryz.func102, Tryz.ntmps102
          go_wp2_with fail
          refine c1.out.mono ?_
          rintro e v1 ⟨rfl, hw⟩; subst v1
          go_wp2_with fail
          refine c2.out.mono ?_
          rintro e v1 ⟨rfl, hw⟩; subst v1
          go_wp2_with fail
          go_ret2
          exact ⟨none, 0, rfl, by rw [HE.out]; exact ints_none _ _, Below.refl _ _⟩
        · have e0 : ((n : Int) == 0) = false := by simp; omega
          have e0n : (n == 0) = false := by simp; omega
          have e1 : ((m : Int) == 0) = true := by simp; omega
          have e1n : (m == 0) = true := by simp; omega
          clear h1 h2 hx hy hr h0 n0 hn hm
          go_enter Tryz.func102, Tryz.ntmps102
          go_wp2_with fail
          refine c1.out.mono ?_
          rintro e v1 ⟨rfl, hw⟩; subst v1
          go_wp2_with fail
          refine c2.out.mono ?_
          rintro e v1 ⟨rfl, hw⟩; subst v1
          go_wp2_with fail
          go_ret2
          exact ⟨none, 0, rfl, by rw [HE.out]; exact ints_none _ _, Below.refl _ _⟩
    · obtain rfl : r = false := by
        cases hr' : r with
        | false => rfl
        | true => exact absurd (hr.1 hr').2 hy
      have c1 := Lib.hid (digits_any A n c xs w h1 hn true ⟨fun _ => hx, fun _ => rfl⟩)
      have c2 := Lib.hid (digits_any B m d ys w h2 hm false ⟨fun h => (by cases h), fun h => absurd h hy⟩)
      clear h1 h2 hx hy hr hn hm
      go_enter Tryz.func102, Tryz.ntmps102
      go_wp2_with fail
      refine c1.out.mono ?_
      rintro e v1 ⟨rfl, hw⟩; subst v1
      go_wp2_with fail
      refine c2.out.mono ?_
      rintro e v1 ⟨rfl, hw⟩; subst v1
      go_wp2_with fail
      go_ret2
      exact ⟨none, 0, rfl, ints_none _ _, Below.refl _ _⟩
  · obtain rfl : r = false := by
      cases hr' : r with
      | false => rfl
      | true => exact absurd (hr.1 hr').1 hx
    have c1 := Lib.hid (digits_any A n c xs w h1 hn false ⟨fun h => (by cases h), fun h => absurd h hx⟩)
    clear h1 h2 hx hr hn hm
    go_enter Tryz.func102, Tryz.ntmps102
    go_wp2_with fail
    refine c1.out.mono ?_
    rintro e v1 ⟨rfl, hw⟩; subst v1
    go_wp2_with fail
    go_ret2
    exact ⟨none, 0, rfl, ints_none _ _, Below.refl _ _⟩
end Go.Proofs.YtojpfmlmalmlcaaGreatDoor.G
