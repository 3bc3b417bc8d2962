/-
  wave's products: rows of values, multiplied as polynomials, point by point. No condition beyond what each contract says.
-/
import Derived.Test.YtcejbkmmiklhbaaWaveF
namespace Go.Proofs.Ytcejbkmmiklhbaa
open Go.RowKit

/-- Number r of place s, behind i rounds and j steps. -/
def sumAt (xs ys : List Int) (M i j s r : Nat) : Int := laid (fun i j => i + j) M i j (term xs ys r) s
theorem sumAt_zero (xs ys : List Int) (M s r : Nat) : sumAt xs ys M 0 0 s r = 0 := laid_first _ _ _ _
theorem sumAt_step (xs ys : List Int) (M i j s r : Nat) : sumAt xs ys M i (j + 1) s r = sumAt xs ys M i j s r + if i + j = s then term xs ys r i j else 0 := laid_step _ _ _ _ _ _
theorem sumAt_round (xs ys : List Int) (M i s r : Nat) : sumAt xs ys M (i + 1) 0 s r = sumAt xs ys M i M s r := laid_round _ _ _ _ _

theorem prod_bound {x y : Int} (hx : 0 ≤ x ∧ x ≤ 65535) (hy : 0 ≤ y ∧ y ≤ 65535) : 0 ≤ x * y ∧ x * y ≤ 4294836225 := by
  refine ⟨Int.mul_nonneg hx.1 hy.1, ?_⟩
  have := Int.mul_le_mul hx.2 hy.2 hy.1 (by decide : (0 : Int) ≤ 65535)
  omega
theorem dig_get {xs : List Int} (hd : Dig xs) (i : Nat) : 0 ≤ xs.getD i 0 ∧ xs.getD i 0 ≤ 65535 := by
  by_cases h : i < xs.length
  · exact hd.2 i h
  · rw [getD_past (by omega)]; decide
theorem term_bound {xs ys : List Int} (hx : Dig xs) (hy : Dig ys) (r i j : Nat) : 0 ≤ term xs ys r i j ∧ term xs ys r i j ≤ 8589672450 := by
  have h0 := prod_bound (dig_get hx (2 * i)) (dig_get hy (2 * j))
  have h1 := prod_bound (dig_get hx (2 * i)) (dig_get hy (2 * j + 1))
  have h2 := prod_bound (dig_get hx (2 * i + 1)) (dig_get hy (2 * j))
  have h3 := prod_bound (dig_get hx (2 * i + 1)) (dig_get hy (2 * j + 1))
  unfold term
  repeat' split
  all_goals omega
theorem sumAt_bound {xs ys : List Int} (hx : Dig xs) (hy : Dig ys) {M i j : Nat} (hM : M ≤ 128) (hi : i ≤ 128) (hj : j ≤ 128) (s r : Nat) : 0 ≤ sumAt xs ys M i j s r ∧ sumAt xs ys M i j s r ≤ 141832671494400 := by
  have h := laid_bound (s := fun i j => i + j) (M := M) (I := i) (J := j) (t := s) (B := 8589672450) (by decide) (term_bound hx hy r)
  have h2 : i * M ≤ 128 * 128 := Nat.mul_le_mul hi hM
  refine ⟨h.1, Int.le_trans h.2 ?_⟩
  have h3 : ((i * M + j : Nat) : Int) ≤ 16512 := by omega
  generalize ((i * M + j : Nat) : Int) = z at h3
  omega
theorem sumV_bound {xs ys : List Int} (hx : Dig xs) (hy : Dig ys) {M i j : Nat} (hM : M ≤ 128) (hi : i ≤ 128) (hj : j ≤ 128) (s k : Nat) : Fit (vr k (sumAt xs ys M i j s)) ∧ Fit (vi k (sumAt xs ys M i j s)) := by
  have h := v_bound (k := k) (fun r => sumAt_bound hx hy hM hi hj s r)
  unfold Fit
  omega
theorem pt_small {xs : List Int} (hd : Dig xs) (i k : Nat) : Small (vr k (pt xs i)) ∧ Small (vi k (pt xs i)) := by
  have h := v_bound (k := k) (fun r => pt_bound xs hd i r)
  unfold Small
  omega

theorem Quads.cong {zs : List (Nat × Nat)} {m : Nat} {p q p' q' : Nat → Nat → Int} (h : Quads zs m p q) (e : ∀ i k, i < m → k < 4 → p i k = p' i k ∧ q i k = q' i k) : Quads zs m p' q' :=
  ⟨h.1, fun i k hi hk => ⟨(h.2 i k hi hk).1.cast (e i k hi hk).1, (h.2 i k hi hk).2.cast (e i k hi hk).2⟩⟩
theorem Quads.set {zs : List (Nat × Nat)} {m : Nat} {p q p' q' : Nat → Nat → Int} (h : Quads zs m p q) {s c : Nat} (_hs : s < m) (hc : c < 4) {z : Nat × Nat} (h1 : Whole z.1 (p' s c)) (h2 : Whole z.2 (q' s c))
    (e : ∀ i k, i < m → k < 4 → ¬ (i = s ∧ k = c) → p i k = p' i k ∧ q i k = q' i k) : Quads (zs.set (s * 4 + c) z) m p' q' := by
  refine ⟨by simp [h.1], fun i k hi hk => ?_⟩
  by_cases hik : i = s ∧ k = c
  · obtain ⟨rfl, rfl⟩ := hik
    have : (zs.set (i * 4 + k) z).getD (i * 4 + k) (0, 0) = z := by
      have hl := h.1
      simp [List.getD, show i * 4 + k < zs.length by omega]
    rw [this]
    exact ⟨h1, h2⟩
  · have : (zs.set (s * 4 + c) z).getD (i * 4 + k) (0, 0) = zs.getD (i * 4 + k) (0, 0) := by
      simp [List.getD, show s * 4 + c ≠ i * 4 + k by omega]
    rw [this]
    obtain ⟨e1, e2⟩ := e i k hi hk hik
    exact ⟨(h.2 i k hi hk).1.cast e1, (h.2 i k hi hk).2.cast e2⟩
theorem cx_set (zs : List (Nat × Nat)) (c : Nat) (z : Nat × Nat) : (cx zs).set c (.complex .f64 z.1 z.2) = cx (zs.set c z) := by simp [cx, List.map_set]

/-- Inside a step: the first k points have been brought up. -/
def inV (v : Nat → (Nat → Int) → Int) (xs ys : List Int) (M i j k : Nat) : Nat → Nat → Int := fun s c => if s = i + j ∧ c < k then v c (sumAt xs ys M i (j + 1) s) else v c (sumAt xs ys M i j s)
theorem inV_zero (v : Nat → (Nat → Int) → Int) (xs ys : List Int) (M i j s c : Nat) : v c (sumAt xs ys M i j s) = inV v xs ys M i j 0 s c := by
  unfold inV; rw [if_neg (by omega)]
theorem inV_four (v : Nat → (Nat → Int) → Int) (xs ys : List Int) (M i j s c : Nat) (hc : c < 4) : inV v xs ys M i j 4 s c = v c (sumAt xs ys M i (j + 1) s) := by
  unfold inV
  by_cases h : s = i + j
  · rw [if_pos ⟨h, hc⟩]
  · rw [if_neg (by omega)]
    congr 1
    funext r
    rw [sumAt_step, if_neg (by omega), Int.add_zero]
theorem inV_other (v : Nat → (Nat → Int) → Int) (xs ys : List Int) (M i j k s c : Nat) (h : ¬ (s = i + j ∧ c = k)) : inV v xs ys M i j k s c = inV v xs ys M i j (k + 1) s c := by
  unfold inV
  by_cases h1 : s = i + j ∧ c < k
  · rw [if_pos h1, if_pos (by omega)]
  · rw [if_neg h1, if_neg (by omega)]
theorem inV_old (v : Nat → (Nat → Int) → Int) (xs ys : List Int) (M i j k : Nat) : inV v xs ys M i j k (i + j) k = v k (sumAt xs ys M i j (i + j)) := by
  unfold inV; rw [if_neg (by omega)]
theorem inV_new (v : Nat → (Nat → Int) → Int) (xs ys : List Int) (M i j k : Nat) : inV v xs ys M i j (k + 1) (i + j) k = v k (sumAt xs ys M i (j + 1) (i + j)) := by
  unfold inV; rw [if_pos (by omega)]
theorem sum_add {xs ys : List Int} {M i j k : Nat} (hk : k < 4) :
    vr k (sumAt xs ys M i j (i + j)) + (vr k (pt xs i) * vr k (pt ys j) - vi k (pt xs i) * vi k (pt ys j)) = vr k (sumAt xs ys M i (j + 1) (i + j)) ∧
    vi k (sumAt xs ys M i j (i + j)) + (vr k (pt xs i) * vi k (pt ys j) + vi k (pt xs i) * vr k (pt ys j)) = vi k (sumAt xs ys M i (j + 1) (i + j)) := by
  obtain ⟨e1, e2⟩ := value_times xs ys i j hk (pt xs i) (pt ys j) (fun _ => rfl) (fun _ => rfl)
  have e3 : sumAt xs ys M i (j + 1) (i + j) = fun r => sumAt xs ys M i j (i + j) r + term xs ys r i j := by
    funext r; rw [sumAt_step, if_pos rfl]
  rw [e1, e2, e3, vr_add, vi_add]
  exact ⟨rfl, rfl⟩

theorem inV_old' (v : Nat → (Nat → Int) → Int) (xs ys : List Int) (M i j k : Nat) {s : Nat} (h : s = i + j) : inV v xs ys M i j k s k = v k (sumAt xs ys M i j s) := by subst h; exact inV_old _ _ _ _ _ _ _
theorem inV_new' (v : Nat → (Nat → Int) → Int) (xs ys : List Int) (M i j k : Nat) {s : Nat} (h : s = i + j) : inV v xs ys M i j (k + 1) s k = v k (sumAt xs ys M i (j + 1) s) := by subst h; exact inV_new _ _ _ _ _ _ _
theorem inV_other' (v : Nat → (Nat → Int) → Int) (xs ys : List Int) (M i j k s c : Nat) {s' : Nat} (e : s' = i + j) (h : ¬ (s = s' ∧ c = k)) : inV v xs ys M i j k s c = inV v xs ys M i j (k + 1) s c := by subst e; exact inV_other _ _ _ _ _ _ _ _ _ h

/-- The three loops. -/
def ProdI (w : World) (gs S M : Nat) (xs ys : List Int) (N : Nat) (v : Value) (wr : World) : Prop :=
  ∃ (i : Nat) (zs : List (Nat × Nat)), i ≤ N ∧ v = .int .i64 (i : Int) ∧ Row wr gs 76 (cx zs) ∧ Below w.heap.size w wr ∧ Quads zs S (fun s k => vr k (sumAt xs ys M i 0 s)) (fun s k => vi k (sumAt xs ys M i 0 s))
def ProdJ (w : World) (gs S M : Nat) (xs ys : List Int) (i : Nat) (v : Value) (wr : World) : Prop :=
  ∃ (j : Nat) (zs : List (Nat × Nat)), j ≤ M ∧ v = .int .i64 (j : Int) ∧ Row wr gs 76 (cx zs) ∧ Below w.heap.size w wr ∧ Quads zs S (fun s k => vr k (sumAt xs ys M i j s)) (fun s k => vi k (sumAt xs ys M i j s))
def ProdK (w : World) (gs S M : Nat) (xs ys : List Int) (i j : Nat) (v : Value) (wr : World) : Prop :=
  ∃ (k : Nat) (zs : List (Nat × Nat)), k ≤ 4 ∧ v = .int .i64 (k : Int) ∧ Row wr gs 76 (cx zs) ∧ Below w.heap.size w wr ∧ Quads zs S (inV vr xs ys M i j k) (inV vi xs ys M i j k)

set_option maxRecDepth 100000 in
set_option maxHeartbeats 4000000 in
theorem products_any (ga gb N M S : Nat) (za zb : List (Nat × Nat)) (xs ys : List Int) (w : World) (Ra : Row w ga 76 (cx za)) (Rb : Row w gb 76 (cx zb))
    (Qa : Quads za N (fun i k => vr k (pt xs i)) (fun i k => vi k (pt xs i))) (Qb : Quads zb M (fun i k => vr k (pt ys i)) (fun i k => vi k (pt ys i))) (hx : Dig xs) (hy : Dig ys) (hN : N ≤ 128) (hM : M ≤ 128) (N0 : 0 < N) (M0 : 0 < M) (hS : S = N + M - 1) :
    Calls Try.prog 53 #[.slice (some ⟨ga, 0, none⟩) N N, .slice (some ⟨gb, 0, none⟩) M M] w fun e w' => ∃ gs zs, e = .returned (.slice (some ⟨gs, 0, none⟩) S S) ∧ w.heap.size ≤ gs ∧ Row w' gs 76 (cx zs) ∧
      Quads zs S (fun s k => vr k (sumAt xs ys M N 0 s)) (fun s k => vi k (sumAt xs ys M N 0 s)) ∧ Below w.heap.size w w' := by
  have a3 : (N : Int) + (M : Int) - 1 = (S : Int) := by omega
  obtain ⟨L, hL⟩ : ∃ L, L = List.replicate (S * 4) (Value.complex .f64 0 0) := ⟨_, rfl⟩
  have mk := make_four S (by omega) L hL w
  rw [← a3] at mk
  have HA := Lib.hid Ra; have HB := Lib.hid Rb; have HQA := Lib.hid Qa; have HQB := Lib.hid Qb; have HX := Lib.hid hx; have HY := Lib.hid hy; have HS := Lib.hid hS; have HL := Lib.hid hL
  clear Ra Rb Qa Qb hx hy a3 hL hS
  go_enter Try.func53, Try.ntmps53
  go_wp2_with fail
  have R0 : Row (w.alloc (.cells L.toArray 76)) w.heap.size 76 L := Row.new w _ _
  have B0 : Below w.heap.size w (w.alloc (.cells L.toArray 76)) := (Below.refl _ _).alloc (Nat.le_refl _) _
  have Q0 : Hid (Quads (List.replicate (S * 4) (0, 0)) S (fun s k => vr k (sumAt xs ys M 0 0 s)) (fun s k => vi k (sumAt xs ys M 0 0 s))) := by
    refine ⟨by simp, fun i k hi hk => ?_⟩
    have e : (List.replicate (S * 4) ((0 : Nat), (0 : Nat))).getD (i * 4 + k) (0, 0) = (0, 0) := by simp [List.getD, show i * 4 + k < S * 4 by omega]
    rw [e]
    have z : sumAt xs ys M 0 0 i = fun _ => 0 := by funext r; exact sumAt_zero _ _ _ _ _
    show Whole 0 (vr k (sumAt xs ys M 0 0 i)) ∧ Whole 0 (vi k (sumAt xs ys M 0 0 i))
    rw [z]
    exact ⟨whole_0.cast (by simp [vr]), whole_0.cast (by simp [vi])⟩
  have eL : L = cx (List.replicate (S * 4) (0, 0)) := by rw [HL.out]; simp [cx]
  rw [eL] at R0 B0 ⊢
  generalize w.alloc (.cells (cx (List.replicate (S * 4) (0, 0))).toArray 76) = W at *
  have ne1 : ga ≠ w.heap.size := by have := HA.out.lt; omega
  have ne2 : gb ≠ w.heap.size := by have := HB.out.lt; omega
  have la : ga < w.heap.size := HA.out.lt
  have lb : gb < w.heap.size := HB.out.lt
  obtain ⟨gs, hg⟩ : ∃ gs, gs = w.heap.size := ⟨_, rfl⟩
  have gl : w.heap.size ≤ gs := by omega
  rw [← hg] at R0 ne1 ne2 ⊢
  have HR0 := Lib.hid R0; have HB0 := Lib.hid B0; have HLA := Lib.hid la; have HLB := Lib.hid lb; have HGL := Lib.hid gl
  clear mk hg R0 B0 eL HL la lb gl
  go_loopw [19] (fun v wr => ProdI w gs S M xs ys N v wr) (fun v _ => N - (intOf v).toNat)
  case atStart => exact ⟨0, _, by omega, rfl, HR0.out, HB0.out, Q0.out⟩
  case round =>
    clear HR0 HB0 Q0
    obtain ⟨i, zs, hi, rfl, R1, B1, Q1⟩ := hrel
    have HR1 := Lib.hid R1; have HB1 := Lib.hid B1; have HQ1 := Lib.hid Q1
    clear R1 B1 Q1
    by_cases hlt : i < N
    · have d1 : decide ((i : Int) < (N : Int)) = true := by simp; omega
      have d1n : decide (i < N) = true := by simp; omega
      go_wp2_with fail
      obtain ⟨wi, rfl⟩ : ∃ wi, wi = wr := ⟨_, rfl⟩
      go_loopw [24] (fun v wr => ProdJ w gs S M xs ys i v wr) (fun v _ => M - (intOf v).toNat)
      case atStart => exact ⟨0, zs, by omega, rfl, HR1.out, HB1.out, HQ1.out⟩
      case round =>
        clear HR1 HB1 HQ1
        obtain ⟨j, zj, hj, rfl, R2, B2, Q2⟩ := hrel
        have HR2 := Lib.hid R2; have HB2 := Lib.hid B2; have HQ2 := Lib.hid Q2
        clear R2 B2 Q2
        by_cases hjl : j < M
        · have d2 : decide ((j : Int) < (M : Int)) = true := by simp; omega
          have d2n : decide (j < M) = true := by simp; omega
          obtain ⟨s, hs⟩ : ∃ s, s = i + j := ⟨_, rfl⟩
          have s1 : (i : Int) + (j : Int) = (s : Int) := by omega
          have s2 : (s : Int) < (S : Int) := by have := HS.out; omega
          have s3 : wrap64 (s : Int) = (s : Int) := by unfold wrap64; omega
          have s4 : (0 : Int) ≤ (s : Int) := by omega
          have s5 : wrap64 ((i : Int) + (j : Int)) = (s : Int) := by unfold wrap64; omega
          have HSS := Lib.hid hs
          clear hs
          go_wp2_with fail
          obtain ⟨wj, rfl⟩ : ∃ wj, wj = wr := ⟨_, rfl⟩
          go_loopw [32] (fun v wr => ProdK w gs S M xs ys i j v wr) (fun v _ => 4 - (intOf v).toNat)
          case atStart => exact ⟨0, zj, by omega, rfl, HR2.out, HB2.out, HQ2.out.cong (fun s k _ _ => ⟨inV_zero vr _ _ _ _ _ _ _, inV_zero vi _ _ _ _ _ _ _⟩)⟩
          case round =>
            clear HR2 HB2 HQ2
            obtain ⟨k, zk, hk, rfl, R3, B3, Q3⟩ := hrel
            by_cases hkl : k < 4
            · have d3 : decide ((k : Int) < 4) = true := by simp; omega
              have k0 : (0 : Int) ≤ (k : Int) := by omega
              have k4 : (k : Int) < 4 := by omega
              have i0 : (0 : Int) ≤ (i : Int) := by omega
              have iN : (i : Int) < (N : Int) := by omega
              have j0 : (0 : Int) ≤ (j : Int) := by omega
              have jM : (j : Int) < (M : Int) := by omega
              have sS : s < S := by omega
              have es := HSS.out
              have qa := HQA.out.2 i k hlt hkl
              have qb := HQB.out.2 j k hjl hkl
              have qs := Q3.2 s k sS hkl
              have ca := ((HA.out.keep_at B3 HLA.out).cell (i * 4 + k)).trans (cx_get za _ (by rw [HQA.out.1]; omega))
              have cb := ((HB.out.keep_at B3 HLB.out).cell (j * 4 + k)).trans (cx_get zb _ (by rw [HQB.out.1]; omega))
              have cs := (R3.cell (s * 4 + k)).trans (cx_get zk _ (by rw [Q3.1]; omega))
              obtain ⟨p1, p2⟩ := pt_small HX.out i k
              obtain ⟨p3, p4⟩ := pt_small HY.out j k
              obtain ⟨re, im, cT, w1, w2⟩ := times_any qa.1 qa.2 qb.1 qb.2 p1 p2 p3 p4
              obtain ⟨t1, t2⟩ := sum_add (xs := xs) (ys := ys) (M := M) (i := i) (j := j) hkl
              rw [← es] at t1 t2
              obtain ⟨f1, f2⟩ := sumV_bound HX.out HY.out hM (show i ≤ 128 by omega) (show j + 1 ≤ 128 by omega) s k
              rw [inV_old' vr _ _ _ _ _ _ es, inV_old' vi _ _ _ _ _ _ es] at qs
              obtain ⟨nr, ni, hadd, w3, w4⟩ := qs.1.csum qs.2 w1 w2 (by rw [t1]; have := f1.1; have := f1.2; omega) (by rw [t2]; have := f2.1; have := f2.2; omega)
              rw [t1] at w3
              rw [t2] at w4
              have add' : ∀ w, (binOp .add 75 (.complex .f64 (zk.getD (s * 4 + k) (0, 0)).1 (zk.getD (s * 4 + k) (0, 0)).2) (.complex .f64 re im)).run Try.prog w = .ok (.complex .f64 nr ni) w := fun w => hadd w
              have Q4 := Q3.set (z := (nr, ni)) sS hkl (p' := inV vr xs ys M i j (k + 1)) (q' := inV vi xs ys M i j (k + 1)) (by rw [inV_new' vr _ _ _ _ _ _ es]; exact w3) (by rw [inV_new' vi _ _ _ _ _ _ es]; exact w4) (fun s' k' _ _ hne => ⟨inV_other' vr _ _ _ _ _ _ _ _ es hne, inV_other' vi _ _ _ _ _ _ _ _ es hne⟩)
              have R4 := R3.drew.set (s * 4 + k) (.complex .f64 nr ni)
              rw [cx_set zk _ (nr, ni)] at R4
              have B4 := B3.drew.setCell (p := ⟨gs, s * 4 + k, none⟩) HGL.out (.complex .f64 nr ni)
              have c4 : wr.drew.cell? ⟨gs, s * 4 + k, none⟩ = some (.complex .f64 (zk.getD (s * 4 + k) (0, 0)).1 (zk.getD (s * 4 + k) (0, 0)).2) := cs
              have f4 : wr.drew.frozen? ⟨gs, s * 4 + k, none⟩ = false := R3.drew.frozen _
              have st := store_cx ⟨gs, s * 4 + k, none⟩
              have CT := Lib.hid cT
              have HQ4 := Lib.hid Q4; have HR4 := Lib.hid R4; have HB4 := Lib.hid B4
              have HK := Lib.hid hkl
              clear Q4 R4 B4 cT hadd w1 w2 w3 w4 t1 t2 f1 f2 p1 p2 p3 p4 qa qb qs Q3 R3 B3 sS hkl HA HB HQA HQB HX HY es s1 s2 s3 s4 s5 d1 d1n d2 d2n
              generalize (za.getD (i * 4 + k) (0, 0)) = zA at *
              generalize (zb.getD (j * 4 + k) (0, 0)) = zB at *
              generalize (zk.getD (s * 4 + k) (0, 0)) = zC at *
              generalize zk.set (s * 4 + k) (nr, ni) = zn at *
              go_wp2_with fail
              go_still_tail 21, (by kernel_rfl)
              still_call (CT.out _)
              repeat still_step
              refine wpStill_nil ?_
              change wpList _ _ _ _ _ wr.drew
              generalize wr.drew = wd at *
              clear ca cb cs add' CT i0 iN j0 jM k0 k4 d3 hlt hjl hi hj
              go_wp2_with fail
              go_roundw
              case rel => exact ⟨k + 1, zn, HK.out, ret_val (by have := HK.out; omega), HR4.out, HB4.out, HQ4.out⟩
              case measure => simp [intOf]; have := HK.out; omega
            · obtain rfl : k = 4 := by omega
              have HQ4 := Lib.hid (Q3.cong (p' := fun s k => vr k (sumAt xs ys M i (j + 1) s)) (q' := fun s k => vi k (sumAt xs ys M i (j + 1) s)) (fun s c _ hc => ⟨inV_four vr _ _ _ _ _ _ _ hc, inV_four vi _ _ _ _ _ _ _ hc⟩))
              have HR3 := Lib.hid R3; have HB3 := Lib.hid B3; have HJ := Lib.hid hjl
              clear Q3 R3 B3 hkl s1 s2 s3 s4 s5 hk
              go_wp2_with fail
              go_roundw
              case rel => exact ⟨j + 1, zk, HJ.out, ret_val (by have := HJ.out; omega), HR3.out, HB3.out, HQ4.out⟩
              case measure => simp [intOf]; have := HJ.out; omega
        · obtain rfl : j = M := by omega
          have d2 : decide ((j : Int) < (j : Int)) = false := by simp
          have HQ3 : Hid (Quads zj S (fun s k => vr k (sumAt xs ys j (i + 1) 0 s)) (fun s k => vi k (sumAt xs ys j (i + 1) 0 s))) := by
            have e : ∀ s, sumAt xs ys j i j s = sumAt xs ys j (i + 1) 0 s := fun s => by funext r; rw [sumAt_round]
            exact HQ2.out.cong (fun s k _ _ => ⟨by rw [e], by rw [e]⟩)
          have HI := Lib.hid hlt
          clear HQ2 hjl hj
          go_wp2_with fail
          go_roundw
          case rel => exact ⟨i + 1, zj, HI.out, ret_val (by have := HI.out; omega), HR2.out, HB2.out, HQ3.out⟩
          case measure => simp [intOf]; have := HI.out; omega
    · obtain rfl : i = N := by omega
      have d1 : decide ((i : Int) < (i : Int)) = false := by simp
      clear hlt hi
      go_wp2_with fail
      go_ret
      exact ⟨gs, zs, rfl, HGL.out, HR1.out, HQ1.out, HB1.out⟩

end Go.Proofs.Ytcejbkmmiklhbaa
