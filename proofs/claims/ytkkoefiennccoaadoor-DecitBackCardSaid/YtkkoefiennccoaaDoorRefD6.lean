/-
  What the document's Times does; no condition beyond what the contract asks.
-/
import Derived.Test.YtkkoefiennccoaaDoorRefB6

namespace Go.Proofs.YtkkoefiennccoaaDoor
open Go.RowKit
/-- What lies in memory while the product is made. -/
structure TimesMem (w : World) (gr gx gy go : Nat) (xs ys out : List Nat) (wr : World) : Prop where
  hx : wr.heap[gx]? = some (.cells (nums xs) 108 (0, 0))
  hy : wr.heap[gy]? = some (.cells (nums ys) 110 (0, 0))
  ho : wr.heap[go]? = some (.cells (nums out) 111 (0, 0))
  hr : wr.heap[gr]? = some (.cells #[.int .u64 0, .int .u64 0] 29 (0, 0))
  lo : out.length = 6
  bo : ∀ d ∈ out, d < 4294967296
  low : Below w.heap.size w wr
  apart : gx ≠ go ∧ gy ≠ go ∧ gr ≠ go ∧ w.heap.size ≤ go ∧ w.heap.size ≤ gr
theorem TimesMem.drewN {w : World} {gr gx gy go : Nat} {xs ys out : List Nat} {wr : World} (h : TimesMem w gr gx gy go xs ys out wr) (m : Nat) : TimesMem w gr gx gy go xs ys out (wr.drewN m) :=
  ⟨h.hx, h.hy, h.ho, h.hr, h.lo, h.bo, ⟨h.low.os, h.low.tape, h.low.output, h.low.size, h.low.block⟩, h.apart⟩
theorem TimesMem.set {w : World} {gr gx gy go : Nat} {xs ys out : List Nat} {wr w2 : World} (h : TimesMem w gr gx gy go xs ys out wr) (j d : Nat) (hd : d < 4294967296) (e : w2 = wr.setCell ⟨go, j, none⟩ (.int .u64 (d : Int))) : TimesMem w gr gx gy go xs ys (out.set j d) w2 := by
  subst e
  have hl := h.lo
  obtain ⟨a1, a2, a3, a4, a5⟩ := h.apart
  refine ⟨?_, ?_, ?_, ?_, by simp [hl], set_lt h.bo hd, h.low.setCell (p := ⟨go, j, none⟩) a4 _, h.apart⟩
  · rw [Below.heap_setCell _ _ _ _ a1]; exact h.hx
  · rw [Below.heap_setCell _ _ _ _ a2]; exact h.hy
  · rw [block_set h.ho, nums_set]
  · rw [Below.heap_setCell _ _ _ _ a3]; exact h.hr
def OutIs (w : World) (gr gx gy go : Nat) (xs ys : List Nat) (v9 : Value) (wr : World) : Prop :=
  ∃ k out, v9 = .int .i64 ((k : Nat) : Int) ∧ k ≤ 2 ∧ TimesMem w gr gx gy go xs ys out wr ∧ (∀ j, 4 + k ≤ j → out.getD j 0 = 0) ∧ val out = val xs * val (ys.take k)
def InIs (w : World) (gr gx gy go k base : Nat) (xs ys : List Nat) (v10 v11 : Value) (wr : World) : Prop :=
  ∃ i c out, v10 = .int .u64 ((c : Nat) : Int) ∧ v11 = .int .i64 ((i : Nat) : Int) ∧ i ≤ 4 ∧ c < 4294967296 ∧ TimesMem w gr gx gy go xs ys out wr ∧ (∀ j, 4 + k ≤ j → out.getD j 0 = 0) ∧
    val out + c * 4294967296 ^ (i + k) = base + val (xs.take i) * ys.getD k 0 * 4294967296 ^ k
theorem set_zero {out : List Nat} {k j d : Nat} (h : ∀ j, 4 + k ≤ j → out.getD j 0 = 0) (hj : j < 4 + k) : ∀ i, 4 + k ≤ i → (out.set j d).getD i 0 = 0 := by
  intro i hi
  have := h i hi
  simp only [List.getD, List.getElem?_set] at this ⊢
  rw [if_neg (by omega)]
  exact this
theorem set_zero' {out : List Nat} {k d : Nat} (h : ∀ j, 4 + k ≤ j → out.getD j 0 = 0) : ∀ i, 4 + (k + 1) ≤ i → (out.set (4 + k) d).getD i 0 = 0 := by
  intro i hi
  have := h i (by omega)
  simp only [List.getD, List.getElem?_set] at this ⊢
  rw [if_neg (by omega)]
  exact this
theorem val_take_next (ys : List Nat) (k X : Nat) (h : k < ys.length) : X * val (ys.take (k + 1)) = X * val (ys.take k) + X * ys.getD k 0 * 4294967296 ^ k := by
  rw [val_next ys k h, Nat.mul_add, Nat.mul_assoc]
set_option maxHeartbeats 400000 in
theorem wideR_at (o0 o1 o2 o3 o4 o5 h l : Nat) (h0 : o0 < 4294967296) (h1 : o1 < 4294967296) (h2 : o2 < 4294967296) (h3 : o3 < 4294967296) (eh : o3 * 4294967296 + o2 = h) (el : o1 * 4294967296 + o0 = l) (w : World) :
    Calls Tryd.prog 79 #[.agg #[.int .u64 (o0 : Int), .int .u64 (o1 : Int), .int .u64 (o2 : Int), .int .u64 (o3 : Int), .int .u64 (o4 : Int), .int .u64 (o5 : Int)]] w fun e w' => e = .returned (.agg #[.int .u64 (h : Int), .int .u64 (l : Int)]) ∧
      w' = (w.alloc (.cells #[.int .u64 (o0 : Int), .int .u64 (o1 : Int), .int .u64 (o2 : Int), .int .u64 (o3 : Int), .int .u64 (o4 : Int), .int .u64 (o5 : Int)] 111)).alloc (.cells #[.int .u64 (h : Int), .int .u64 (l : Int)] 29) := by
  obtain ⟨p3, e3⟩ : ∃ p3, o3 * 4294967296 = p3 := ⟨_, rfl⟩
  obtain ⟨p1, e1⟩ : ∃ p1, o1 * 4294967296 = p1 := ⟨_, rfl⟩
  have x3 : IntKind.u64.wrap ((o3 : Int) * 4294967296) = (p3 : Int) := by rw [IntKind.wrap_u64]; omega
  have x1 : IntKind.u64.wrap ((o1 : Int) * 4294967296) = (p1 : Int) := by rw [IntKind.wrap_u64]; omega
  have y3 : IntKind.u64.wrap ((p3 : Int) + (o2 : Int)) = (h : Int) := by rw [IntKind.wrap_u64]; omega
  have y1 : IntKind.u64.wrap ((p1 : Int) + (o0 : Int)) = (l : Int) := by rw [IntKind.wrap_u64]; omega
  clear h0 h1 h2 h3 eh el e3 e1
  go_enter Tryd.func79, Tryd.ntmps79
  go_wp2_with fail
  refine bodyPost_ret (v := .agg #[.int .u64 (h : Int), .int .u64 (l : Int)]) (by simp [results, Tryd.results79, go_sem]) rfl ?_
  exact ⟨rfl, rfl⟩
set_option maxHeartbeats 4000000 in
theorem refTimes_core (a1 a0 b : Nat) (xs ys : List Nat) (x0 x1 x2 x3 y0 y1 : Nat) (a r1 r0 p : Nat) (VA : Hid (val xs = a)) (VB : Hid (val ys = b)) (E1 : Hid (r1 = a * b % 340282366920938463463374607431768211456 / 18446744073709551616)) (E0 : Hid (r0 = a * b % 340282366920938463463374607431768211456 % 18446744073709551616)) (EP : Hid (p = a * b / 340282366920938463463374607431768211456)) (_LP : Hid (p < 18446744073709551616))
    (hxs : Hid (xs = [x0, x1, x2, x3])) (hys : Hid (ys = [y0, y1])) (bx : Hid (∀ d ∈ xs, d < 4294967296)) (by' : Hid (∀ d ∈ ys, d < 4294967296))
    (m0' : (b : Int).tmod 4294967296 = (y0 : Int)) (m1' : (b : Int).tdiv 4294967296 = (y1 : Int)) (m1w : IntKind.u64.wrap (y1 : Int) = (y1 : Int))
    (CX : Hid (∀ w, Calls Tryd.prog 78 #[.agg #[.int .u64 (a1 : Int), .int .u64 (a0 : Int)]] w fun e w' => e = .returned (.agg #[.int .u64 (x0 : Int), .int .u64 (x1 : Int), .int .u64 (x2 : Int), .int .u64 (x3 : Int)]) ∧
      w' = (w.alloc (.cells #[.int .u64 (a1 : Int), .int .u64 (a0 : Int)] 29)).alloc (.cells #[.int .u64 (x0 : Int), .int .u64 (x1 : Int), .int .u64 (x2 : Int), .int .u64 (x3 : Int)] 108))) (w : World) :
    Calls Tryd.prog 56 #[.agg #[.int .u64 (a1 : Int), .int .u64 (a0 : Int)], .int .u64 (b : Int)] w fun e w' => e = .returned (.tuple #[.agg #[.int .u64 (r1 : Int), .int .u64 (r0 : Int)], .int .u64 (p : Int)]) ∧ Below w.heap.size w w' := by
  go_enter Tryd.func56, Tryd.ntmps56
  go_wp2_with (go_at_call 78; refine (CX.out _).mono ?_; rintro e w' ⟨rfl, rfl⟩)
  obtain ⟨W, hW⟩ : ∃ W, W = (((((((w.alloc (Obj.cells #[.int .u64 (a1 : Int), .int .u64 (a0 : Int)] 29)).alloc (Obj.cells #[.int .u64 0, .int .u64 0] 29)).alloc (Obj.cells #[.int .u64 (a1 : Int), .int .u64 (a0 : Int)] 29)).alloc (Obj.cells #[.int .u64 (x0 : Int), .int .u64 (x1 : Int), .int .u64 (x2 : Int), .int .u64 (x3 : Int)] 108)).alloc (Obj.cells #[.int .u64 (x0 : Int), .int .u64 (x1 : Int), .int .u64 (x2 : Int), .int .u64 (x3 : Int)] 108)).alloc (Obj.cells #[.int .u64 (y0 : Int), .int .u64 (y1 : Int)] 110)).alloc (Obj.cells #[.int .u64 0, .int .u64 0, .int .u64 0, .int .u64 0, .int .u64 0, .int .u64 0] 111)) := ⟨_, rfl⟩
  obtain ⟨go, hgo⟩ : ∃ g, g = w.heap.size + 1 + 1 + 1 + 1 + 1 + 1 := ⟨_, rfl⟩
  obtain ⟨gy, hgy⟩ : ∃ g, g = w.heap.size + 1 + 1 + 1 + 1 + 1 := ⟨_, rfl⟩
  obtain ⟨gx, hgx⟩ : ∃ g, g = w.heap.size + 1 + 1 + 1 + 1 := ⟨_, rfl⟩
  obtain ⟨gr, hgr⟩ : ∃ g, g = w.heap.size + 1 := ⟨_, rfl⟩
  have HS : Hid (TimesMem w gr gx gy go xs ys [0, 0, 0, 0, 0, 0] W) := by
    rw [hW]
    refine ⟨?_, ?_, ?_, ?_, rfl, by simp, (((((((Below.refl _ _).alloc (Nat.le_refl _) _).alloc (by simp) _).alloc (by simp; omega) _).alloc (by simp; omega) _).alloc (by simp; omega) _).alloc (by simp; omega) _).alloc (by simp; omega) _, by omega⟩
    · rw [hxs.out, nums4]
      repeat (first | (refine alloc_here ?_; (simp [hgx]; done)) | refine alloc_past ?_)
    · rw [hys.out]
      show _ = some (Obj.cells #[.int .u64 (y0 : Int), .int .u64 (y1 : Int)] 110 (0, 0))
      repeat (first | (refine alloc_here ?_; (simp [hgy]; done)) | refine alloc_past ?_)
    · show _ = some (Obj.cells #[.int .u64 0, .int .u64 0, .int .u64 0, .int .u64 0, .int .u64 0, .int .u64 0] 111 (0, 0))
      repeat (first | (refine alloc_here ?_; (simp [hgo]; done)) | refine alloc_past ?_)
    · repeat (first | (refine alloc_here ?_; (simp [hgr]; done)) | refine alloc_past ?_)
  rw [← hW, ← hgo, ← hgy, ← hgx, ← hgr]
  have lx : Hid (xs.length = 4) := show _ = _ by rw [hxs.out]; rfl
  have ly : Hid (ys.length = 2) := show _ = _ by rw [hys.out]; rfl
  clear hW hgo hgy hgx hgr m0' m1' m1w
  go_loopw [9] (fun v9 wr => OutIs w gr gx gy go xs ys v9 wr) (fun v9 _ => 2 - (intOf v9).toNat)
  case atStart => exact ⟨0, _, rfl, by omega, HS.out, by intro j hj; match j with | 4 => rfl | 5 => rfl | j + 6 => rfl | 0 => omega | 1 => omega | 2 => omega | 3 => omega, by simp [val]⟩
  case round =>
    obtain ⟨k, out0, rfl, hk2, hM0, hz0, ht0⟩ := hrel
    by_cases hlt : k < 2
    · have d1 : decide ((k : Int) < 2) = true := by simp; omega
      have HLT := Lib.hid hlt
      have HT0 := Lib.hid ht0
      have HZ0 := Lib.hid hz0
      have HM0 := Lib.hid hM0
      clear ht0 hz0 hM0 HS hk2
      go_wp2_with fail
      obtain ⟨wa, rfl⟩ : ∃ wa, wa = wr := ⟨_, rfl⟩
      go_loopw [10, 11] (fun v10 v11 wr => InIs w gr gx gy go k (val out0) xs ys v10 v11 wr) (fun _ v11 _ => 4 - (intOf v11).toNat)
      case atStart => exact ⟨0, 0, out0, rfl, rfl, by omega, by omega, HM0.out, HZ0.out, by simp [val]⟩
      case round =>
        obtain ⟨i, c, out, rfl, rfl, hi4, hc, hM, hz, ht⟩ := hrel
        have HM := Lib.hid hM
        have HZ := Lib.hid hz
        have HT := Lib.hid ht
        have HC := Lib.hid hc
        clear hz ht
        by_cases hi : i < 4
        · have d2 : decide ((i : Int) < 4) = true := by simp; omega
          obtain ⟨j, hj⟩ : ∃ j, j = i + k := ⟨_, rfl⟩
          have j1 : IntKind.i64.wrap ((i : Int) + (k : Int)) = (j : Int) := by rw [IntKind.wrap_i64]; omega
          have j2 : wrap64 ((i : Int) + (k : Int)) = (j : Int) := by unfold wrap64; omega
          have j3 : (i : Int) + (k : Int) = (j : Int) := by omega
          have j3w : wrap64 (j : Int) = (j : Int) := by unfold wrap64; omega
          have j4 : (j : Int) < 6 := by omega
          have j5 : (0 : Int) ≤ (j : Int) := by omega
          have i4 : (i : Int) < 4 := by omega
          have i0 : (0 : Int) ≤ (i : Int) := by omega
          have k2 : (k : Int) < 2 := by omega
          have k0 : (0 : Int) ≤ (k : Int) := by omega
          have cx := (block_cell hM.hx i).trans (nums_get xs i (by have := lx.out; omega))
          have cy := (block_cell hM.hy k).trans (nums_get ys k (by have := ly.out; omega))
          have co := (block_cell hM.ho (i + k)).trans (nums_get out (i + k) (by have := hM.lo; omega))
          have b1 := getD_lt (i := i) bx.out
          have b2 := getD_lt (i := k) by'.out
          have b3 := getD_lt (i := i + k) hM.bo
          obtain ⟨x, hx⟩ : ∃ x, x = xs.getD i 0 := ⟨_, rfl⟩
          obtain ⟨y, hy⟩ : ∃ y, y = ys.getD k 0 := ⟨_, rfl⟩
          obtain ⟨od, hod⟩ : ∃ od, od = out.getD (i + k) 0 := ⟨_, rfl⟩
          rw [← hx] at cx b1
          rw [← hy] at cy b2
          rw [← hod] at co b3
          obtain ⟨n1, n2, n3⟩ := digit_bound b1 b2 b3 hc
          obtain ⟨p, hp⟩ : ∃ p, x * y = p := ⟨_, rfl⟩
          rw [hp] at n1 n2 n3
          obtain ⟨s, hs⟩ : ∃ s, p + od = s := ⟨_, rfl⟩
          rw [hs] at n1 n3
          obtain ⟨v, hv⟩ : ∃ v, s + c = v := ⟨_, rfl⟩
          rw [hv] at n1
          have HV : Hid (v = xs.getD i 0 * ys.getD k 0 + out.getD (i + k) 0 + c) := show _ = _ by rw [← hx, ← hy, ← hod, hp, hs, hv]
          have HP := Lib.hid hp; have HSS := Lib.hid hs; have HVV := Lib.hid hv
          clear hv hs hp hx hy hod
          rw [← hj] at co
          have m1 := modK v; have m2 := tmodK v; have m3 := divN v; have m4 := tdivK v
          have m5 := wrapN (v / 4294967296) (by omega)
          obtain ⟨d, hd⟩ : ∃ d, d = v % 4294967296 := ⟨_, rfl⟩
          obtain ⟨q, hq⟩ : ∃ q, q = v / 4294967296 := ⟨_, rfl⟩
          rw [← hd] at m1 m2
          rw [← hq] at m3 m4 m5
          have HD := Lib.hid hd
          have HQ := Lib.hid hq
          have HI := Lib.hid hi
          have HJ := Lib.hid hj
          have HN1 := Lib.hid n1
          have e1 : IntKind.u64.wrap ((x : Int) * (y : Int)) = (p : Int) := by rw [mulN, HP.out]; exact wrapN _ n2
          have e2 : IntKind.u64.wrap ((p : Int) + (od : Int)) = (s : Int) := by rw [addN, HSS.out]; exact wrapN _ n3
          have e3 : IntKind.u64.wrap ((s : Int) + (c : Int)) = (v : Int) := by rw [addN, HVV.out]; exact wrapN _ n1
          clear hM hc b1 b2 b3 n1 n2 n3 hd hq hj hi HP HSS HVV
          go_wp2_with fail
          go_quiet (fail)
          have HM2 := Lib.hid (HM.out.drewN nq)
          generalize wr.drewN nq = wq at *
          have co2 := (block_cell HM2.out.ho j).trans (nums_get out j (by have := HM2.out.lo; omega))
          have fo2 := block_frozen HM2.out.ho j
          clear cx cy co
          go_wp2_with fail
          go_roundw
          case rel =>
            refine ⟨i + 1, q, out.set j d, rfl, ret_val (by omega), by have := HI.out; omega, by rw [HQ.out]; have := HN1.out; omega, HM2.out.set j d (by rw [HD.out]; omega) rfl, set_zero HZ.out (by have := HI.out; have := HJ.out; omega), ?_⟩
            have h1 := val_set out j d (by have := HM2.out.lo; omega)
            rw [HJ.out] at h1 ⊢
            rw [show i + 1 + k = (i + k) + 1 by omega, Nat.pow_succ, val_next xs i (by have := lx.out; have := HI.out; omega), HQ.out]
            exact mul_step HT.out HV.out HD.out rfl h1 (4294967296 ^ i) (by rw [Nat.pow_add])
          case measure => simp [intOf]; have := HI.out; omega
        · obtain rfl : i = 4 := by omega
          have hz4 := HZ.out (4 + k) (Nat.le_refl _)
          have co := (block_cell hM.ho (4 + k)).trans (nums_get out (4 + k) (by have := hM.lo; omega))
          have fo := block_frozen hM.ho (4 + k)
          rw [hz4] at co
          have co' : wr.cell? ⟨go, 4 + k, none⟩ = some (.int .u64 0) := co
          clear co
          obtain ⟨j, hj⟩ : ∃ j, j = 4 + k := ⟨_, rfl⟩
          rw [← hj] at co' fo
          have j2 : wrap64 (4 + (k : Int)) = (j : Int) := by unfold wrap64; omega
          have j3 : 4 + (k : Int) = (j : Int) := by omega
          have j3w : wrap64 (j : Int) = (j : Int) := by unfold wrap64; omega
          have j4 : (j : Int) < 6 := by omega
          have j5 : (0 : Int) ≤ (j : Int) := by omega
          have cw := wrapN c (by omega)
          have HJ := Lib.hid hj
          clear hM hc hj hi4 hi hz4
          go_wp2_with fail
          go_roundw
          case rel =>
            refine ⟨k + 1, out.set (4 + k) c, ret_val (by omega), by have := HLT.out; omega, HM.out.set (4 + k) c HC.out (by rw [HJ.out]), set_zero' HZ.out, ?_⟩
            have h1 := val_set out (4 + k) c (by have := HM.out.lo; have := HLT.out; omega)
            rw [HZ.out (4 + k) (Nat.le_refl _), Nat.zero_mul, Nat.add_zero] at h1
            rw [h1, HT.out, HT0.out, List.take_of_length_le (by have := lx.out; omega : xs.length ≤ 4), val_take_next ys k _ (by have := ly.out; have := HLT.out; omega)]
          case measure => simp [intOf]; have := HLT.out; omega
    · obtain rfl : k = 2 := by omega
      have HM := Lib.hid hM0
      have hv : val out0 = a * b := by rw [ht0, List.take_of_length_le (by have := ly.out; omega : ys.length ≤ 2), VA.out, VB.out]
      obtain ⟨o0, o1, o2, o3, o4, o5, rfl⟩ : ∃ o0 o1 o2 o3 o4 o5, out0 = [o0, o1, o2, o3, o4, o5] := by
        match out0, hM0.lo with
        | [o0, o1, o2, o3, o4, o5], _ => exact ⟨o0, o1, o2, o3, o4, o5, rfl⟩
      have g0 := hM0.bo o0 (by simp); have g1 := hM0.bo o1 (by simp); have g2 := hM0.bo o2 (by simp); have g3 := hM0.bo o3 (by simp); have g4 := hM0.bo o4 (by simp); have g5 := hM0.bo o5 (by simp)
      obtain ⟨q1, q0, qp⟩ := six_of g0 g1 g2 g3 hv
      rw [← E1.out] at q1
      rw [← E0.out] at q0
      rw [← EP.out] at qp
      have CW := Lib.hid (wideR_at o0 o1 o2 o3 o4 o5 r1 r0 g0 g1 g2 g3 q1 q0)
      have e5 : IntKind.u64.wrap ((o5 : Int) * 4294967296) = ((o5 * 4294967296 : Nat) : Int) := by rw [IntKind.wrap_u64]; omega
      have e4 : IntKind.u64.wrap (((o5 * 4294967296 : Nat) : Int) + (o4 : Int)) = (p : Int) := by rw [IntKind.wrap_u64]; omega
      generalize o5 * 4294967296 = z5 at e5 e4
      have c0 := block_cell hM0.ho 0; have c1 := block_cell hM0.ho 1; have c2 := block_cell hM0.ho 2; have c3 := block_cell hM0.ho 3; have c4 := block_cell hM0.ho 4; have c5 := block_cell hM0.ho 5
      simp only [nums, List.map_cons, List.map_nil, List.getElem?_toArray, List.getElem?_cons_zero, List.getElem?_cons_succ] at c0 c1 c2 c3 c4 c5
      have i0 := block_cell hM0.hr 0
      have i1 := block_cell hM0.hr 1
      have f0 := block_frozen hM0.hr 0
      have f1 := block_frozen hM0.hr 1
      simp only [List.getElem?_toArray, List.getElem?_cons_zero, List.getElem?_cons_succ] at i0 i1
      have zr : gr < wr.heap.size := block_lt hM0.hr
      have ne := hM0.apart.2.2.1
      have ne' : go ≠ gr := fun h => ne h.symm
      clear hM0 hz0 ht0 HS hk2 hlt hv g0 g1 g2 g3 g4 g5 q1 q0 qp
      go_wp2_with fail
      go_region_held3 (fun V : World => V.cell? ⟨go, 0, none⟩ = some (.int .u64 (o0 : Int)) ∧ V.cell? ⟨go, 1, none⟩ = some (.int .u64 (o1 : Int)) ∧ V.cell? ⟨go, 2, none⟩ = some (.int .u64 (o2 : Int)) ∧ V.cell? ⟨go, 3, none⟩ = some (.int .u64 (o3 : Int)) ∧ V.cell? ⟨go, 4, none⟩ = some (.int .u64 (o4 : Int)) ∧ V.cell? ⟨go, 5, none⟩ = some (.int .u64 (o5 : Int)))
        ((refine ⟨?_, ?_, ?_, ?_, ?_, ?_⟩ <;> (repeat (first | with_reducible refine cell_drew ?_ | with_reducible refine cell_past _ ?_ | refine cell_set ?_ (by simp; omega))) <;> (first | with_reducible exact c0 | with_reducible exact c1 | with_reducible exact c2 | with_reducible exact c3 | with_reducible exact c4 | with_reducible exact c5)))
        (first | (go_at_call 79; (with_reducible refine (CW.out _).mono ?_); rintro e w1 ⟨rfl, rfl⟩))
      all_goals (
        go_wp2_with fail
        refine bodyPost_ret (results_row2 rfl _ _ gr _ rfl (load_wide (heap_drew (alloc_past (alloc_past (two_set HM.out.hr)))))) rfl ?_
        have hb := below_two HM.out.low HM.out.apart.2.2.2.2 (.int .u64 (r1 : Int)) (.int .u64 (r0 : Int))
        exact ⟨tuple_two rfl rfl, ((hb.alloc hb.size _).alloc (by have := hb.size; simp at this ⊢; omega) _).drew⟩)
theorem refTimes_any (a b : Nat) (ha : a < 340282366920938463463374607431768211456) (hb : b < 18446744073709551616) (w : World) :
    Calls Tryd.prog 56 #[wv a, .int .u64 (b : Int)] w fun e w' => e = .returned (.tuple #[wv (a * b % 340282366920938463463374607431768211456), .int .u64 ((a * b / 340282366920938463463374607431768211456 : Nat) : Int)]) ∧ Below w.heap.size w w' :=
  refTimes_core _ _ b (limbs a) [b % 4294967296, b / 4294967296] _ _ _ _ _ _ a _ _ _ limbs_val (show _ = _ by simp only [val]; omega) rfl rfl rfl (times_over ha hb) rfl rfl (limbs_lt ha)
    (fun d hd => by simp only [List.mem_cons, List.not_mem_nil, or_false] at hd; omega) (tmodK b) (tdivK b) (wrapN _ (by omega))
    (limbs_at _ _ _ _ _ _ rfl rfl rfl rfl (by omega) (by omega)) w
end Go.Proofs.YtkkoefiennccoaaDoor
