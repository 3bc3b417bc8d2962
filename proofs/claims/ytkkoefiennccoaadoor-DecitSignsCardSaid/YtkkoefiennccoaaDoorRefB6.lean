/-
  What the document's Add does; no condition beyond what the contract asks.
-/
import Derived.Test.YtkkoefiennccoaaDoorRefA6

namespace Go.Proofs.YtkkoefiennccoaaDoor
open Go.RowKit
theorem heap_drew {V : World} {k : Nat} {x : Option Obj} (h : V.heap[k]? = x) : V.drew.heap[k]? = x := h
theorem alloc_here {V : World} {k : Nat} {o : Obj} (z : V.heap.size = k) : (V.alloc o).heap[k]? = some o := by subst z; exact heap_alloc_new _ _
theorem alloc_past {V : World} {k : Nat} {o x : Obj} (h : V.heap[k]? = some x) : (V.alloc o).heap[k]? = some x := (Below.heap_alloc V o k (block_lt h)).trans h
/-- The cells that numbers are. -/
def nums (l : List Nat) : Array Value := (l.map fun n : Nat => Value.int .u64 (n : Int)).toArray
theorem nums_get (l : List Nat) (i : Nat) (h : i < l.length) : (nums l)[i]? = some (.int .u64 ((l.getD i 0 : Nat) : Int)) := by
  simp [nums, List.getD, h]
theorem nums_set (l : List Nat) (i d : Nat) : (nums l).setIfInBounds i (.int .u64 (d : Int)) = nums (l.set i d) := by
  simp [nums, List.map_set]
theorem nums4 (a b c d : Nat) : nums [a, b, c, d] = #[.int .u64 (a : Int), .int .u64 (b : Int), .int .u64 (c : Int), .int .u64 (d : Int)] := rfl
theorem below_six (W : World) (o1 o2 o3 o4 o5 o6 : Obj) : Below W.heap.size W ((((((W.alloc o1).alloc o2).alloc o3).alloc o4).alloc o5).alloc o6).drew :=
  ((((((((Below.refl W.heap.size W).alloc (Nat.le_refl _) _).alloc (by simp) _).alloc (by simp; omega) _).alloc (by simp; omega) _).alloc (by simp; omega) _).alloc (by simp; omega) _).drew)
/-- What stands behind 'x, y := limbs(a), limbs(b)'. -/
def LimbCut (W : World) (n : Nat) (xs ys : List Nat) (s6 s7 : Value) (wx : World) : Prop :=
  ∃ g h : Nat, s6 = .pointer (some ⟨g, 0, none⟩) ∧ s7 = .pointer (some ⟨h, 0, none⟩) ∧ n + 3 ≤ g ∧ n + 3 ≤ h ∧ wx.heap[g]? = some (.cells (nums xs) 108 (0, 0)) ∧
    wx.heap[h]? = some (.cells (nums ys) 108 (0, 0)) ∧ Below W.heap.size W wx
/-- What holds at the head of the loop: i digits of the sum stand, c is carried. -/
structure AddAt (w : World) (n gx gy go i c : Nat) (xs ys out : List Nat) (wr : World) : Prop where
  hi : i ≤ 4
  hc : c ≤ 1
  hx : wr.heap[gx]? = some (.cells (nums xs) 108 (0, 0))
  hy : wr.heap[gy]? = some (.cells (nums ys) 108 (0, 0))
  ho : wr.heap[go]? = some (.cells (nums out) 111 (0, 0))
  hr : wr.heap[n + 2]? = some (.cells #[.int .u64 0, .int .u64 0] 29 (0, 0))
  lo : out.length = 6
  bo : ∀ d ∈ out, d < 4294967296
  told : val (out.take i) + c * 4294967296 ^ i = val (xs.take i) + val (ys.take i)
  low : Below w.heap.size w wr
def AddIs (w : World) (n gx gy go : Nat) (xs ys : List Nat) (v9 v10 : Value) (wr : World) : Prop := ∃ i c out, v9 = .int .u64 ((c : Nat) : Int) ∧ v10 = .int .i64 ((i : Nat) : Int) ∧ AddAt w n gx gy go i c xs ys out wr
theorem AddAt.next {w : World} {n gx gy go i c : Nat} {xs ys out : List Nat} {wr w2 : World} (h : AddAt w n gx gy go i c xs ys out wr) (hi : i < 4) (lx : xs.length = 4) (ly : ys.length = 4) (bx : ∀ d ∈ xs, d < 4294967296) (by' : ∀ d ∈ ys, d < 4294967296)
    (hg : gx ≠ go) (hg' : gy ≠ go) (hn : n + 2 ≠ go) (hw : w.heap.size ≤ go) (v d : Nat) (hv : v = xs.getD i 0 + ys.getD i 0 + c) (hd : d = v % 4294967296) (e : w2 = wr.setCell ⟨go, i, none⟩ (.int .u64 (d : Int))) :
    AddAt w n gx gy go (i + 1) (v / 4294967296) xs ys (out.set i d) w2 := by
  have b1 := getD_lt (i := i) bx
  have b2 := getD_lt (i := i) by'
  have hc := h.hc
  have hl := h.lo
  subst e
  refine ⟨by omega, by omega, ?_, ?_, ?_, ?_, by simp [hl], set_lt h.bo (by omega), ?_, h.low.setCell (p := ⟨go, i, none⟩) hw _⟩
  · rw [Below.heap_setCell _ _ _ _ hg]; exact h.hx
  · rw [Below.heap_setCell _ _ _ _ hg']; exact h.hy
  · rw [block_set h.ho, nums_set]
  · rw [Below.heap_setCell _ _ _ _ hn]; exact h.hr
  · rw [val_set_next out i d (by omega), val_next xs i (by omega), val_next ys i (by omega), Nat.pow_succ]
    exact sum_step h.told hv hd rfl
theorem AddAt.drewN {w : World} {n gx gy go i c : Nat} {xs ys out : List Nat} {wr : World} (h : AddAt w n gx gy go i c xs ys out wr) (m : Nat) : AddAt w n gx gy go i c xs ys out (wr.drewN m) :=
  ⟨h.hi, h.hc, h.hx, h.hy, h.ho, h.hr, h.lo, h.bo, h.told, ⟨h.low.os, h.low.tape, h.low.output, h.low.size, h.low.block⟩⟩
/-- What is told at the end. -/
theorem AddAt.last {w : World} {n gx gy go c : Nat} {xs ys out : List Nat} {wr : World} {a b : Nat} (h : AddAt w n gx gy go 4 c xs ys out wr) (lx : xs.length = 4) (ly : ys.length = 4) (ha : val xs = a) (hb : val ys = b) :
    ∃ o0 o1 o2 o3 o4 o5, out = [o0, o1, o2, o3, o4, o5] ∧ o0 < 4294967296 ∧ o1 < 4294967296 ∧ o2 < 4294967296 ∧ o3 < 4294967296 ∧
      o3 * 4294967296 + o2 = (a + b) % 340282366920938463463374607431768211456 / 18446744073709551616 ∧ o1 * 4294967296 + o0 = (a + b) % 340282366920938463463374607431768211456 % 18446744073709551616 ∧ c = (a + b) / 340282366920938463463374607431768211456 := by
  have ho := h.told
  have hb' := h.bo
  have hl := h.lo
  rw [List.take_of_length_le (by omega : xs.length ≤ 4), List.take_of_length_le (by omega : ys.length ≤ 4), ha, hb] at ho
  match out, hl with
  | [o0, o1, o2, o3, o4, o5], _ =>
    have b0 := hb' o0 (by simp); have b1 := hb' o1 (by simp); have b2 := hb' o2 (by simp); have b3 := hb' o3 (by simp)
    have e : List.take 4 [o0, o1, o2, o3, o4, o5] = [o0, o1, o2, o3] := rfl
    rw [e] at ho
    obtain ⟨m, hm⟩ : ∃ m, val [o0, o1, o2, o3] = m := ⟨_, rfl⟩
    obtain ⟨q1, q2, q3⟩ := four_of b0 b1 b2 b3 hm
    rw [hm] at ho
    have ep : (4294967296 : Nat) ^ 4 = 340282366920938463463374607431768211456 := by decide
    rw [ep] at ho
    obtain ⟨e1, e2⟩ := div_of (n := a + b) (m := m) (k := c) (b := 340282366920938463463374607431768211456) (by omega) (by omega)
    rw [Nat.mod_eq_of_lt q3] at e2
    rw [Nat.div_eq_of_lt q3, Nat.add_zero] at e1
    exact ⟨o0, o1, o2, o3, o4, o5, rfl, b0, b1, b2, b3, by rw [e2]; exact q1, by rw [e2]; exact q2, e1.symm⟩
set_option maxHeartbeats 4000000 in
theorem refAdd_core (a1 a0 b1 b0 : Nat) (xs ys : List Nat) (x0 x1 x2 x3 y0 y1 y2 y3 : Nat) (a b r1 r0 : Nat) (o : Bool) (VA : Hid (val xs = a)) (VB : Hid (val ys = b)) (E1 : Hid (r1 = (a + b) % 340282366920938463463374607431768211456 / 18446744073709551616)) (E0 : Hid (r0 = (a + b) % 340282366920938463463374607431768211456 % 18446744073709551616)) (EO : Hid (o = decide ((a + b) / 340282366920938463463374607431768211456 ≠ 0))) (hxs : Hid (xs = [x0, x1, x2, x3])) (hys : Hid (ys = [y0, y1, y2, y3])) (bx : Hid (∀ d ∈ xs, d < 4294967296)) (by' : Hid (∀ d ∈ ys, d < 4294967296))
    (CX : Hid (∀ w, Calls Tryd.prog 78 #[.agg #[.int .u64 (a1 : Int), .int .u64 (a0 : Int)]] w fun e w' => e = .returned (.agg #[.int .u64 (x0 : Int), .int .u64 (x1 : Int), .int .u64 (x2 : Int), .int .u64 (x3 : Int)]) ∧
      w' = (w.alloc (.cells #[.int .u64 (a1 : Int), .int .u64 (a0 : Int)] 29)).alloc (.cells #[.int .u64 (x0 : Int), .int .u64 (x1 : Int), .int .u64 (x2 : Int), .int .u64 (x3 : Int)] 108)))
    (CY : Hid (∀ w, Calls Tryd.prog 78 #[.agg #[.int .u64 (b1 : Int), .int .u64 (b0 : Int)]] w fun e w' => e = .returned (.agg #[.int .u64 (y0 : Int), .int .u64 (y1 : Int), .int .u64 (y2 : Int), .int .u64 (y3 : Int)]) ∧
      w' = (w.alloc (.cells #[.int .u64 (b1 : Int), .int .u64 (b0 : Int)] 29)).alloc (.cells #[.int .u64 (y0 : Int), .int .u64 (y1 : Int), .int .u64 (y2 : Int), .int .u64 (y3 : Int)] 108))) (w : World) :
    Calls Tryd.prog 57 #[.agg #[.int .u64 (a1 : Int), .int .u64 (a0 : Int)], .agg #[.int .u64 (b1 : Int), .int .u64 (b0 : Int)]] w fun e w' => e = .returned (.tuple #[.agg #[.int .u64 (r1 : Int), .int .u64 (r0 : Int)], .bool o]) ∧ Below w.heap.size w w' := by
  go_enter Tryd.func57, Tryd.ntmps57
  go_upto_region 1 with fail
  obtain ⟨W, hW⟩ : ∃ W, W = (((w.alloc (Obj.cells #[.int .u64 (a1 : Int), .int .u64 (a0 : Int)] 29)).alloc (Obj.cells #[.int .u64 (b1 : Int), .int .u64 (b0 : Int)] 29)).alloc (Obj.cells #[.int .u64 0, .int .u64 0] 29)) := ⟨_, rfl⟩
  obtain ⟨n, hn⟩ : ∃ n, n = w.heap.size := ⟨_, rfl⟩
  have z0 : W.heap.size = n + 3 := by rw [hW, hn]; simp
  have k0 : W.cell? ⟨n, 0, none⟩ = some (.int .u64 (a1 : Int)) := by rw [hW, hn]; simp [go_sem]
  have k1 : W.cell? ⟨n, 1, none⟩ = some (.int .u64 (a0 : Int)) := by rw [hW, hn]; simp [go_sem]
  have k2 : W.cell? ⟨n + 1, 0, none⟩ = some (.int .u64 (b1 : Int)) := by rw [hW, hn]; simp [go_sem]
  have k3 : W.cell? ⟨n + 1, 1, none⟩ = some (.int .u64 (b0 : Int)) := by rw [hW, hn]; simp [go_sem]
  have HR : Hid (W.heap[n + 2]? = some (.cells #[.int .u64 0, .int .u64 0] 29 (0, 0))) := show _ = _ by rw [hW]; exact alloc_here (by simp [hn])
  have HB : Hid (Below w.heap.size w W) := by rw [hW]; exact (((Below.refl _ _).alloc (Nat.le_refl _) _).alloc (by simp) _).alloc (by simp; omega) _
  have HN := Lib.hid hn
  rw [← hW, ← hn]
  clear hW hn
  go_cut [6, 7] (fun s6 s7 wx => LimbCut W n xs ys s6 s7 wx)
  case first =>
    have Z0 := Lib.hid z0
    go_region_held3 (fun V : World => V.cell? ⟨n, 0, none⟩ = some (.int .u64 (a1 : Int)) ∧ V.cell? ⟨n, 1, none⟩ = some (.int .u64 (a0 : Int)) ∧ V.cell? ⟨n + 1, 0, none⟩ = some (.int .u64 (b1 : Int)) ∧ V.cell? ⟨n + 1, 1, none⟩ = some (.int .u64 (b0 : Int)))
      ((refine ⟨?_, ?_, ?_, ?_⟩ <;> (repeat (first | with_reducible refine cell_drew ?_ | with_reducible refine cell_past _ ?_)) <;> (first | with_reducible exact k0 | with_reducible exact k1 | with_reducible exact k2 | with_reducible exact k3)))
      (first | (go_at_call 78; (with_reducible refine (CX.out _).mono ?_); rintro e w1 ⟨rfl, rfl⟩) | (go_at_call 78; (with_reducible refine (CY.out _).mono ?_); rintro e w2 ⟨rfl, rfl⟩))
    all_goals (
      go_wp2_with fail
      go_meet
      refine ⟨_, _, rfl, rfl, by omega, by omega, ?_, ?_, below_six _ _ _ _ _ _ _⟩
      · rw [hxs.out, nums4]
        refine heap_drew ?_
        repeat (first | (refine alloc_here ?_; (simp [z0]; done)) | refine alloc_past ?_)
      · rw [hys.out, nums4]
        refine heap_drew ?_
        repeat (first | (refine alloc_here ?_; (simp [z0]; done)) | refine alloc_past ?_))
  case rest =>
    obtain ⟨gx, gy, rfl, rfl, hgx, hgy, hX, hY, hB⟩ := hcut
    have HX := Lib.hid hX; have HY := Lib.hid hY
    have HRc := Lib.hid ((hB.block (n + 2) (by omega)).trans HR.out)
    have HBc : Hid (Below w.heap.size w wc) := HB.out.trans (hB.mono HB.out.size)
    have hsz : n + 3 ≤ wc.heap.size := by have := hB.size; omega
    clear hX hY hB k0 k1 k2 k3 z0
    go_wp2_with fail
    obtain ⟨go, hgo⟩ : ∃ go, go = wc.heap.size := ⟨_, rfl⟩
    have zx : gx < wc.heap.size := block_lt HX.out
    have zy : gy < wc.heap.size := block_lt HY.out
    have zr : n + 2 < wc.heap.size := block_lt HRc.out
    have hnw : w.heap.size ≤ go := by have := HBc.out.size; omega
    have lx : Hid (xs.length = 4) := show _ = _ by rw [hxs.out]; rfl
    have ly : Hid (ys.length = 4) := show _ = _ by rw [hys.out]; rfl
    have hs0 : Hid (AddAt w n gx gy go 0 0 xs ys [0, 0, 0, 0, 0, 0] (wc.alloc (Obj.cells #[.int .u64 0, .int .u64 0, .int .u64 0, .int .u64 0, .int .u64 0, .int .u64 0] 111))) :=
      ⟨by omega, by omega, alloc_past HX.out, alloc_past HY.out, alloc_here hgo.symm, alloc_past HRc.out, rfl, by simp, by simp [val], HBc.out.alloc HBc.out.size _⟩
    rw [← hgo]
    have gx' : Hid (gx ≠ go) := show _ ≠ _ by omega
    have gy' : Hid (gy ≠ go) := show _ ≠ _ by omega
    have gr' : Hid (n + 2 ≠ go) := show _ ≠ _ by omega
    have gw' := Lib.hid hnw
    have HGN : Hid (w.heap.size ≤ n + 2) := show _ ≤ _ by have := HN.out; omega
    clear hgo zx zy zr hnw hgx hgy hsz
    go_loopw [9, 10] (fun v9 v10 wr => AddIs w n gx gy go xs ys v9 v10 wr) (fun _ v10 _ => 4 - (intOf v10).toNat)
    case atStart => exact ⟨0, 0, _, rfl, rfl, hs0.out⟩
    case round =>
      obtain ⟨i, c, out, rfl, rfl, hA⟩ := hrel
      have HA := Lib.hid hA
      have hi4 := hA.hi
      have hc1 := hA.hc
      by_cases hlt : i < 4
      · have d1 : decide ((i : Int) < 4) = true := by simp; omega
        have ii : (i : Int) < 4 := by omega
        have i6 : (i : Int) < 6 := by omega
        have i00 : (0 : Int) ≤ (i : Int) := by omega
        have cx := (block_cell hA.hx i).trans (nums_get xs i (by have := lx.out; omega))
        have cy := (block_cell hA.hy i).trans (nums_get ys i (by have := ly.out; omega))
        have bx' := getD_lt (i := i) bx.out
        have by'' := getD_lt (i := i) by'.out
        obtain ⟨x, hx⟩ : ∃ x, x = xs.getD i 0 := ⟨_, rfl⟩
        obtain ⟨y, hy⟩ : ∃ y, y = ys.getD i 0 := ⟨_, rfl⟩
        rw [← hx] at cx bx'
        rw [← hy] at cy by''
        obtain ⟨s, hs⟩ : ∃ s, s = x + y := ⟨_, rfl⟩
        obtain ⟨v, hv⟩ : ∃ v, v = s + c := ⟨_, rfl⟩
        have e1 : IntKind.u64.wrap ((x : Int) + (y : Int)) = (s : Int) := by rw [IntKind.wrap_u64]; omega
        have e2 : IntKind.u64.wrap ((s : Int) + (c : Int)) = (v : Int) := by rw [IntKind.wrap_u64]; omega
        have HV : Hid (v = xs.getD i 0 + ys.getD i 0 + c) := show _ = _ by rw [hv, hs, hx, hy]
        have hvb : v < 18446744073709551616 := by omega
        have m1 := modK v; have m2 := tmodK v; have m3 := divN v; have m4 := tdivK v
        have m5 := wrapN (v / 4294967296) (by omega)
        obtain ⟨d, hd⟩ : ∃ d, d = v % 4294967296 := ⟨_, rfl⟩
        obtain ⟨q, hq⟩ : ∃ q, q = v / 4294967296 := ⟨_, rfl⟩
        rw [← hd] at m1 m2
        rw [← hq] at m3 m4 m5
        have HD := Lib.hid hd
        have HQ := Lib.hid hq
        have HLT := Lib.hid hlt
        clear hA hx hy hs hv hd hq bx' by'' hvb hlt
        go_wp2_with fail
        go_quiet (fail)
        have HA2 := Lib.hid (HA.out.drewN nq)
        generalize wr.drewN nq = wq at *
        have co := (block_cell HA2.out.ho i).trans (nums_get out i (by have := HA2.out.lo; omega))
        have fo := block_frozen HA2.out.ho i
        clear cx cy
        go_wp2_with fail
        go_roundw
        case rel =>
          refine ⟨i + 1, q, out.set i d, rfl, ret_val (by omega), ?_⟩
          rw [HQ.out]
          exact HA2.out.next HLT.out lx.out ly.out bx.out by'.out gx'.out gy'.out gr'.out gw'.out v d HV.out HD.out rfl
        case measure => simp [intOf]; omega
      · obtain rfl : i = 4 := by omega
        obtain ⟨o0, o1, o2, o3, o4, o5, rfl, p0, p1, p2, p3, q1, q0, qc⟩ := hA.last lx.out ly.out VA.out VB.out
        rw [← E1.out] at q1
        rw [← E0.out] at q0
        have CW := Lib.hid (wideR_any o0 o1 o2 o3 o4 o5 r1 r0 p0 p1 p2 p3 q1 q0)
        have HO : Hid (o = decide (c ≠ 0)) := show _ = _ by rw [EO.out, ← qc]
        have c0 := block_cell hA.ho 0; have c1 := block_cell hA.ho 1; have c2 := block_cell hA.ho 2; have c3 := block_cell hA.ho 3; have c4 := block_cell hA.ho 4; have c5 := block_cell hA.ho 5
        simp only [nums, List.map_cons, List.map_nil, List.getElem?_toArray, List.getElem?_cons_zero, List.getElem?_cons_succ] at c0 c1 c2 c3 c4 c5
        have HO3 : Hid (decide (0 < c) = o) := show _ = _ by rw [HO.out]; congr 1; simp; omega
        clear hA p0 p1 p2 p3 q1 q0 qc hlt hc1
        go_wp2_with fail
        refine (CW.out _).mono ?_
        rintro e w2 ⟨rfl, B2⟩
        have HR2 := Lib.hid ((B2.block _ (block_lt HA.out.hr)).trans HA.out.hr)
        have HB2 : Hid (Below w.heap.size w w2) := HA.out.low.trans (B2.mono HA.out.low.size)
        have s0 := block_cell HR2.out 0
        have s1 := block_cell HR2.out 1
        have f0 := block_frozen HR2.out 0
        have f1 := block_frozen HR2.out 1
        simp only [List.getElem?_toArray, List.getElem?_cons_zero, List.getElem?_cons_succ] at s0 s1
        clear B2 c0 c1 c2 c3 c4 c5
        go_wp2_with fail
        refine bodyPost_ret (results_row2 rfl _ _ (n + 2) _ rfl (load_wide (two_set HR2.out))) rfl ?_
        exact ⟨tuple_two rfl (congrArg Value.bool HO3.out), below_two HB2.out HGN.out _ _⟩
theorem refAdd_any (a b : Nat) (ha : a < 340282366920938463463374607431768211456) (hb : b < 340282366920938463463374607431768211456) (w : World) :
    Calls Tryd.prog 57 #[wv a, wv b] w fun e w' => e = .returned (.tuple #[wv ((a + b) % 340282366920938463463374607431768211456), .bool (decide (340282366920938463463374607431768211456 ≤ a + b))]) ∧ Below w.heap.size w w' :=
  refAdd_core _ _ _ _ (limbs a) (limbs b) _ _ _ _ _ _ _ _ a b _ _ _ limbs_val limbs_val rfl rfl (show _ = _ by congr 1; simp) rfl rfl (limbs_lt ha) (limbs_lt hb)
    (limbs_at _ _ _ _ _ _ rfl rfl rfl rfl (by omega) (by omega)) (limbs_at _ _ _ _ _ _ rfl rfl rfl rfl (by omega) (by omega)) w
end Go.Proofs.YtkkoefiennccoaaDoor
