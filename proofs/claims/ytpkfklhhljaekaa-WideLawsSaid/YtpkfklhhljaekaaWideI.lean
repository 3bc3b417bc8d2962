/-
  What wide's Parse does; no condition beyond what the contract asks.
-/
import Derived.Test.YtpkfklhhljaekaaWideF
namespace Go.Proofs.Ytpkfklhhljaekaa
open Go.RowKit

theorem at_txt (l : List UInt8) (kd : IntKind) (i : Int) (j : Nat) (hi : i = (j : Int)) (hj : j < l.length) (w : World) :
    (Instr.index 9 (.string ⟨l.toArray⟩) (.int kd i)).run Try.prog w = .ok (.int .u8 ((l.getD j 0).toNat : Int)) w := by
  subst hi
  rw [run_index_string w _ _ _ _ Try.underlying9, dif_pos ⟨by omega, by simp [ByteArray.size]; omega⟩]
  have e : (⟨l.toArray⟩ : ByteArray)[((j : Int)).toNat]'(by simp [ByteArray.size]; omega) = l.getD j 0 := by
    show l.toArray[((j : Int)).toNat]'(by simp; omega) = l.getD j 0
    simp [List.getD, hj]
  rw [e]
theorem rd_at {s : List UInt8} {v k : Nat} (h : k < s.length) : rd v (s.drop k) =
    if (s.getD k 0).toNat < 48 ∨ 57 < (s.getD k 0).toNat then none else if 340282366920938463463374607431768211456 ≤ v * 10 + ((s.getD k 0).toNat - 48) then none else rd (v * 10 + ((s.getD k 0).toNat - 48)) (s.drop (k + 1)) := by
  have e : s.drop k = s.getD k 0 :: s.drop (k + 1) := by
    rw [List.drop_eq_getElem_cons h]
    simp [List.getD, h]
  rw [e, rd]

/-- What Parse answers. -/
def parV (r : Option Nat) : Value := .tuple #[wv (r.getD 0), .bool r.isSome]
theorem parV_none {r : Option Nat} (h : r = none) : Ending.returned (.tuple #[.agg #[.int .u64 0, .int .u64 0], .bool false]) = .returned (parV r) := by rw [h]; rfl
theorem parV_some {r : Option Nat} {v a1 a0 : Nat} (h : r = some v) (h1 : a1 = v / 18446744073709551616) (h0 : a0 = v % 18446744073709551616) : Ending.returned (.tuple #[.agg #[.int .u64 (a1 : Int), .int .u64 (a0 : Int)], .bool true]) = .returned (parV r) := by
  rw [h, h1, h0]; rfl

set_option maxHeartbeats 400000 in
theorem of_at (v : Nat) (w : World) :
    Calls Try.prog 16 #[.int .u64 (v : Int)] w fun e w' => e = .returned (.agg #[.int .u64 0, .int .u64 (v : Int)]) ∧ w' = w.alloc (.cells #[.int .u64 0, .int .u64 (v : Int)] 24) := by
  go_enter Try.func16, Try.ntmps16
  go_wp2_with fail
  refine bodyPost_ret (v := .agg #[.int .u64 0, .int .u64 (v : Int)]) (by simp [results, Try.results16, go_sem]) rfl ?_
  exact ⟨rfl, rfl⟩
set_option maxHeartbeats 400000 in
/-- Add onto a small number, with the very world. -/
theorem add_at (a1 a0 d l c m o : Nat) (hc : c ≤ 1) (x1 : (a0 + d) / 18446744073709551616 = c) (x2 : (a0 + d) % 18446744073709551616 = l) (x3 : (a1 + 0 + c) / 18446744073709551616 = o) (x4 : (a1 + 0 + c) % 18446744073709551616 = m) (w : World) :
    Calls Try.prog 10 #[.agg #[.int .u64 (a1 : Int), .int .u64 (a0 : Int)], .agg #[.int .u64 0, .int .u64 (d : Int)]] w fun e w' => e = .returned (.tuple #[.agg #[.int .u64 (m : Int), .int .u64 (l : Int)], .bool ((o : Int) != 0)]) ∧
      w' = ((w.alloc (.cells #[.int .u64 (a1 : Int), .int .u64 (a0 : Int)] 24)).alloc (.cells #[.int .u64 0, .int .u64 (d : Int)] 24)).alloc (.cells #[.int .u64 (m : Int), .int .u64 (l : Int)] 24) := by
  have y1 := add64_zero a0 d
  have y2 : ∀ w, (callFunc 29 #[.int .u64 (a1 : Int), .int .u64 0, .int .u64 (c : Int)]).run Try.prog w = _ := add64_any a1 0 c hc
  rw [x1, x2] at y1
  rw [x3, x4] at y2
  clear x1 x2 x3 x4 hc
  go_enter Try.func10, Try.ntmps10
  go_wp2_with (first | (rw [y1, Oper.upon_value]) | (rw [y2, Oper.upon_value]))
  refine bodyPost_ret (v := .tuple #[.agg #[.int .u64 (m : Int), .int .u64 (l : Int)], .bool ((o : Int) != 0)]) (by simp [results, Try.results10, go_sem]) rfl ?_
  exact ⟨rfl, rfl⟩

/-- What holds at the head of Parse's loop. -/
structure ParseAt (w : World) (s : List UInt8) (k v : Nat) (wr : World) : Prop where
  hk : k ≤ s.length
  hv : v < 340282366920938463463374607431768211456
  res : wr.heap[w.heap.size]? = some (.cells #[.int .u64 0, .int .u64 0] 24 (0, 0))
  box : wr.heap[w.heap.size + 1]? = some (.cells #[.int .u64 ((v / 18446744073709551616 : Nat) : Int), .int .u64 ((v % 18446744073709551616 : Nat) : Int)] 24 (0, 0))
  low : Below w.heap.size w wr
  told : rd 0 s = rd v (s.drop k)
def ParseIs (w : World) (s : List UInt8) (x : Value) (wr : World) : Prop := ∃ k v, x = .int .i64 ((k : Nat) : Int) ∧ ParseAt w s k v wr

/-- What stands behind 'sum, over := ..': a pointer to a new block that holds the sum, and whether it went beyond. -/
def SumCut (W : World) (m l o : Nat) (s8 s9 : Value) (wx : World) : Prop :=
  ∃ g : Nat, s8 = .pointer (some ⟨g, 0, none⟩) ∧ s9 = .bool ((o : Int) != 0) ∧ W.heap.size ≤ g ∧ wx.heap[g]? = some (.cells #[.int .u64 (m : Int), .int .u64 (l : Int)] 24 (0, 0)) ∧ Below W.heap.size W wx
theorem five_blocks {W : World} (o1 o2 o3 o4 o5 : Obj) :
    (((((W.alloc o1).alloc o2).alloc o3).alloc o4).alloc o5).drew.heap[W.heap.size]? = some o1 ∧ (((((W.alloc o1).alloc o2).alloc o3).alloc o4).alloc o5).drew.heap[W.heap.size + 1]? = some o2 ∧
    (((((W.alloc o1).alloc o2).alloc o3).alloc o4).alloc o5).drew.heap[W.heap.size + 1 + 1 + 1 + 1]? = some o5 ∧ Below W.heap.size W (((((W.alloc o1).alloc o2).alloc o3).alloc o4).alloc o5).drew := by
  have e1 : (W.alloc o1).heap.size = W.heap.size + 1 := by simp
  have e2 : ((W.alloc o1).alloc o2).heap.size = W.heap.size + 1 + 1 := by simp
  have e3 : (((W.alloc o1).alloc o2).alloc o3).heap.size = W.heap.size + 1 + 1 + 1 := by simp
  have e4 : ((((W.alloc o1).alloc o2).alloc o3).alloc o4).heap.size = W.heap.size + 1 + 1 + 1 + 1 := by simp
  refine ⟨?_, ?_, ?_, ((((((Below.refl W.heap.size W).alloc (Nat.le_refl _) _).alloc (by simp) _).alloc (by simp; omega) _).alloc (by simp; omega) _).alloc (by simp; omega) _).drew⟩
  · show (((((W.alloc o1).alloc o2).alloc o3).alloc o4).alloc o5).heap[W.heap.size]? = _
    rw [Below.heap_alloc _ _ _ (by rw [e4]; omega), Below.heap_alloc _ _ _ (by rw [e3]; omega), Below.heap_alloc _ _ _ (by rw [e2]; omega), Below.heap_alloc _ _ _ (by rw [e1]; omega)]
    exact heap_alloc_new _ _
  · show (((((W.alloc o1).alloc o2).alloc o3).alloc o4).alloc o5).heap[W.heap.size + 1]? = _
    rw [Below.heap_alloc _ _ _ (by rw [e4]; omega), Below.heap_alloc _ _ _ (by rw [e3]; omega), Below.heap_alloc _ _ _ (by rw [e2]; omega), ← e1]
    exact heap_alloc_new _ _
  · show (((((W.alloc o1).alloc o2).alloc o3).alloc o4).alloc o5).heap[W.heap.size + 1 + 1 + 1 + 1]? = _
    rw [← e4]
    exact heap_alloc_new _ _
theorem bne_cases (o : Nat) : (((o : Int) != 0) = true ∧ o ≠ 0) ∨ (((o : Int) != 0) = false ∧ o = 0) := by
  by_cases h : o = 0
  · subst h; exact .inr ⟨rfl, rfl⟩
  · left
    refine ⟨?_, h⟩
    rw [bne, Bool.not_eq_true', beq_eq_false_iff_ne]
    omega
/-- Ten times, and a digit more: the halves, the carries. -/
theorem ten_more {v d : Nat} (_hv : v < 340282366920938463463374607431768211456) (hd : d < 10) (t : Nat) (ht : t = v * 10 % 340282366920938463463374607431768211456) (o1 : Nat) (ho1 : o1 = v * 10 / 340282366920938463463374607431768211456)
    (l c m o : Nat) (hc : (t % 18446744073709551616 + d) / 18446744073709551616 = c) (hl : (t % 18446744073709551616 + d) % 18446744073709551616 = l) (ho : (t / 18446744073709551616 + 0 + c) / 18446744073709551616 = o) (hm : (t / 18446744073709551616 + 0 + c) % 18446744073709551616 = m) :
    c ≤ 1 ∧ (o1 ≠ 0 ∨ o ≠ 0 → 340282366920938463463374607431768211456 ≤ v * 10 + d) ∧ (o1 = 0 → o = 0 → v * 10 + d < 340282366920938463463374607431768211456 ∧ m = (v * 10 + d) / 18446744073709551616 ∧ l = (v * 10 + d) % 18446744073709551616) := by
  refine ⟨by omega, fun h => by omega, fun h1 h2 => ⟨by omega, by omega, by omega⟩⟩

set_option maxHeartbeats 4000000 in
theorem parse_loop (s : List UInt8) (h0 : s ≠ []) (h39 : s.length ≤ 39) (h1 : ¬ (s.getD 0 0 = 48 ∧ 1 < s.length)) (w : World) :
    Calls Try.prog 26 #[.string ⟨s.toArray⟩] w fun e w' => e = .returned (parV (rd 0 s)) ∧ Below w.heap.size w w' := by
  obtain ⟨r, hr⟩ : ∃ r, r = rd 0 s := ⟨_, rfl⟩
  rw [← hr]
  have HR := Lib.hid hr
  clear hr
  have hpos : 0 < s.length := List.length_pos_iff.2 h0
  have e0 : (s == []) = false := by simpa using h0
  have x0 := at_txt s .i64 0 0 rfl hpos
  have hcase : (((s.getD 0 0).toNat : Int) == 48) = true ∧ decide (1 < (s.length : Int)) = false ∨ (((s.getD 0 0).toNat : Int) == 48) = false := by
    by_cases hc : s.getD 0 0 = 48
    · left
      have : ¬ 1 < s.length := fun h => h1 ⟨hc, h⟩
      exact ⟨by rw [hc]; rfl, by simp; omega⟩
    · right
      have h2 : (s.getD 0 0).toNat ≠ 48 := fun e => hc (UInt8.toNat_inj.1 e)
      exact beq_eq_false_iff_ne.2 (by omega)
  have d39 : decide ((39 : Int) < (s.length : Int)) = false := by simp; omega
  generalize s.getD 0 0 = c0 at x0 hcase h1
  have HP := Lib.hid hpos
  clear h1 h0
  go_enter Try.func26, Try.ntmps26
  go_upto_region 1 with fail
  go_cut [26] (fun b wx => b = .bool false ∧ wx = w.alloc (Obj.cells #[.int .u64 0, .int .u64 0] 24))
  case first =>
    rcases hcase with ⟨g1, g2⟩ | g1
    all_goals (go_wp2_with fail; go_meet; exact ⟨rfl, rfl⟩)
  case rest =>
  obtain ⟨rfl, rfl⟩ := hcut
  clear hcase x0 e0
  go_wp2_with fail
  go_loopw [30] (fun x wr => ParseIs w s x wr) (fun x _ => s.length - (intOf x).toNat)
  case atStart =>
    refine ⟨0, 0, rfl, by omega, by omega, ?_, ?_, ((Below.refl _ _).alloc (Nat.le_refl _) _).alloc (by simp) _, by simp⟩
    · rw [Below.heap_alloc _ _ _ (by simp)]
      exact heap_alloc_new _ _
    · have h := heap_alloc_new (w.alloc (Obj.cells #[.int .u64 0, .int .u64 0] 24)) (Obj.cells #[.int .u64 0, .int .u64 0] 24)
      simpa using h
  case round =>
    obtain ⟨k, v, rfl, hh⟩ := hrel
    have HH := Lib.hid hh
    have hkb : k ≤ 39 := by have := hh.hk; omega
    have j0 := block_cell hh.box 0
    have j1 := block_cell hh.box 1
    have i0 := block_cell hh.res 0
    have i1 := block_cell hh.res 1
    have f0 := block_frozen hh.res 0
    have f1 := block_frozen hh.res 1
    simp only [List.getElem?_toArray, List.getElem?_cons_zero, List.getElem?_cons_succ] at j0 j1 i0 i1
    clear hh
    by_cases hlt : k < s.length
    · have d1 : decide ((k : Int) < (s.length : Int)) = true := by simp; omega
      have d1n : decide (k < s.length) = true := by simpa using hlt
      have x1 := at_txt s .i64 (k : Int) k rfl hlt
      have HA := Lib.hid (rd_at (v := v) (s := s) (k := k) hlt)
      generalize s.getD k 0 = c at x1 HA
      by_cases c1 : c.toNat < 48
      · have d2 : decide ((c.toNat : Int) < 48) = true := by simp; omega
        have HE : Hid (r = none) := show _ = _ by rw [HR.out, HH.out.told, HA.out, if_pos (.inl c1)]
        have HL := Lib.hid HH.out.low
        have HG := Lib.hid HH.out.res
        clear c1 HA HH
        go_wp2_with fail
        try simp only [Exit.inBlock, Exit.then]
        refine bodyPost_ret (results_row2 rfl _ _ w.heap.size _ rfl (load_wide (two_set HG.out))) rfl ?_
        exact ⟨parV_none HE.out, below_two HL.out (Nat.le_refl _) _ _⟩
      · have d2 : decide ((c.toNat : Int) < 48) = false := by simp; omega
        by_cases c2 : 57 < c.toNat
        · have d3 : decide (57 < (c.toNat : Int)) = true := by simp; omega
          have HE : Hid (r = none) := show _ = _ by rw [HR.out, HH.out.told, HA.out, if_pos (.inr c2)]
          have HL := Lib.hid HH.out.low
          have HG := Lib.hid HH.out.res
          clear c1 c2 HA HH
          go_wp2_with fail
          try simp only [Exit.inBlock, Exit.then]
          refine bodyPost_ret (results_row2 rfl _ _ w.heap.size _ rfl (load_wide (two_set HG.out))) rfl ?_
          exact ⟨parV_none HE.out, below_two HL.out (Nat.le_refl _) _ _⟩
        · have d3 : decide (57 < (c.toNat : Int)) = false := by simp; omega
          obtain ⟨d, hd⟩ : ∃ d, d = c.toNat - 48 := ⟨_, rfl⟩
          have hd9 : d < 10 := by omega
          have y1 : IntKind.u8.wrap ((c.toNat : Int) - 48) = (d : Int) := by rw [IntKind.wrap_u8]; omega
          have y1' : (c.toNat : Int) - 48 = (d : Int) := by omega
          have y2 : IntKind.u64.wrap (d : Int) = (d : Int) := wrapN _ (by omega)
          have y3 : IntKind.u8.wrap (d : Int) = (d : Int) := by rw [IntKind.wrap_u8]; omega
          have CT := Lib.hid (times_any v 10 HH.out.hv (by omega) wr)
          obtain ⟨tt, htt⟩ : ∃ tt, tt = v * 10 % 340282366920938463463374607431768211456 := ⟨_, rfl⟩
          obtain ⟨o1, ho1⟩ : ∃ o1, o1 = v * 10 / 340282366920938463463374607431768211456 := ⟨_, rfl⟩
          obtain ⟨cc, hcc⟩ : ∃ cc, (tt % 18446744073709551616 + d) / 18446744073709551616 = cc := ⟨_, rfl⟩
          obtain ⟨l, hl⟩ : ∃ l, (tt % 18446744073709551616 + d) % 18446744073709551616 = l := ⟨_, rfl⟩
          obtain ⟨o, ho⟩ : ∃ o, (tt / 18446744073709551616 + 0 + cc) / 18446744073709551616 = o := ⟨_, rfl⟩
          obtain ⟨m, hm⟩ : ∃ m, (tt / 18446744073709551616 + 0 + cc) % 18446744073709551616 = m := ⟨_, rfl⟩
          have HF := Lib.hid (ten_more HH.out.hv hd9 tt htt o1 ho1 l cc m o hcc hl ho hm)
          have CO := Lib.hid (of_at d)
          have CA := Lib.hid (add_at (tt / 18446744073709551616) (tt % 18446744073709551616) d l cc m o HF.out.1 hcc hl ho hm)
          unfold wv at CT
          rw [← htt, ← ho1] at CT
          clear hcc hl ho hm htt ho1
          generalize tt / 18446744073709551616 = t1 at *
          generalize tt % 18446744073709551616 = t0 at *
          generalize v / 18446744073709551616 = v1 at CT j0
          generalize v % 18446744073709551616 = v0 at CT j1
          have HD := Lib.hid hd
          have Hd9 := Lib.hid hd9
          clear hd hd9
          go_upto_region 10 with (go_at_call 17; refine CT.out.mono ?_; rintro e w1 ⟨rfl, B1⟩)
          have z1 := block_lt HH.out.res
          have z2 := block_lt HH.out.box
          have q1 := (B1.block _ z1).trans HH.out.res
          have q2 := (B1.block _ z2).trans HH.out.box
          have BL1 : Below w.heap.size w w1 := HH.out.low.trans (B1.mono HH.out.low.size)
          obtain ⟨W, hW⟩ : ∃ W, W = w1.alloc (Obj.cells #[.int .u64 (t1 : Int), .int .u64 (t0 : Int)] 24) := ⟨_, rfl⟩
          obtain ⟨n, hn⟩ : ∃ n, n = w1.heap.size := ⟨_, rfl⟩
          rw [← hW, ← hn]
          have k0 : W.cell? ⟨n, 0, none⟩ = some (.int .u64 (t1 : Int)) := by rw [hW, hn]; simp [go_sem]
          have k1 : W.cell? ⟨n, 1, none⟩ = some (.int .u64 (t0 : Int)) := by rw [hW, hn]; simp [go_sem]
          have Q1 := Lib.hid ((show W.heap[w.heap.size]? = w1.heap[w.heap.size]? by rw [hW]; exact Below.heap_alloc _ _ _ (block_lt q1)).trans q1)
          have Q2 := Lib.hid ((show W.heap[w.heap.size + 1]? = w1.heap[w.heap.size + 1]? by rw [hW]; exact Below.heap_alloc _ _ _ (block_lt q2)).trans q2)
          have QL : Hid (Below w.heap.size w W) := by rw [hW]; exact BL1.alloc BL1.size _
          clear hW hn q1 q2 B1 BL1 z1 z2 j0 j1 i0 i1 f0 f1
          go_cut [8, 9] (fun s8 s9 wx => SumCut W m l o s8 s9 wx)
          case first =>
            go_region_held3 (fun V : World => V.cell? ⟨n, 0, none⟩ = some (.int .u64 (t1 : Int)) ∧ V.cell? ⟨n, 1, none⟩ = some (.int .u64 (t0 : Int)))
              ((refine ⟨?_, ?_⟩ <;> (repeat (first | with_reducible refine cell_drew ?_ | with_reducible refine cell_past _ ?_)) <;> (first | with_reducible exact k0 | with_reducible exact k1)))
              (first | (go_at_call 16; (with_reducible refine (CO.out _).mono ?_); rintro e w2 ⟨rfl, rfl⟩) | (go_at_call 10; (with_reducible refine (CA.out _).mono ?_); rintro e w2 ⟨rfl, rfl⟩))
            all_goals (go_wp2_with fail; go_meet; refine ⟨_, rfl, rfl, ?_, (by first | exact (five_blocks _ _ _ _ _).1 | exact (five_blocks _ _ _ _ _).2.1 | exact (five_blocks _ _ _ _ _).2.2.1), (five_blocks _ _ _ _ _).2.2.2⟩; omega)
          case rest =>
            obtain ⟨g8, rfl, rfl, hg8, hb8, hBx⟩ := hcut
            have R1 := Lib.hid ((hBx.block _ (block_lt Q1.out)).trans Q1.out)
            have R2 := Lib.hid ((hBx.block _ (block_lt Q2.out)).trans Q2.out)
            have BL : Hid (Below w.heap.size w wc) := QL.out.trans (hBx.mono QL.out.size)
            have j0 := block_cell hb8 0
            have j1 := block_cell hb8 1
            have i0 := block_cell R1.out 0
            have i1 := block_cell R1.out 1
            have f0 := block_frozen R1.out 0
            have f1 := block_frozen R1.out 1
            have i2 := block_cell R2.out 0
            have i3 := block_cell R2.out 1
            have f2 := block_frozen R2.out 0
            have f3 := block_frozen R2.out 1
            simp only [List.getElem?_toArray, List.getElem?_cons_zero, List.getElem?_cons_succ] at j0 j1 i0 i1 i2 i3
            have hg8' : w.heap.size + 1 < g8 := Nat.lt_of_lt_of_le (block_lt Q2.out) hg8
            have hd := HD.out
            clear hb8 hBx hg8
            rcases bne_cases o1 with ⟨t3, ho1⟩ | ⟨t3, ho1⟩
            · have HE : Hid (r = none) := show _ = _ by rw [HR.out, HH.out.told, HA.out, if_neg (by omega), ← hd, if_pos (HF.out.2.1 (.inl ho1))]
              clear hd ho1 HF HA
              go_wp2_with fail
              try simp only [Exit.inBlock, Exit.then]
              refine bodyPost_ret (results_row2 rfl _ _ w.heap.size _ rfl (load_wide (two_set R1.out))) rfl ?_
              exact ⟨parV_none HE.out, below_two BL.out (Nat.le_refl _) _ _⟩
            · rcases bne_cases o with ⟨t4, ho⟩ | ⟨t4, ho⟩
              · have HE : Hid (r = none) := show _ = _ by rw [HR.out, HH.out.told, HA.out, if_neg (by omega), ← hd, if_pos (HF.out.2.1 (.inr ho))]
                clear hd ho ho1 HF HA
                go_wp2_with fail
                try simp only [Exit.inBlock, Exit.then]
                refine bodyPost_ret (results_row2 rfl _ _ w.heap.size _ rfl (load_wide (two_set R1.out))) rfl ?_
                exact ⟨parV_none HE.out, below_two BL.out (Nat.le_refl _) _ _⟩
              · obtain ⟨hx1, hx2, hx3⟩ := HF.out.2.2 ho1 ho
                have HE : Hid (rd 0 s = rd (v * 10 + d) (s.drop (k + 1))) := show _ = _ by rw [HH.out.told, HA.out, if_neg (by omega), ← hd, if_neg (by omega)]
                have X1 := Lib.hid hx1; have X2 := Lib.hid hx2; have X3 := Lib.hid hx3
                clear hd ho ho1 HF HA hx1 hx2 hx3
                go_wp2_with fail
                go_roundw
                case rel =>
                  refine ⟨k + 1, v * 10 + d, ret_val (by omega), by omega, X1.out, ?_, ?_, below_two BL.out (by omega) _ _, HE.out⟩
                  · rw [Below.heap_setCell _ _ _ _ (by simp), Below.heap_setCell _ _ _ _ (by simp)]
                    exact R1.out
                  · rw [← X2.out, ← X3.out]
                    exact two_set R2.out
                case measure => simp [intOf]; omega
    · obtain rfl : k = s.length := by have := HH.out.hk; omega
      have d1 : decide ((s.length : Int) < (s.length : Int)) = false := by simp
      have d1n : decide (s.length < s.length) = false := by simp
      have HE : Hid (r = some v) := show _ = _ by rw [HR.out, HH.out.told, List.drop_length, rd]
      have HL := Lib.hid HH.out.low
      have HG := Lib.hid HH.out.res
      obtain ⟨v1, hv1⟩ : ∃ v1, v1 = v / 18446744073709551616 := ⟨_, rfl⟩
      obtain ⟨v0, hv0⟩ : ∃ v0, v0 = v % 18446744073709551616 := ⟨_, rfl⟩
      rw [← hv1] at j0
      rw [← hv0] at j1
      have V1 := Lib.hid hv1; have V0 := Lib.hid hv0
      clear hv1 hv0 HH
      go_wp2_with fail
      try simp only [Exit.inBlock, Exit.then]
      refine bodyPost_ret (results_row2 rfl _ _ w.heap.size _ rfl (load_wide (two_set HG.out))) rfl ?_
      exact ⟨parV_some HE.out V1.out V0.out, below_two HL.out (Nat.le_refl _) _ _⟩

set_option maxHeartbeats 1000000 in
theorem parse_any (s : List UInt8) (hs : s.length ≤ 1000000) (w : World) :
    Calls Try.prog 26 #[.string ⟨s.toArray⟩] w fun e w' => e = .returned (parV (parseW s)) ∧ Below w.heap.size w w' := by
  by_cases hb : s = [] ∨ 39 < s.length ∨ (s.getD 0 0 = 48 ∧ 1 < s.length)
  · have HE : Hid (parseW s = none) := if_pos hb
    generalize parseW s = r at *
    by_cases h0 : s = []
    · subst h0
      clear hb
      go_enter Try.func26, Try.ntmps26
      go_wp2_with fail
      refine bodyPost_ret (v := .tuple #[.agg #[.int .u64 0, .int .u64 0], .bool false]) (by simp [results, Try.results26, go_sem]) rfl ?_
      exact ⟨parV_none HE.out, (Below.refl _ _).alloc (Nat.le_refl _) _⟩
    · have e0 : (s == []) = false := by simpa using h0
      by_cases h39 : 39 < s.length
      · have d39 : decide ((39 : Int) < (s.length : Int)) = true := by simp; omega
        clear hb
        go_enter Try.func26, Try.ntmps26
        go_wp2_with fail
        refine bodyPost_ret (v := .tuple #[.agg #[.int .u64 0, .int .u64 0], .bool false]) (by simp [results, Try.results26, go_sem]) rfl ?_
        exact ⟨parV_none HE.out, (Below.refl _ _).alloc (Nat.le_refl _) _⟩
      · have d39 : decide ((39 : Int) < (s.length : Int)) = false := by simp; omega
        obtain ⟨h1, h2⟩ : s.getD 0 0 = 48 ∧ 1 < s.length := by
          rcases hb with h | h | h
          · exact absurd h h0
          · exact absurd h h39
          · exact h
        have x0 := at_txt s .i64 0 0 rfl (by omega)
        rw [h1] at x0
        have d2 : decide (1 < (s.length : Int)) = true := by simp; omega
        have d2n : decide (1 < s.length) = true := by simp; omega
        clear hb h1
        go_enter Try.func26, Try.ntmps26
        go_wp2_with fail
        refine bodyPost_ret (v := .tuple #[.agg #[.int .u64 0, .int .u64 0], .bool false]) (by simp [results, Try.results26, go_sem]) rfl ?_
        exact ⟨parV_none HE.out, (Below.refl _ _).alloc (Nat.le_refl _) _⟩
  · have e : parseW s = rd 0 s := if_neg hb
    rw [e]
    exact parse_loop s (fun h => hb (.inl h)) (by omega) (fun h => hb (.inr (.inr h))) w

end Go.Proofs.Ytpkfklhhljaekaa
