/-
  What the document's Parse does; no condition beyond what the contract asks.
-/
import Derived.Test.YtkkoefiennccoaaDoorRefT6
import Derived.Test.YtkkoefiennccoaaDoorWideI

namespace Go.Proofs.YtkkoefiennccoaaDoor
open Go.RowKit
def SumCutB (W : World) (m l : Nat) (o : Bool) (s8 s9 : Value) (wx : World) : Prop :=
  ∃ g : Nat, s8 = .pointer (some ⟨g, 0, none⟩) ∧ s9 = .bool o ∧ W.heap.size ≤ g ∧ wx.heap[g]? = some (.cells #[.int .u64 (m : Int), .int .u64 (l : Int)] 29 (0, 0)) ∧ Below W.heap.size W wx
theorem pos_cases (o : Nat) : (decide ((0 : Int) < (o : Int)) = true ∧ decide (0 < o) = true ∧ o ≠ 0) ∨ (decide ((0 : Int) < (o : Int)) = false ∧ decide (0 < o) = false ∧ o = 0) := by
  by_cases h : o = 0
  · subst h; exact .inr ⟨rfl, rfl, rfl⟩
  · exact .inl ⟨decide_eq_true (by omega), decide_eq_true (by omega), h⟩
theorem ten_again {v d : Nat} (_hv : v < 340282366920938463463374607431768211456) (_hd : d < 10) (t : Nat) (ht : t = v * 10 % 340282366920938463463374607431768211456) (o1 : Nat) (ho1 : o1 = v * 10 / 340282366920938463463374607431768211456) :
    (o1 ≠ 0 ∨ 340282366920938463463374607431768211456 ≤ t + d → 340282366920938463463374607431768211456 ≤ v * 10 + d) ∧ (o1 = 0 → ¬ 340282366920938463463374607431768211456 ≤ t + d → v * 10 + d < 340282366920938463463374607431768211456 ∧ (t + d) % 340282366920938463463374607431768211456 = v * 10 + d) := by
  refine ⟨fun h => by omega, fun h1 h2 => ⟨by omega, by omega⟩⟩
set_option maxHeartbeats 4000000 in
theorem refParse_loop (s : List UInt8) (h39 : s.length ≤ 39) (w : World) :
    Calls Tryd.prog 33 #[.string ⟨s.toArray⟩] w fun e w' => e = .returned (parV ((rd 0 s).bind fun x => if dec x = s then some x else none)) ∧ Below w.heap.size w w' := by
  obtain ⟨r, hr⟩ : ∃ r, r = (rd 0 s).bind fun x => if dec x = s then some x else none := ⟨_, rfl⟩
  rw [← hr]
  have HR := Lib.hid hr
  clear hr
  have d39 : decide ((39 : Int) < (s.length : Int)) = false := by simp; omega
  go_enter Tryd.func33, Tryd.ntmps33
  go_wp2_with fail
  go_loopw [5] (fun x wr => ParseIs w s x wr) (fun x _ => s.length - (intOf x).toNat)
  case atStart =>
    refine ⟨0, 0, rfl, by omega, by omega, ?_, ?_, ((Below.refl _ _).alloc (Nat.le_refl _) _).alloc (by simp) _, by simp⟩
    · rw [Below.heap_alloc _ _ _ (by simp)]
      exact heap_alloc_new _ _
    · have h := heap_alloc_new (w.alloc (Obj.cells #[.int .u64 0, .int .u64 0] 29)) (Obj.cells #[.int .u64 0, .int .u64 0] 29)
      simpa using h
  case round =>
    obtain ⟨k, v, rfl, hh⟩ := hrel
    have HH := Lib.hid hh
    have hkb : k ≤ 39 := by have := hh.hk; omega
    have j0 := block_cell hh.box 0
    have j1 := block_cell hh.box 1
    have i0 := block_cell hh.res 0
    have i1 := block_cell hh.res 1
    have f0 := block_frozen hh.res 0
    have f1 := block_frozen hh.res 1
    simp only [List.getElem?_toArray, List.getElem?_cons_zero, List.getElem?_cons_succ] at j0 j1 i0 i1
    clear hh
    by_cases hlt : k < s.length
    · have d1 : decide ((k : Int) < (s.length : Int)) = true := by simp; omega
      have d1n : decide (k < s.length) = true := by simpa using hlt
      have x1 := at_txt s .i64 (k : Int) k rfl hlt
      have HA := Lib.hid (rd_at (v := v) (s := s) (k := k) hlt)
      generalize s.getD k 0 = c at x1 HA
      by_cases c1 : c.toNat < 48
      · have d2 : decide ((c.toNat : Int) < 48) = true := by simp; omega
        have HE : Hid (r = none) := show _ = _ by rw [HR.out, HH.out.told, HA.out, if_pos (.inl c1)]; rfl
        have HL := Lib.hid HH.out.low
        have HG := Lib.hid HH.out.res
        clear c1 HA HH
        go_wp2_with fail
        try simp only [Exit.inBlock, Exit.then]
        refine bodyPost_ret (results_row2 rfl _ _ w.heap.size _ rfl (load_wide (two_set HG.out))) rfl ?_
        exact ⟨parV_none HE.out, below_two HL.out (Nat.le_refl _) _ _⟩
      · have d2 : decide ((c.toNat : Int) < 48) = false := by simp; omega
        by_cases c2 : 57 < c.toNat
        · have d3 : decide (57 < (c.toNat : Int)) = true := by simp; omega
          have HE : Hid (r = none) := show _ = _ by rw [HR.out, HH.out.told, HA.out, if_pos (.inr c2)]; rfl
          have HL := Lib.hid HH.out.low
          have HG := Lib.hid HH.out.res
          clear c1 c2 HA HH
          go_wp2_with fail
          try simp only [Exit.inBlock, Exit.then]
          refine bodyPost_ret (results_row2 rfl _ _ w.heap.size _ rfl (load_wide (two_set HG.out))) rfl ?_
          exact ⟨parV_none HE.out, below_two HL.out (Nat.le_refl _) _ _⟩
        · have d3 : decide (57 < (c.toNat : Int)) = false := by simp; omega
          obtain ⟨d, hd⟩ : ∃ d, d = c.toNat - 48 := ⟨_, rfl⟩
          have hd9 : d < 10 := by omega
          have y1 : IntKind.u8.wrap ((c.toNat : Int) - 48) = (d : Int) := by rw [IntKind.wrap_u8]; omega
          have y1' : (c.toNat : Int) - 48 = (d : Int) := by omega
          have y2 : IntKind.u64.wrap (d : Int) = (d : Int) := wrapN _ (by omega)
          have y3 : IntKind.u8.wrap (d : Int) = (d : Int) := by rw [IntKind.wrap_u8]; omega
          have CT := Lib.hid (refTimes_any v 10 HH.out.hv (by omega) wr)
          obtain ⟨tt, htt⟩ : ∃ tt, tt = v * 10 % 340282366920938463463374607431768211456 := ⟨_, rfl⟩
          obtain ⟨o1, ho1⟩ : ∃ o1, o1 = v * 10 / 340282366920938463463374607431768211456 := ⟨_, rfl⟩
          have HF := Lib.hid (ten_again HH.out.hv hd9 tt htt o1 ho1)
          have httl : tt < 340282366920938463463374607431768211456 := by rw [htt]; exact Nat.mod_lt _ (by omega)
          have CA := Lib.hid (refAdd_any tt d httl (by omega))
          have eO : wv d = .agg #[.int .u64 0, .int .u64 (d : Int)] := (wv_of (h := 0) (l := d) (by omega) (by omega)).symm
          rw [eO] at CA
          unfold wv at CT CA
          rw [← htt, ← ho1] at CT
          obtain ⟨o, ho⟩ : ∃ o, o = decide (340282366920938463463374607431768211456 ≤ tt + d) := ⟨_, rfl⟩
          obtain ⟨m, hm⟩ : ∃ m, m = (tt + d) % 340282366920938463463374607431768211456 / 18446744073709551616 := ⟨_, rfl⟩
          obtain ⟨l, hl⟩ : ∃ l, l = (tt + d) % 340282366920938463463374607431768211456 % 18446744073709551616 := ⟨_, rfl⟩
          rw [← ho, ← hm, ← hl] at CA
          have HOo := Lib.hid ho; have HMm := Lib.hid hm; have HLl := Lib.hid hl
          clear htt ho1 httl eO ho hm hl
          obtain ⟨t1, ht1⟩ : ∃ t1, t1 = tt / 18446744073709551616 := ⟨_, rfl⟩
          obtain ⟨t0, ht0⟩ : ∃ t0, t0 = tt % 18446744073709551616 := ⟨_, rfl⟩
          obtain ⟨v1, hv1⟩ : ∃ v1, v1 = v / 18446744073709551616 := ⟨_, rfl⟩
          obtain ⟨v0, hv0⟩ : ∃ v0, v0 = v % 18446744073709551616 := ⟨_, rfl⟩
          rw [← ht1, ← ht0] at CT CA
          rw [← hv1, ← hv0] at CT
          rw [← hv1] at j0
          rw [← hv0] at j1
          clear ht1 ht0 hv1 hv0
          have HD := Lib.hid hd
          have Hd9 := Lib.hid hd9
          clear hd hd9
          go_upto_region 10 with (go_at_call 56; refine CT.out.mono ?_; rintro e w1 ⟨rfl, B1⟩)
          have z1 := block_lt HH.out.res
          have z2 := block_lt HH.out.box
          have q1 := (B1.block _ z1).trans HH.out.res
          have q2 := (B1.block _ z2).trans HH.out.box
          have BL1 : Below w.heap.size w w1 := HH.out.low.trans (B1.mono HH.out.low.size)
          obtain ⟨W, hW⟩ : ∃ W, W = w1.alloc (Obj.cells #[.int .u64 (t1 : Int), .int .u64 (t0 : Int)] 29) := ⟨_, rfl⟩
          obtain ⟨n, hn⟩ : ∃ n, n = w1.heap.size := ⟨_, rfl⟩
          rw [← hW, ← hn]
          have k0 : W.cell? ⟨n, 0, none⟩ = some (.int .u64 (t1 : Int)) := by rw [hW, hn]; simp [go_sem]
          have k1 : W.cell? ⟨n, 1, none⟩ = some (.int .u64 (t0 : Int)) := by rw [hW, hn]; simp [go_sem]
          have Q1 := Lib.hid ((show W.heap[w.heap.size]? = w1.heap[w.heap.size]? by rw [hW]; exact Below.heap_alloc _ _ _ (block_lt q1)).trans q1)
          have Q2 := Lib.hid ((show W.heap[w.heap.size + 1]? = w1.heap[w.heap.size + 1]? by rw [hW]; exact Below.heap_alloc _ _ _ (block_lt q2)).trans q2)
          have QL : Hid (Below w.heap.size w W) := by rw [hW]; exact BL1.alloc BL1.size _
          clear hW hn q1 q2 B1 BL1 z1 z2 j0 j1 i0 i1 f0 f1
          go_cut [8, 9] (fun s8 s9 wx => SumCutB W m l o s8 s9 wx)
          case first =>
            have kn : n < W.heap.size := cell_lt k0
            have k0d := cell_drew k0; have k1d := cell_drew k1
            have a0d := cell_drew (cell_past (Obj.cells #[.int .u64 0, .int .u64 0] 29 (0, 0)) k0); have a1d := cell_drew (cell_past (Obj.cells #[.int .u64 0, .int .u64 0] 29 (0, 0)) k1)
            go_region_held3 (fun V : World => V.cell? ⟨n, 0, none⟩ = some (.int .u64 (t1 : Int)) ∧ V.cell? ⟨n, 1, none⟩ = some (.int .u64 (t0 : Int)))
              (first | with_reducible exact ⟨k0d, k1d⟩ | with_reducible exact ⟨a0d, a1d⟩ | exact ⟨s20, s21⟩ | ((refine ⟨?_, ?_⟩ <;> (repeat (first | with_reducible refine cell_drew ?_ | with_reducible refine cell_past _ ?_ | refine cell_set ?_ (by simp; omega))) <;> (first | with_reducible exact s20 | with_reducible exact s21))))
              (first
                | (go_at_call 57
                   (with_reducible refine (CA.out W.drew).mono ?_)
                   rintro e w2 ⟨rfl, B2⟩
                   have s20 := keep_p k0d B2
                   have s21 := keep_p k1d B2
                   have B2' : Below W.heap.size W w2 := (Below.refl _ _).drew.trans B2)
                | (go_at_call 57
                   (with_reducible refine (CA.out _).mono ?_)
                   rintro e w2 ⟨rfl, B2⟩
                   have s20 := keep_p a0d B2
                   have s21 := keep_p a1d B2
                   have Q8 := (B2.block W.heap.size (by simp)).trans (heap_drew (alloc_here rfl))
                   have c80 := block_cell Q8 0
                   have c81 := block_cell Q8 1
                   have f80 := block_frozen Q8 0
                   have f81 := block_frozen Q8 1
                   simp only [List.getElem?_toArray, List.getElem?_cons_zero, List.getElem?_cons_succ] at c80 c81
                   have B2' : Below W.heap.size W w2 := ((Below.refl _ _).alloc (Nat.le_refl _) _).drew.trans (B2.mono (by simp))))
            all_goals (
              go_wp2_with fail
              go_meet
              first
                | exact ⟨_, rfl, rfl, B2'.size, alloc_here rfl, B2'.alloc B2'.size _⟩
                | exact ⟨_, rfl, rfl, Nat.le_refl _, two_set Q8, below_two B2' (Nat.le_refl _) _ _⟩)
          case rest =>
            obtain ⟨g8, rfl, rfl, hg8, hb8, hBx⟩ := hcut
            have R1 := Lib.hid ((hBx.block _ (block_lt Q1.out)).trans Q1.out)
            have R2 := Lib.hid ((hBx.block _ (block_lt Q2.out)).trans Q2.out)
            have BL : Hid (Below w.heap.size w wc) := QL.out.trans (hBx.mono QL.out.size)
            have j0 := block_cell hb8 0
            have j1 := block_cell hb8 1
            have i0 := block_cell R1.out 0
            have i1 := block_cell R1.out 1
            have f0 := block_frozen R1.out 0
            have f1 := block_frozen R1.out 1
            have i2 := block_cell R2.out 0
            have i3 := block_cell R2.out 1
            have f2 := block_frozen R2.out 0
            have f3 := block_frozen R2.out 1
            simp only [List.getElem?_toArray, List.getElem?_cons_zero, List.getElem?_cons_succ] at j0 j1 i0 i1 i2 i3
            have hg8' : w.heap.size + 1 < g8 := Nat.lt_of_lt_of_le (block_lt Q2.out) hg8
            have hd := HD.out
            clear hb8 hBx hg8
            rcases pos_cases o1 with ⟨t3, t3n, ho1⟩ | ⟨t3, t3n, ho1⟩
            · have HE : Hid (r = none) := show _ = _ by rw [HR.out, HH.out.told, HA.out, if_neg (by omega), ← hd, if_pos (HF.out.1 (.inl ho1))]; rfl
              clear hd ho1 HF HA
              go_wp2_with fail
              try simp only [Exit.inBlock, Exit.then]
              refine bodyPost_ret (results_row2 rfl _ _ w.heap.size _ rfl (load_wide (two_set R1.out))) rfl ?_
              exact ⟨parV_none HE.out, below_two BL.out (Nat.le_refl _) _ _⟩
            · by_cases ho : 340282366920938463463374607431768211456 ≤ tt + d
              · have HE : Hid (r = none) := show _ = _ by rw [HR.out, HH.out.told, HA.out, if_neg (by omega), ← hd, if_pos (HF.out.1 (.inr ho))]; rfl
                have t4 : o = true := by rw [HOo.out]; exact decide_eq_true ho
                subst t4
                clear hd ho ho1 HF HA
                go_wp2_with fail
                try simp only [Exit.inBlock, Exit.then]
                refine bodyPost_ret (results_row2 rfl _ _ w.heap.size _ rfl (load_wide (two_set R1.out))) rfl ?_
                exact ⟨parV_none HE.out, below_two BL.out (Nat.le_refl _) _ _⟩
              · obtain ⟨hx1, hx2⟩ := HF.out.2 ho1 ho
                have HE : Hid (rd 0 s = rd (v * 10 + d) (s.drop (k + 1))) := show _ = _ by rw [HH.out.told, HA.out, if_neg (by omega), ← hd, if_neg (by omega)]
                have t4 : o = false := by rw [HOo.out]; exact decide_eq_false ho
                subst t4
                have X1 := Lib.hid hx1
                have X2 : Hid (m = (v * 10 + d) / 18446744073709551616) := show _ = _ by rw [HMm.out, hx2]
                have X3 : Hid (l = (v * 10 + d) % 18446744073709551616) := show _ = _ by rw [HLl.out, hx2]
                clear hd ho ho1 HF HA hx1 hx2
                go_wp2_with fail
                go_roundw
                case rel =>
                  refine ⟨k + 1, v * 10 + d, ret_val (by omega), by omega, X1.out, ?_, ?_, below_two BL.out (by omega) _ _, HE.out⟩
                  · rw [Below.heap_setCell _ _ _ _ (by simp), Below.heap_setCell _ _ _ _ (by simp)]
                    exact R1.out
                  · rw [← X2.out, ← X3.out]
                    exact two_set R2.out
                case measure => simp [intOf]; omega
    · obtain rfl : k = s.length := by have := HH.out.hk; omega
      have d1 : decide ((s.length : Int) < (s.length : Int)) = false := by simp
      have d1n : decide (s.length < s.length) = false := by simp
      have hrv : rd 0 s = some v := by rw [HH.out.told, List.drop_length, rd]
      have CT := Lib.hid (refText_any v HH.out.hv wr)
      have HL := Lib.hid HH.out.low
      have HG := Lib.hid HH.out.res
      obtain ⟨T, hT⟩ : ∃ T : List UInt8, T = dec v := ⟨_, rfl⟩
      unfold wv at CT
      rw [← hT] at CT
      obtain ⟨v1, hv1⟩ : ∃ v1, v1 = v / 18446744073709551616 := ⟨_, rfl⟩
      obtain ⟨v0, hv0⟩ : ∃ v0, v0 = v % 18446744073709551616 := ⟨_, rfl⟩
      rw [← hv1] at j0 CT
      rw [← hv0] at j1 CT
      have V1 := Lib.hid hv1; have V0 := Lib.hid hv0
      by_cases hTs : T = s
      · have HE : Hid (r = some v) := show _ = _ by rw [HR.out, hrv]; show (if dec v = s then some v else none) = _; rw [if_pos (by rw [← hT]; exact hTs)]
        have dT : (T == s) = true := by simpa using hTs
        have dT' : (T != s) = false := by rw [bne, dT]; rfl
        clear hTs hT hrv hv1 hv0
        go_wp2_with fail
        refine CT.out.mono ?_
        rintro e w2 ⟨rfl, B2⟩
        have R1 := Lib.hid ((B2.block _ (block_lt HG.out)).trans HG.out)
        have BL : Hid (Below w.heap.size w w2) := low_p HL.out B2
        have j0' := keep_p j0 B2; have j1' := keep_p j1 B2
        have i0' := keep_p i0 B2; have i1' := keep_p i1 B2
        have f0' := block_frozen R1.out 0
        have f1' := block_frozen R1.out 1
        clear B2 j0 j1 i0 i1 f0 f1
        go_wp2_with fail
        refine bodyPost_ret (results_row2 rfl _ _ w.heap.size _ rfl (load_wide (two_set R1.out))) rfl ?_
        exact ⟨parV_some HE.out V1.out V0.out, below_two BL.out (Nat.le_refl _) _ _⟩
      · have HE : Hid (r = none) := show _ = _ by rw [HR.out, hrv]; show (if dec v = s then some v else none) = _; rw [if_neg (by rw [← hT]; exact hTs)]
        have dT : (T == s) = false := by simpa using hTs
        have dT' : (T != s) = true := by rw [bne, dT]; rfl
        clear hTs hT hrv hv1 hv0
        go_wp2_with fail
        refine CT.out.mono ?_
        rintro e w2 ⟨rfl, B2⟩
        have R1 := Lib.hid ((B2.block _ (block_lt HG.out)).trans HG.out)
        have BL : Hid (Below w.heap.size w w2) := low_p HL.out B2
        have i0' := keep_p i0 B2; have i1' := keep_p i1 B2
        have f0' := block_frozen R1.out 0
        have f1' := block_frozen R1.out 1
        clear B2 j0 j1 i0 i1 f0 f1
        go_wp2_with fail
        refine bodyPost_ret (results_row2 rfl _ _ w.heap.size _ rfl (load_wide (two_set R1.out))) rfl ?_
        exact ⟨parV_none HE.out, below_two BL.out (Nat.le_refl _) _ _⟩
set_option maxHeartbeats 1000000 in
theorem refParse_any (s : List UInt8) (hs : s.length ≤ 1000000) (w : World) :
    Calls Tryd.prog 33 #[.string ⟨s.toArray⟩] w fun e w' => e = .returned (parV (parseW s)) ∧ Below w.heap.size w w' := by
  by_cases h : s.length ≤ 39
  · rw [parse_again s h]
    exact refParse_loop s h w
  · have HE : Hid (parseW s = none) := if_pos (.inr (.inl (by omega)))
    generalize parseW s = r at *
    have d39 : decide ((39 : Int) < (s.length : Int)) = true := by simp; omega
    clear h
    go_enter Tryd.func33, Tryd.ntmps33
    go_wp2_with fail
    refine bodyPost_ret (v := .tuple #[.agg #[.int .u64 0, .int .u64 0], .bool false]) (by simp [results, Tryd.results33, go_sem]) rfl ?_
    exact ⟨parV_none HE.out, ((Below.refl _ _).alloc (Nat.le_refl _) _).alloc (by simp) _⟩
end Go.Proofs.YtkkoefiennccoaaDoor
