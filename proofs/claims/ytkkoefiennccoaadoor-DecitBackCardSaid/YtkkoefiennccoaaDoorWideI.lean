/-
  What wide's Text does; no condition beyond what the contract asks.
  What wide's Parse does; no condition beyond what the contract asks.
-/
import Derived.Test.YtkkoefiennccoaaDoorWideG

namespace Go.Proofs.YtkkoefiennccoaaDoor
set_option maxRecDepth 100000
open Go.RowKit
/-- What holds at the head of Text's loop: t digits may still come, m is left of n. -/
structure TextAt (w : World) (g n : Nat) (t m : Nat) (row : List Value) (tail : List UInt8) (wr : World) : Prop where
  ht : t ≤ 39
  hm : m < 10 ^ t
  box : wr.heap[g]? = some (.cells #[.int .u64 ((m / 18446744073709551616 : Nat) : Int), .int .u64 ((m % 18446744073709551616 : Nat) : Int)] 29 (0, 0))
  dig : wr.heap[g + 1]? = some (.cells row.toArray 61 (0, 0))
  len : row.length = 39
  tl : tail.length = 39 - t
  at' : ∀ i, i < 39 - t → row[t + i]? = some (.int .u8 ((tail.getD i 0).toNat : Int))
  told : (t = 39 ∧ m = n ∧ tail = []) ∨ (t < 39 ∧ dec n = ds m ++ tail)
  low : Below w.heap.size w wr
  gw : w.heap.size ≤ g
def TextIs (w : World) (g n : Nat) (v : Value) (wr : World) : Prop := ∃ t m row tail, v = .int .i64 ((t : Nat) : Int) ∧ TextAt w g n t m row tail wr
theorem TextAt.mlt {w : World} {g n t m : Nat} {row : List Value} {tail : List UInt8} {wr : World} (h : TextAt w g n t m row tail wr) : m < 340282366920938463463374607431768211456 ∨ t = 39 := by
  by_cases ht : t = 39
  · exact .inr ht
  · left
    have h1 : m < 10 ^ t := h.hm
    have h2 : 10 ^ t ≤ 10 ^ 38 := Nat.pow_le_pow_right (by omega) (by have := h.ht; omega)
    omega
set_option maxRecDepth 100000 in
/-- One digit more. -/
theorem TextAt.next {w : World} {g n k m : Nat} {row : List Value} {tail : List UInt8} {wr w1 w2 : World} (h : TextAt w g n (k + 1) m row tail wr) (hgo : k + 1 = 39 ∨ m ≠ 0)
    (hb : Below wr.heap.size wr w1) (o : Obj) (c : Int) (hc : c = 48 + (m % 10 : Nat)) (q1 q0 : Nat) (h1 : q1 = m / 10 / 18446744073709551616) (h0 : q0 = m / 10 % 18446744073709551616)
    (hw : w2 = (((w1.setCell ⟨g + 1, k, none⟩ (.int .u8 c)).setCell ⟨g, 0, none⟩ (.int .u64 (q1 : Int))).setCell ⟨g, 1, none⟩ (.int .u64 (q0 : Int))).alloc o) :
    TextAt w g n k (m / 10) (row.set k (.int .u8 c)) (UInt8.ofNat (48 + m % 10) :: tail) w2 := by
  have ht := h.ht
  have hl := h.len
  have htl := h.tl
  have z1 := block_lt h.box
  have z2 := block_lt h.dig
  have b1 : w1.heap[g]? = some (.cells #[.int .u64 ((m / 18446744073709551616 : Nat) : Int), .int .u64 ((m % 18446744073709551616 : Nat) : Int)] 29 (0, 0)) := (hb.block g z1).trans h.box
  have b2 : w1.heap[g + 1]? = some (.cells row.toArray 61 (0, 0)) := (hb.block (g + 1) z2).trans h.dig
  have s1 := block_lt b1
  have s2 := block_lt b2
  refine ⟨by omega, ?_, ?_, ?_, by simp [hl], by simp [htl]; omega, ?_, ?_, ?_, h.gw⟩
  · have := h.hm
    rw [Nat.pow_succ] at this
    omega
  · subst hw h1 h0
    rw [Below.heap_alloc _ _ _ (by simpa [World.setCell] using s1)]
    refine two_set (x := .int .u64 ((m / 18446744073709551616 : Nat) : Int)) (y := .int .u64 ((m % 18446744073709551616 : Nat) : Int)) ?_
    rw [Below.heap_setCell _ _ _ _ (by simp)]
    exact b1
  · subst hw
    rw [Below.heap_alloc _ _ _ (by simpa [World.setCell] using s2), Below.heap_setCell _ _ _ _ (by simp), Below.heap_setCell _ _ _ _ (by simp)]
    have h5 := block_set b2 k (.int .u8 c)
    simpa using h5
  · intro i hi
    cases i with
    | zero =>
      simp only [Nat.add_zero, List.getD_cons_zero]
      rw [List.getElem?_set_self (by omega), dig_toNat (by omega), hc]
      rfl
    | succ i =>
      have h6 := h.at' i (by omega)
      rw [List.getElem?_set_ne (by omega), List.getD_cons_succ, ← h6]
      congr 1
      omega
  · right
    refine ⟨by omega, ?_⟩
    rcases h.told with ⟨h1, h2, h3⟩ | ⟨h1, h2⟩
    · subst h2 h3
      exact dec_step m
    · have hm0 : m ≠ 0 := by
        rcases hgo with h7 | h7
        · omega
        · exact h7
      rw [h2, ds_pos hm0]
      simp
  · subst hw
    have hgw := h.gw
    have h8 : Below w.heap.size w w1 := h.low.trans (hb.mono h.low.size)
    have h9 := below_two (h8.setCell (p := ⟨g + 1, k, none⟩) (by show w.heap.size ≤ g + 1; omega) (.int .u8 c)) hgw (.int .u64 (q1 : Int)) (.int .u64 (q0 : Int))
    exact h9.alloc h9.size o
theorem slice_dig (g t : Nat) (ht : t < 39) (w : World) :
    (Instr.sliceAt 61 (.pointer (some ⟨g, 0, none⟩)) (some (.int .i64 (t : Int))) none none).run Tryd.prog w = .ok (.slice (some ⟨g, t, none⟩) (39 - t) (39 - t)) w := by
  rw [run_sliceAt_array_l w _ _ (by kernel_rfl) .i64 (t : Int) (by omega) (by show (t : Int) ≤ ((39 : Nat) : Int); omega)]
  show ((sizeOf 5).run Tryd.prog w).andThen (fun s w => .ok (slicedAt ⟨g, 0, none⟩ (t : Int).toNat 39 39 s) w) = _
  rw [Tryd.sizeOf5]
  have h : ¬ 39 = t := by omega
  simp [Result.andThen, slicedAt, h, Addr.add_lit]
set_option maxHeartbeats 1000000 in
theorem text_at (n a1 a0 : Nat) (hn : n < 340282366920938463463374607431768211456) (w : World) (H1 : Hid (a1 = n / 18446744073709551616)) (H0 : Hid (a0 = n % 18446744073709551616)) :
    Calls Tryd.prog 16 #[.agg #[.int .u64 (a1 : Int), .int .u64 (a0 : Int)]] w fun e w' => e = .returned (.string ⟨(dec n).toArray⟩) ∧ Below w.heap.size w w' := by
  obtain ⟨T, hT⟩ : ∃ T : List UInt8, T = dec n := ⟨_, rfl⟩
  rw [← hT]
  have HT := Lib.hid hT
  have HN := Lib.hid hn
  clear hT hn
  go_enter Tryd.func16, Tryd.ntmps16
  go_wp2_with fail
  go_loopw [4] (fun v wr => TextIs w w.heap.size n v wr) (fun v _ => (intOf v).toNat)
  case atStart =>
    refine ⟨39, n, List.replicate 39 (.int .u8 0), [], rfl, by omega, Nat.lt_trans HN.out (by decide), ?_, ?_, by simp, rfl, fun i hi => absurd hi (by omega), .inl ⟨rfl, rfl, rfl⟩, ((Below.refl _ _).alloc (Nat.le_refl _) _).alloc (by simp) _, Nat.le_refl _⟩
    · rw [H1.out, H0.out]
      rw [Below.heap_alloc _ _ _ (by simp)]
      exact heap_alloc_new _ _
    · have h := heap_alloc_new (w.alloc (Obj.cells #[.int .u64 (a1 : Int), .int .u64 (a0 : Int)] 29)) (Obj.cells (List.replicate 39 (Value.int .u8 0)).toArray 61)
      simpa using h
  case round =>
    obtain ⟨t, m, row, tail, rfl, hh⟩ := hrel
    have HH := Lib.hid hh
    have j0 := block_cell hh.box 0
    have j1 := block_cell hh.box 1
    simp only [List.getElem?_toArray, List.getElem?_cons_zero, List.getElem?_cons_succ] at j0 j1
    clear hh
    obtain ⟨m1, hm1⟩ : ∃ m1, m1 = m / 18446744073709551616 := ⟨_, rfl⟩
    obtain ⟨m0, hm0⟩ : ∃ m0, m0 = m % 18446744073709551616 := ⟨_, rfl⟩
    rw [← hm1] at j0
    rw [← hm0] at j1
    by_cases h39 : t = 39
    · have HM1 := Lib.hid hm1; have HM0 := Lib.hid hm0
      clear hm1 hm0
      have hgo : Hid (t = 39 ∨ m ≠ 0) := .inl h39
      have d39 : ((t : Int) == 39) = true := by rw [h39]; rfl
      have ht39 : 1 ≤ t := by omega
      clear h39
      obtain ⟨k, hk⟩ : ∃ k, t = k + 1 := ⟨t - 1, by omega⟩
      have hh' := HH.out
      rw [hk] at hh'
      have HK := Lib.hid hh'
      have hml : m < 340282366920938463463374607431768211456 := by
        rcases HH.out.mlt with h | h
        · exact h
        · rcases HH.out.told with ⟨_, h2, _⟩ | ⟨h2, _⟩
          · rw [h2]; exact HN.out
          · omega
      have cD := div_any m 10 hml (by omega) (by omega) wr
      have hr10 : m % 10 < 10 := Nat.mod_lt _ (by omega)
      unfold wv at cD
      have e1 : (t : Int) - 1 = (k : Int) := by omega
      have hk39 : k < 39 := by have := HH.out.ht; omega
      have e2 : wrap64 (k : Int) = (k : Int) := by unfold wrap64; omega
      have HM : Hid (k < t) := show _ < _ by omega
      have HK' : Hid (t = k + 1) := hk
      obtain ⟨q1, hq1⟩ : ∃ q1, q1 = m / 10 / 18446744073709551616 := ⟨_, rfl⟩
      obtain ⟨q0, hq0⟩ : ∃ q0, q0 = m / 10 % 18446744073709551616 := ⟨_, rfl⟩
      obtain ⟨r, hr⟩ : ∃ r, r = m % 10 := ⟨_, rfl⟩
      rw [← hq1, ← hq0, ← hr, ← HM1.out, ← HM0.out] at cD
      rw [← hr] at hr10
      have e3 : IntKind.u8.wrap (r : Int) = (r : Int) := by rw [IntKind.wrap_u8]; omega
      have e4 : IntKind.u8.wrap (48 + (r : Int)) = 48 + (r : Int) := by rw [IntKind.wrap_u8]; omega
      have HQ := Lib.hid hq1; have HP := Lib.hid hq0; have HRR := Lib.hid hr
      have CD := Lib.hid cD
      have hkt : (k : Int) < 39 := by omega
      have hk0 : (0 : Int) ≤ (k : Int) := by omega
      clear hq1 hq0 hr cD hml hh' hk
      go_wp2_with fail
      refine CD.out.mono ?_
      rintro e w1 ⟨rfl, B1⟩
      have z1 := block_lt HH.out.box
      have z2 := block_lt HH.out.dig
      have x0 := (B1.cell (p := ⟨w.heap.size, 0, none⟩) z1).trans j0
      have x1 := (B1.cell (p := ⟨w.heap.size, 1, none⟩) z1).trans j1
      have y0 : w1.frozen? ⟨w.heap.size, 0, none⟩ = false := (B1.frozen (p := ⟨w.heap.size, 0, none⟩) z1).trans (block_frozen HH.out.box 0)
      have y1 : w1.frozen? ⟨w.heap.size, 1, none⟩ = false := (B1.frozen (p := ⟨w.heap.size, 1, none⟩) z1).trans (block_frozen HH.out.box 1)
      have y2 : w1.frozen? ⟨w.heap.size + 1, k, none⟩ = false := (B1.frozen (p := ⟨w.heap.size + 1, k, none⟩) z2).trans (block_frozen HH.out.dig k)
      obtain ⟨cv, hcv⟩ : ∃ cv, row[k]? = some cv := ⟨_, List.getElem?_eq_getElem (by have := HH.out.len; omega)⟩
      have x2 : w1.cell? ⟨w.heap.size + 1, k, none⟩ = some cv := (B1.cell (p := ⟨w.heap.size + 1, k, none⟩) z2).trans ((block_cell HH.out.dig k).trans (by simpa using hcv))
      have s1 : w.heap.size < w1.heap.size := Nat.lt_of_lt_of_le z1 B1.size
      have s2 : w.heap.size + 1 < w1.heap.size := Nat.lt_of_lt_of_le z2 B1.size
      have HB1 := Lib.hid B1
      clear hcv B1 z1 z2 j0 j1
      go_wp2_with fail
      go_roundw
      case rel => exact ⟨k, _, _, _, rfl, HK.out.next (by rw [← HK'.out]; exact hgo.out) HB1.out _ _ (by rw [← HRR.out]) q1 q0 HQ.out HP.out rfl⟩
      case measure => simp [intOf]; exact HM.out
    · have h39' : t < 39 := by have := HH.out.ht; omega
      by_cases hz : m = 0
      · subst hz
        obtain rfl : m1 = 0 := by rw [hm1]
        obtain rfl : m0 = 0 := by rw [hm0]
        have HE : Hid (T = tail) := show _ = _ by
          rcases HH.out.told with ⟨h, _⟩ | ⟨_, h⟩
          · omega
          · rw [HT.out, h, ds_zero]; rfl
        have hd : Held wr (· < wr.heap.size) (some ⟨w.heap.size + 1, t, none⟩) (39 - t) tail :=
          ⟨HH.out.tl, fun _ => ⟨_, _, rfl, block_lt HH.out.dig, fun i hi => by rw [block_cell HH.out.dig]; simpa using HH.out.at' i hi⟩⟩
        have d39 : ((t : Int) == 39) = false := by rw [beq_eq_false_iff_ne]; omega
        clear hm1 hm0 h39
        have hs1 := slice_dig (w.heap.size + 1) t h39' wr
        have hs2 := run_string (P := Tryd.prog) 64 9 5 Tryd.underlying64 Tryd.underlying5 Tryd.underlying9 hd (39 - t)
        have HL := Lib.hid HH.out.low
        clear hd
        generalize 39 - t = z at *
        go_wp2_with fail
        go_ret
        exact ⟨by rw [HE.out]; rfl, HL.out⟩
      · have ht39 : 1 ≤ t := by
          have := HH.out.hm
          rcases Nat.eq_zero_or_pos t with h | h
          · rw [h] at this; simp at this; omega
          · exact h
        have hgo : Hid (t = 39 ∨ m ≠ 0) := .inr hz
        have dz : ((m1 : Int) == 0) = false ∨ (((m1 : Int) == 0) = true ∧ ((m0 : Int) == 0) = false) := by
          by_cases h1 : m1 = 0
          · right
            refine ⟨by rw [h1]; rfl, ?_⟩
            rw [beq_eq_false_iff_ne]
            omega
          · left
            rw [beq_eq_false_iff_ne]
            omega
        have HM1 := Lib.hid hm1; have HM0 := Lib.hid hm0
        have d39 : ((t : Int) == 39) = false := by rw [beq_eq_false_iff_ne]; omega
        clear hm1 hm0 hz h39
        rcases dz with dz | ⟨dz, dz'⟩
        all_goals (
        obtain ⟨k, hk⟩ : ∃ k, t = k + 1 := ⟨t - 1, by omega⟩
        have hh' := HH.out
        rw [hk] at hh'
        have HK := Lib.hid hh'
        have hml : m < 340282366920938463463374607431768211456 := by
          rcases HH.out.mlt with h | h
          · exact h
          · rcases HH.out.told with ⟨_, h2, _⟩ | ⟨h2, _⟩
            · rw [h2]; exact HN.out
            · omega
        have cD := div_any m 10 hml (by omega) (by omega) wr
        have hr10 : m % 10 < 10 := Nat.mod_lt _ (by omega)
        unfold wv at cD
        have e1 : (t : Int) - 1 = (k : Int) := by omega
        have hk39 : k < 39 := by have := HH.out.ht; omega
        have e2 : wrap64 (k : Int) = (k : Int) := by unfold wrap64; omega
        have HM : Hid (k < t) := show _ < _ by omega
        have HK' : Hid (t = k + 1) := hk
        obtain ⟨q1, hq1⟩ : ∃ q1, q1 = m / 10 / 18446744073709551616 := ⟨_, rfl⟩
        obtain ⟨q0, hq0⟩ : ∃ q0, q0 = m / 10 % 18446744073709551616 := ⟨_, rfl⟩
        obtain ⟨r, hr⟩ : ∃ r, r = m % 10 := ⟨_, rfl⟩
        rw [← hq1, ← hq0, ← hr, ← HM1.out, ← HM0.out] at cD
        rw [← hr] at hr10
        have e3 : IntKind.u8.wrap (r : Int) = (r : Int) := by rw [IntKind.wrap_u8]; omega
        have e4 : IntKind.u8.wrap (48 + (r : Int)) = 48 + (r : Int) := by rw [IntKind.wrap_u8]; omega
        have HQ := Lib.hid hq1; have HP := Lib.hid hq0; have HRR := Lib.hid hr
        have CD := Lib.hid cD
        have hkt : (k : Int) < 39 := by omega
        have hk0 : (0 : Int) ≤ (k : Int) := by omega
        clear hq1 hq0 hr cD hml hh' hk
        go_wp2_with fail
        refine CD.out.mono ?_
        rintro e w1 ⟨rfl, B1⟩
        have z1 := block_lt HH.out.box
        have z2 := block_lt HH.out.dig
        have x0 := (B1.cell (p := ⟨w.heap.size, 0, none⟩) z1).trans j0
        have x1 := (B1.cell (p := ⟨w.heap.size, 1, none⟩) z1).trans j1
        have y0 : w1.frozen? ⟨w.heap.size, 0, none⟩ = false := (B1.frozen (p := ⟨w.heap.size, 0, none⟩) z1).trans (block_frozen HH.out.box 0)
        have y1 : w1.frozen? ⟨w.heap.size, 1, none⟩ = false := (B1.frozen (p := ⟨w.heap.size, 1, none⟩) z1).trans (block_frozen HH.out.box 1)
        have y2 : w1.frozen? ⟨w.heap.size + 1, k, none⟩ = false := (B1.frozen (p := ⟨w.heap.size + 1, k, none⟩) z2).trans (block_frozen HH.out.dig k)
        obtain ⟨cv, hcv⟩ : ∃ cv, row[k]? = some cv := ⟨_, List.getElem?_eq_getElem (by have := HH.out.len; omega)⟩
        have x2 : w1.cell? ⟨w.heap.size + 1, k, none⟩ = some cv := (B1.cell (p := ⟨w.heap.size + 1, k, none⟩) z2).trans ((block_cell HH.out.dig k).trans (by simpa using hcv))
        have s1 : w.heap.size < w1.heap.size := Nat.lt_of_lt_of_le z1 B1.size
        have s2 : w.heap.size + 1 < w1.heap.size := Nat.lt_of_lt_of_le z2 B1.size
        have HB1 := Lib.hid B1
        clear hcv B1 z1 z2 j0 j1
        go_wp2_with fail
        go_roundw
        case rel => exact ⟨k, _, _, _, rfl, HK.out.next (by rw [← HK'.out]; exact hgo.out) HB1.out _ _ (by rw [← HRR.out]) q1 q0 HQ.out HP.out rfl⟩
        case measure => simp [intOf]; exact HM.out)
theorem text_any (n : Nat) (hn : n < 340282366920938463463374607431768211456) (w : World) :
    Calls Tryd.prog 16 #[wv n] w fun e w' => e = .returned (.string ⟨(dec n).toArray⟩) ∧ Below w.heap.size w w' := text_at n _ _ hn w rfl rfl
end Go.Proofs.YtkkoefiennccoaaDoor
namespace Go.Proofs.YtkkoefiennccoaaDoor
set_option maxRecDepth 100000
open Go.RowKit
theorem at_txt (l : List UInt8) (kd : IntKind) (i : Int) (j : Nat) (hi : i = (j : Int)) (hj : j < l.length) (w : World) :
    (Instr.index 9 (.string ⟨l.toArray⟩) (.int kd i)).run Tryd.prog w = .ok (.int .u8 ((l.getD j 0).toNat : Int)) w := by
  subst hi
  rw [run_index_string w _ _ _ _ Tryd.underlying9, dif_pos ⟨by omega, by simp [ByteArray.size]; omega⟩]
  have e : (⟨l.toArray⟩ : ByteArray)[((j : Int)).toNat]'(by simp [ByteArray.size]; omega) = l.getD j 0 := by
    show l.toArray[((j : Int)).toNat]'(by simp; omega) = l.getD j 0
    simp [List.getD, hj]
  rw [e]
theorem rd_at {s : List UInt8} {v k : Nat} (h : k < s.length) : rd v (s.drop k) =
    if (s.getD k 0).toNat < 48 ∨ 57 < (s.getD k 0).toNat then none else if 340282366920938463463374607431768211456 ≤ v * 10 + ((s.getD k 0).toNat - 48) then none else rd (v * 10 + ((s.getD k 0).toNat - 48)) (s.drop (k + 1)) := by
  have e : s.drop k = s.getD k 0 :: s.drop (k + 1) := by
    rw [List.drop_eq_getElem_cons h]
    simp [List.getD, h]
  rw [e, rd]
/-- What Parse answers. -/
def parV (r : Option Nat) : Value := .tuple #[wv (r.getD 0), .bool r.isSome]
theorem parV_none {r : Option Nat} (h : r = none) : Ending.returned (.tuple #[.agg #[.int .u64 0, .int .u64 0], .bool false]) = .returned (parV r) := by rw [h]; rfl
theorem parV_some {r : Option Nat} {v a1 a0 : Nat} (h : r = some v) (h1 : a1 = v / 18446744073709551616) (h0 : a0 = v % 18446744073709551616) : Ending.returned (.tuple #[.agg #[.int .u64 (a1 : Int), .int .u64 (a0 : Int)], .bool true]) = .returned (parV r) := by
  rw [h, h1, h0]; rfl
set_option maxHeartbeats 400000 in
theorem of_at (v : Nat) (w : World) :
    Calls Tryd.prog 47 #[.int .u64 (v : Int)] w fun e w' => e = .returned (.agg #[.int .u64 0, .int .u64 (v : Int)]) ∧ w' = w.alloc (.cells #[.int .u64 0, .int .u64 (v : Int)] 29) := by
  go_enter Tryd.func47, Tryd.ntmps47
  go_wp2_with fail
  refine bodyPost_ret (v := .agg #[.int .u64 0, .int .u64 (v : Int)]) (by simp [results, Tryd.results47, go_sem]) rfl ?_
  exact ⟨rfl, rfl⟩
set_option maxHeartbeats 400000 in
/-- Add onto a small number, with the very world. -/
theorem add_at (a1 a0 d l c m o : Nat) (hc : c ≤ 1) (x1 : (a0 + d) / 18446744073709551616 = c) (x2 : (a0 + d) % 18446744073709551616 = l) (x3 : (a1 + 0 + c) / 18446744073709551616 = o) (x4 : (a1 + 0 + c) % 18446744073709551616 = m) (w : World) :
    Calls Tryd.prog 46 #[.agg #[.int .u64 (a1 : Int), .int .u64 (a0 : Int)], .agg #[.int .u64 0, .int .u64 (d : Int)]] w fun e w' => e = .returned (.tuple #[.agg #[.int .u64 (m : Int), .int .u64 (l : Int)], .bool ((o : Int) != 0)]) ∧
      w' = ((w.alloc (.cells #[.int .u64 (a1 : Int), .int .u64 (a0 : Int)] 29)).alloc (.cells #[.int .u64 0, .int .u64 (d : Int)] 29)).alloc (.cells #[.int .u64 (m : Int), .int .u64 (l : Int)] 29) := by
  have y1 := add64_zero a0 d
  have y2 : ∀ w, (callFunc 70 #[.int .u64 (a1 : Int), .int .u64 0, .int .u64 (c : Int)]).run Tryd.prog w = _ := add64_any a1 0 c hc
  rw [x1, x2] at y1
  rw [x3, x4] at y2
  clear x1 x2 x3 x4 hc
  go_enter Tryd.func46, Tryd.ntmps46
  go_wp2_with (first | (rw [y1, Oper.upon_value]) | (rw [y2, Oper.upon_value]))
  refine bodyPost_ret (v := .tuple #[.agg #[.int .u64 (m : Int), .int .u64 (l : Int)], .bool ((o : Int) != 0)]) (by simp [results, Tryd.results46, go_sem]) rfl ?_
  exact ⟨rfl, rfl⟩
/-- What holds at the head of Parse's loop. -/
structure ParseAt (w : World) (s : List UInt8) (k v : Nat) (wr : World) : Prop where
  hk : k ≤ s.length
  hv : v < 340282366920938463463374607431768211456
  res : wr.heap[w.heap.size]? = some (.cells #[.int .u64 0, .int .u64 0] 29 (0, 0))
  box : wr.heap[w.heap.size + 1]? = some (.cells #[.int .u64 ((v / 18446744073709551616 : Nat) : Int), .int .u64 ((v % 18446744073709551616 : Nat) : Int)] 29 (0, 0))
  low : Below w.heap.size w wr
  told : rd 0 s = rd v (s.drop k)
def ParseIs (w : World) (s : List UInt8) (x : Value) (wr : World) : Prop := ∃ k v, x = .int .i64 ((k : Nat) : Int) ∧ ParseAt w s k v wr
/-- What stands behind 'sum, over := ..': a pointer to a new block that holds the sum, and whether it went beyond. -/
def SumCut (W : World) (m l o : Nat) (s8 s9 : Value) (wx : World) : Prop :=
  ∃ g : Nat, s8 = .pointer (some ⟨g, 0, none⟩) ∧ s9 = .bool ((o : Int) != 0) ∧ W.heap.size ≤ g ∧ wx.heap[g]? = some (.cells #[.int .u64 (m : Int), .int .u64 (l : Int)] 29 (0, 0)) ∧ Below W.heap.size W wx
theorem five_blocks {W : World} (o1 o2 o3 o4 o5 : Obj) :
    (((((W.alloc o1).alloc o2).alloc o3).alloc o4).alloc o5).drew.heap[W.heap.size]? = some o1 ∧ (((((W.alloc o1).alloc o2).alloc o3).alloc o4).alloc o5).drew.heap[W.heap.size + 1]? = some o2 ∧
    (((((W.alloc o1).alloc o2).alloc o3).alloc o4).alloc o5).drew.heap[W.heap.size + 1 + 1 + 1 + 1]? = some o5 ∧ Below W.heap.size W (((((W.alloc o1).alloc o2).alloc o3).alloc o4).alloc o5).drew := by
  have e1 : (W.alloc o1).heap.size = W.heap.size + 1 := by simp
  have e2 : ((W.alloc o1).alloc o2).heap.size = W.heap.size + 1 + 1 := by simp
  have e3 : (((W.alloc o1).alloc o2).alloc o3).heap.size = W.heap.size + 1 + 1 + 1 := by simp
  have e4 : ((((W.alloc o1).alloc o2).alloc o3).alloc o4).heap.size = W.heap.size + 1 + 1 + 1 + 1 := by simp
  refine ⟨?_, ?_, ?_, ((((((Below.refl W.heap.size W).alloc (Nat.le_refl _) _).alloc (by simp) _).alloc (by simp; omega) _).alloc (by simp; omega) _).alloc (by simp; omega) _).drew⟩
  · show (((((W.alloc o1).alloc o2).alloc o3).alloc o4).alloc o5).heap[W.heap.size]? = _
    rw [Below.heap_alloc _ _ _ (by rw [e4]; omega), Below.heap_alloc _ _ _ (by rw [e3]; omega), Below.heap_alloc _ _ _ (by rw [e2]; omega), Below.heap_alloc _ _ _ (by rw [e1]; omega)]
    exact heap_alloc_new _ _
  · show (((((W.alloc o1).alloc o2).alloc o3).alloc o4).alloc o5).heap[W.heap.size + 1]? = _
    rw [Below.heap_alloc _ _ _ (by rw [e4]; omega), Below.heap_alloc _ _ _ (by rw [e3]; omega), Below.heap_alloc _ _ _ (by rw [e2]; omega), ← e1]
    exact heap_alloc_new _ _
  · show (((((W.alloc o1).alloc o2).alloc o3).alloc o4).alloc o5).heap[W.heap.size + 1 + 1 + 1 + 1]? = _
    rw [← e4]
    exact heap_alloc_new _ _
theorem bne_cases (o : Nat) : (((o : Int) != 0) = true ∧ o ≠ 0) ∨ (((o : Int) != 0) = false ∧ o = 0) := by
  by_cases h : o = 0
  · subst h; exact .inr ⟨rfl, rfl⟩
  · left
    refine ⟨?_, h⟩
    rw [bne, Bool.not_eq_true', beq_eq_false_iff_ne]
    omega
/-- Ten times, and a digit more: the halves, the carries. -/
theorem ten_more {v d : Nat} (_hv : v < 340282366920938463463374607431768211456) (hd : d < 10) (t : Nat) (ht : t = v * 10 % 340282366920938463463374607431768211456) (o1 : Nat) (ho1 : o1 = v * 10 / 340282366920938463463374607431768211456)
    (l c m o : Nat) (hc : (t % 18446744073709551616 + d) / 18446744073709551616 = c) (hl : (t % 18446744073709551616 + d) % 18446744073709551616 = l) (ho : (t / 18446744073709551616 + 0 + c) / 18446744073709551616 = o) (hm : (t / 18446744073709551616 + 0 + c) % 18446744073709551616 = m) :
    c ≤ 1 ∧ (o1 ≠ 0 ∨ o ≠ 0 → 340282366920938463463374607431768211456 ≤ v * 10 + d) ∧ (o1 = 0 → o = 0 → v * 10 + d < 340282366920938463463374607431768211456 ∧ m = (v * 10 + d) / 18446744073709551616 ∧ l = (v * 10 + d) % 18446744073709551616) := by
  refine ⟨by omega, fun h => by omega, fun h1 h2 => ⟨by omega, by omega, by omega⟩⟩
set_option maxHeartbeats 4000000 in
theorem parse_loop (s : List UInt8) (h0 : s ≠ []) (h39 : s.length ≤ 39) (h1 : ¬ (s.getD 0 0 = 48 ∧ 1 < s.length)) (w : World) :
    Calls Tryd.prog 27 #[.string ⟨s.toArray⟩] w fun e w' => e = .returned (parV (rd 0 s)) ∧ Below w.heap.size w w' := by
  obtain ⟨r, hr⟩ : ∃ r, r = rd 0 s := ⟨_, rfl⟩
  rw [← hr]
  have HR := Lib.hid hr
  clear hr
  have hpos : 0 < s.length := List.length_pos_iff.2 h0
  have e0 : (s == []) = false := by simpa using h0
  have x0 := at_txt s .i64 0 0 rfl hpos
  have hcase : (((s.getD 0 0).toNat : Int) == 48) = true ∧ decide (1 < (s.length : Int)) = false ∨ (((s.getD 0 0).toNat : Int) == 48) = false := by
    by_cases hc : s.getD 0 0 = 48
    · left
      have : ¬ 1 < s.length := fun h => h1 ⟨hc, h⟩
      exact ⟨by rw [hc]; rfl, by simp; omega⟩
    · right
      have h2 : (s.getD 0 0).toNat ≠ 48 := fun e => hc (UInt8.toNat_inj.1 e)
      exact beq_eq_false_iff_ne.2 (by omega)
  have d39 : decide ((39 : Int) < (s.length : Int)) = false := by simp; omega
  generalize s.getD 0 0 = c0 at x0 hcase h1
  have HP := Lib.hid hpos
  clear h1 h0
  go_enter Tryd.func27, Tryd.ntmps27
  go_upto_region 1 with fail
  go_cut [26] (fun b wx => b = .bool false ∧ wx = w.alloc (Obj.cells #[.int .u64 0, .int .u64 0] 29))
  case first =>
    rcases hcase with ⟨g1, g2⟩ | g1
    all_goals (go_wp2_with fail; go_meet; exact ⟨rfl, rfl⟩)
  case rest =>
  obtain ⟨rfl, rfl⟩ := hcut
  clear hcase x0 e0
  go_wp2_with fail
  go_loopw [30] (fun x wr => ParseIs w s x wr) (fun x _ => s.length - (intOf x).toNat)
  case atStart =>
    refine ⟨0, 0, rfl, by omega, by omega, ?_, ?_, ((Below.refl _ _).alloc (Nat.le_refl _) _).alloc (by simp) _, by simp⟩
    · rw [Below.heap_alloc _ _ _ (by simp)]
      exact heap_alloc_new _ _
    · have h := heap_alloc_new (w.alloc (Obj.cells #[.int .u64 0, .int .u64 0] 29)) (Obj.cells #[.int .u64 0, .int .u64 0] 29)
      simpa using h
  case round =>
    obtain ⟨k, v, rfl, hh⟩ := hrel
    have HH := Lib.hid hh
    have hkb : k ≤ 39 := by have := hh.hk; omega
    have j0 := block_cell hh.box 0
    have j1 := block_cell hh.box 1
    have i0 := block_cell hh.res 0
    have i1 := block_cell hh.res 1
    have f0 := block_frozen hh.res 0
    have f1 := block_frozen hh.res 1
    simp only [List.getElem?_toArray, List.getElem?_cons_zero, List.getElem?_cons_succ] at j0 j1 i0 i1
    clear hh
    by_cases hlt : k < s.length
    · have d1 : decide ((k : Int) < (s.length : Int)) = true := by simp; omega
      have d1n : decide (k < s.length) = true := by simpa using hlt
      have x1 := at_txt s .i64 (k : Int) k rfl hlt
      have HA := Lib.hid (rd_at (v := v) (s := s) (k := k) hlt)
      generalize s.getD k 0 = c at x1 HA
      by_cases c1 : c.toNat < 48
      · have d2 : decide ((c.toNat : Int) < 48) = true := by simp; omega
        have HE : Hid (r = none) := show _ = _ by rw [HR.out, HH.out.told, HA.out, if_pos (.inl c1)]
        have HL := Lib.hid HH.out.low
        have HG := Lib.hid HH.out.res
        clear c1 HA HH
        go_wp2_with fail
        try simp only [Exit.inBlock, Exit.then]
        refine bodyPost_ret (results_row2 rfl _ _ w.heap.size _ rfl (load_wide (two_set HG.out))) rfl ?_
        exact ⟨parV_none HE.out, below_two HL.out (Nat.le_refl _) _ _⟩
      · have d2 : decide ((c.toNat : Int) < 48) = false := by simp; omega
        by_cases c2 : 57 < c.toNat
        · have d3 : decide (57 < (c.toNat : Int)) = true := by simp; omega
          have HE : Hid (r = none) := show _ = _ by rw [HR.out, HH.out.told, HA.out, if_pos (.inr c2)]
          have HL := Lib.hid HH.out.low
          have HG := Lib.hid HH.out.res
          clear c1 c2 HA HH
          go_wp2_with fail
          try simp only [Exit.inBlock, Exit.then]
          refine bodyPost_ret (results_row2 rfl _ _ w.heap.size _ rfl (load_wide (two_set HG.out))) rfl ?_
          exact ⟨parV_none HE.out, below_two HL.out (Nat.le_refl _) _ _⟩
        · have d3 : decide (57 < (c.toNat : Int)) = false := by simp; omega
          obtain ⟨d, hd⟩ : ∃ d, d = c.toNat - 48 := ⟨_, rfl⟩
          have hd9 : d < 10 := by omega
          have y1 : IntKind.u8.wrap ((c.toNat : Int) - 48) = (d : Int) := by rw [IntKind.wrap_u8]; omega
          have y1' : (c.toNat : Int) - 48 = (d : Int) := by omega
          have y2 : IntKind.u64.wrap (d : Int) = (d : Int) := wrapN _ (by omega)
          have y3 : IntKind.u8.wrap (d : Int) = (d : Int) := by rw [IntKind.wrap_u8]; omega
          have CT := Lib.hid (times_any v 10 HH.out.hv (by omega) wr)
          obtain ⟨tt, htt⟩ : ∃ tt, tt = v * 10 % 340282366920938463463374607431768211456 := ⟨_, rfl⟩
          obtain ⟨o1, ho1⟩ : ∃ o1, o1 = v * 10 / 340282366920938463463374607431768211456 := ⟨_, rfl⟩
          obtain ⟨cc, hcc⟩ : ∃ cc, (tt % 18446744073709551616 + d) / 18446744073709551616 = cc := ⟨_, rfl⟩
          obtain ⟨l, hl⟩ : ∃ l, (tt % 18446744073709551616 + d) % 18446744073709551616 = l := ⟨_, rfl⟩
          obtain ⟨o, ho⟩ : ∃ o, (tt / 18446744073709551616 + 0 + cc) / 18446744073709551616 = o := ⟨_, rfl⟩
          obtain ⟨m, hm⟩ : ∃ m, (tt / 18446744073709551616 + 0 + cc) % 18446744073709551616 = m := ⟨_, rfl⟩
          have HF := Lib.hid (ten_more HH.out.hv hd9 tt htt o1 ho1 l cc m o hcc hl ho hm)
          have CO := Lib.hid (of_at d)
          have CA := Lib.hid (add_at (tt / 18446744073709551616) (tt % 18446744073709551616) d l cc m o HF.out.1 hcc hl ho hm)
          unfold wv at CT
          rw [← htt, ← ho1] at CT
          clear hcc hl ho hm htt ho1
          generalize tt / 18446744073709551616 = t1 at *
          generalize tt % 18446744073709551616 = t0 at *
          generalize v / 18446744073709551616 = v1 at CT j0
          generalize v % 18446744073709551616 = v0 at CT j1
          have HD := Lib.hid hd
          have Hd9 := Lib.hid hd9
          clear hd hd9
          go_upto_region 10 with (go_at_call 45; refine CT.out.mono ?_; rintro e w1 ⟨rfl, B1⟩)
          have z1 := block_lt HH.out.res
          have z2 := block_lt HH.out.box
          have q1 := (B1.block _ z1).trans HH.out.res
          have q2 := (B1.block _ z2).trans HH.out.box
          have BL1 : Below w.heap.size w w1 := HH.out.low.trans (B1.mono HH.out.low.size)
          obtain ⟨W, hW⟩ : ∃ W, W = w1.alloc (Obj.cells #[.int .u64 (t1 : Int), .int .u64 (t0 : Int)] 29) := ⟨_, rfl⟩
          obtain ⟨n, hn⟩ : ∃ n, n = w1.heap.size := ⟨_, rfl⟩
          rw [← hW, ← hn]
          have k0 : W.cell? ⟨n, 0, none⟩ = some (.int .u64 (t1 : Int)) := by rw [hW, hn]; simp [go_sem]
          have k1 : W.cell? ⟨n, 1, none⟩ = some (.int .u64 (t0 : Int)) := by rw [hW, hn]; simp [go_sem]
          have Q1 := Lib.hid ((show W.heap[w.heap.size]? = w1.heap[w.heap.size]? by rw [hW]; exact Below.heap_alloc _ _ _ (block_lt q1)).trans q1)
          have Q2 := Lib.hid ((show W.heap[w.heap.size + 1]? = w1.heap[w.heap.size + 1]? by rw [hW]; exact Below.heap_alloc _ _ _ (block_lt q2)).trans q2)
          have QL : Hid (Below w.heap.size w W) := by rw [hW]; exact BL1.alloc BL1.size _
          clear hW hn q1 q2 B1 BL1 z1 z2 j0 j1 i0 i1 f0 f1
          go_cut [8, 9] (fun s8 s9 wx => SumCut W m l o s8 s9 wx)
          case first =>
            go_region_held3 (fun V : World => V.cell? ⟨n, 0, none⟩ = some (.int .u64 (t1 : Int)) ∧ V.cell? ⟨n, 1, none⟩ = some (.int .u64 (t0 : Int)))
              ((refine ⟨?_, ?_⟩ <;> (repeat (first | with_reducible refine cell_drew ?_ | with_reducible refine cell_past _ ?_)) <;> (first | with_reducible exact k0 | with_reducible exact k1)))
              (first | (go_at_call 47; (with_reducible refine (CO.out _).mono ?_); rintro e w2 ⟨rfl, rfl⟩) | (go_at_call 46; (with_reducible refine (CA.out _).mono ?_); rintro e w2 ⟨rfl, rfl⟩))
            all_goals (go_wp2_with fail; go_meet; refine ⟨_, rfl, rfl, ?_, (by first | exact (five_blocks _ _ _ _ _).1 | exact (five_blocks _ _ _ _ _).2.1 | exact (five_blocks _ _ _ _ _).2.2.1), (five_blocks _ _ _ _ _).2.2.2⟩; omega)
          case rest =>
            obtain ⟨g8, rfl, rfl, hg8, hb8, hBx⟩ := hcut
            have R1 := Lib.hid ((hBx.block _ (block_lt Q1.out)).trans Q1.out)
            have R2 := Lib.hid ((hBx.block _ (block_lt Q2.out)).trans Q2.out)
            have BL : Hid (Below w.heap.size w wc) := QL.out.trans (hBx.mono QL.out.size)
            have j0 := block_cell hb8 0
            have j1 := block_cell hb8 1
            have i0 := block_cell R1.out 0
            have i1 := block_cell R1.out 1
            have f0 := block_frozen R1.out 0
            have f1 := block_frozen R1.out 1
            have i2 := block_cell R2.out 0
            have i3 := block_cell R2.out 1
            have f2 := block_frozen R2.out 0
            have f3 := block_frozen R2.out 1
            simp only [List.getElem?_toArray, List.getElem?_cons_zero, List.getElem?_cons_succ] at j0 j1 i0 i1 i2 i3
            have hg8' : w.heap.size + 1 < g8 := Nat.lt_of_lt_of_le (block_lt Q2.out) hg8
            have hd := HD.out
            clear hb8 hBx hg8
            rcases bne_cases o1 with ⟨t3, ho1⟩ | ⟨t3, ho1⟩
            · have HE : Hid (r = none) := show _ = _ by rw [HR.out, HH.out.told, HA.out, if_neg (by omega), ← hd, if_pos (HF.out.2.1 (.inl ho1))]
              clear hd ho1 HF HA
              go_wp2_with fail
              try simp only [Exit.inBlock, Exit.then]
              refine bodyPost_ret (results_row2 rfl _ _ w.heap.size _ rfl (load_wide (two_set R1.out))) rfl ?_
              exact ⟨parV_none HE.out, below_two BL.out (Nat.le_refl _) _ _⟩
            · rcases bne_cases o with ⟨t4, ho⟩ | ⟨t4, ho⟩
              · have HE : Hid (r = none) := show _ = _ by rw [HR.out, HH.out.told, HA.out, if_neg (by omega), ← hd, if_pos (HF.out.2.1 (.inr ho))]
                clear hd ho ho1 HF HA
                go_wp2_with fail
                try simp only [Exit.inBlock, Exit.then]
                refine bodyPost_ret (results_row2 rfl _ _ w.heap.size _ rfl (load_wide (two_set R1.out))) rfl ?_
                exact ⟨parV_none HE.out, below_two BL.out (Nat.le_refl _) _ _⟩
              · obtain ⟨hx1, hx2, hx3⟩ := HF.out.2.2 ho1 ho
                have HE : Hid (rd 0 s = rd (v * 10 + d) (s.drop (k + 1))) := show _ = _ by rw [HH.out.told, HA.out, if_neg (by omega), ← hd, if_neg (by omega)]
                have X1 := Lib.hid hx1; have X2 := Lib.hid hx2; have X3 := Lib.hid hx3
                clear hd ho ho1 HF HA hx1 hx2 hx3
                go_wp2_with fail
                go_roundw
                case rel =>
                  refine ⟨k + 1, v * 10 + d, ret_val (by omega), by omega, X1.out, ?_, ?_, below_two BL.out (by omega) _ _, HE.out⟩
                  · rw [Below.heap_setCell _ _ _ _ (by simp), Below.heap_setCell _ _ _ _ (by simp)]
                    exact R1.out
                  · rw [← X2.out, ← X3.out]
                    exact two_set R2.out
                case measure => simp [intOf]; omega
    · obtain rfl : k = s.length := by have := HH.out.hk; omega
      have d1 : decide ((s.length : Int) < (s.length : Int)) = false := by simp
      have d1n : decide (s.length < s.length) = false := by simp
      have HE : Hid (r = some v) := show _ = _ by rw [HR.out, HH.out.told, List.drop_length, rd]
      have HL := Lib.hid HH.out.low
      have HG := Lib.hid HH.out.res
      obtain ⟨v1, hv1⟩ : ∃ v1, v1 = v / 18446744073709551616 := ⟨_, rfl⟩
      obtain ⟨v0, hv0⟩ : ∃ v0, v0 = v % 18446744073709551616 := ⟨_, rfl⟩
      rw [← hv1] at j0
      rw [← hv0] at j1
      have V1 := Lib.hid hv1; have V0 := Lib.hid hv0
      clear hv1 hv0 HH
      go_wp2_with fail
      try simp only [Exit.inBlock, Exit.then]
      refine bodyPost_ret (results_row2 rfl _ _ w.heap.size _ rfl (load_wide (two_set HG.out))) rfl ?_
      exact ⟨parV_some HE.out V1.out V0.out, below_two HL.out (Nat.le_refl _) _ _⟩
set_option maxHeartbeats 1000000 in
theorem parse_any (s : List UInt8) (hs : s.length ≤ 1000000) (w : World) :
    Calls Tryd.prog 27 #[.string ⟨s.toArray⟩] w fun e w' => e = .returned (parV (parseW s)) ∧ Below w.heap.size w w' := by
  by_cases hb : s = [] ∨ 39 < s.length ∨ (s.getD 0 0 = 48 ∧ 1 < s.length)
  · have HE : Hid (parseW s = none) := if_pos hb
    generalize parseW s = r at *
    by_cases h0 : s = []
    · subst h0
      clear hb
      go_enter Tryd.func27, Tryd.ntmps27
      go_wp2_with fail
      refine bodyPost_ret (v := .tuple #[.agg #[.int .u64 0, .int .u64 0], .bool false]) (by simp [results, Tryd.results27, go_sem]) rfl ?_
      exact ⟨parV_none HE.out, (Below.refl _ _).alloc (Nat.le_refl _) _⟩
    · have e0 : (s == []) = false := by simpa using h0
      by_cases h39 : 39 < s.length
      · have d39 : decide ((39 : Int) < (s.length : Int)) = true := by simp; omega
        clear hb
        go_enter Tryd.func27, Tryd.ntmps27
        go_wp2_with fail
        refine bodyPost_ret (v := .tuple #[.agg #[.int .u64 0, .int .u64 0], .bool false]) (by simp [results, Tryd.results27, go_sem]) rfl ?_
        exact ⟨parV_none HE.out, (Below.refl _ _).alloc (Nat.le_refl _) _⟩
      · have d39 : decide ((39 : Int) < (s.length : Int)) = false := by simp; omega
        obtain ⟨h1, h2⟩ : s.getD 0 0 = 48 ∧ 1 < s.length := by
          rcases hb with h | h | h
          · exact absurd h h0
          · exact absurd h h39
          · exact h
        have x0 := at_txt s .i64 0 0 rfl (by omega)
        rw [h1] at x0
        have d2 : decide (1 < (s.length : Int)) = true := by simp; omega
        have d2n : decide (1 < s.length) = true := by simp; omega
        clear hb h1
        go_enter Tryd.func27, Tryd.ntmps27
        go_wp2_with fail
        refine bodyPost_ret (v := .tuple #[.agg #[.int .u64 0, .int .u64 0], .bool false]) (by simp [results, Tryd.results27, go_sem]) rfl ?_
        exact ⟨parV_none HE.out, (Below.refl _ _).alloc (Nat.le_refl _) _⟩
  · have e : parseW s = rd 0 s := if_neg hb
    rw [e]
    exact parse_loop s (fun h => hb (.inl h)) (by omega) (fun h => hb (.inr (.inr h))) w
end Go.Proofs.YtkkoefiennccoaaDoor
