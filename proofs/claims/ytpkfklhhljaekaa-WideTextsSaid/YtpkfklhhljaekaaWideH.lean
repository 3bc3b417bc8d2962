/-
  What wide's Text does; no condition beyond what the contract asks.
-/
import Derived.Test.YtpkfklhhljaekaaWideF
namespace Go.Proofs.Ytpkfklhhljaekaa
open Go.RowKit

/-- What holds at the head of Text's loop: t digits may still come, m is left of n. -/
structure TextAt (w : World) (g n : Nat) (t m : Nat) (row : List Value) (tail : List UInt8) (wr : World) : Prop where
  ht : t ≤ 39
  hm : m < 10 ^ t
  box : wr.heap[g]? = some (.cells #[.int .u64 ((m / 18446744073709551616 : Nat) : Int), .int .u64 ((m % 18446744073709551616 : Nat) : Int)] 24 (0, 0))
  dig : wr.heap[g + 1]? = some (.cells row.toArray 53 (0, 0))
  len : row.length = 39
  tl : tail.length = 39 - t
  at' : ∀ i, i < 39 - t → row[t + i]? = some (.int .u8 ((tail.getD i 0).toNat : Int))
  told : (t = 39 ∧ m = n ∧ tail = []) ∨ (t < 39 ∧ dec n = ds m ++ tail)
  low : Below w.heap.size w wr
  gw : w.heap.size ≤ g
def TextIs (w : World) (g n : Nat) (v : Value) (wr : World) : Prop := ∃ t m row tail, v = .int .i64 ((t : Nat) : Int) ∧ TextAt w g n t m row tail wr

theorem TextAt.mlt {w : World} {g n t m : Nat} {row : List Value} {tail : List UInt8} {wr : World} (h : TextAt w g n t m row tail wr) : m < 340282366920938463463374607431768211456 ∨ t = 39 := by
  by_cases ht : t = 39
  · exact .inr ht
  · left
    have h1 : m < 10 ^ t := h.hm
    have h2 : 10 ^ t ≤ 10 ^ 38 := Nat.pow_le_pow_right (by omega) (by have := h.ht; omega)
    omega
/-- One digit more. -/
theorem TextAt.next {w : World} {g n k m : Nat} {row : List Value} {tail : List UInt8} {wr w1 w2 : World} (h : TextAt w g n (k + 1) m row tail wr) (hgo : k + 1 = 39 ∨ m ≠ 0)
    (hb : Below wr.heap.size wr w1) (o : Obj) (c : Int) (hc : c = 48 + (m % 10 : Nat)) (q1 q0 : Nat) (h1 : q1 = m / 10 / 18446744073709551616) (h0 : q0 = m / 10 % 18446744073709551616)
    (hw : w2 = (((w1.setCell ⟨g + 1, k, none⟩ (.int .u8 c)).setCell ⟨g, 0, none⟩ (.int .u64 (q1 : Int))).setCell ⟨g, 1, none⟩ (.int .u64 (q0 : Int))).alloc o) :
    TextAt w g n k (m / 10) (row.set k (.int .u8 c)) (UInt8.ofNat (48 + m % 10) :: tail) w2 := by
  have ht := h.ht
  have hl := h.len
  have htl := h.tl
  have z1 := block_lt h.box
  have z2 := block_lt h.dig
  have b1 : w1.heap[g]? = some (.cells #[.int .u64 ((m / 18446744073709551616 : Nat) : Int), .int .u64 ((m % 18446744073709551616 : Nat) : Int)] 24 (0, 0)) := (hb.block g z1).trans h.box
  have b2 : w1.heap[g + 1]? = some (.cells row.toArray 53 (0, 0)) := (hb.block (g + 1) z2).trans h.dig
  have s1 := block_lt b1
  have s2 := block_lt b2
  refine ⟨by omega, ?_, ?_, ?_, by simp [hl], by simp [htl]; omega, ?_, ?_, ?_, h.gw⟩
  · have := h.hm
    rw [Nat.pow_succ] at this
    omega
  · subst hw h1 h0
    rw [Below.heap_alloc _ _ _ (by simpa [World.setCell] using s1)]
    refine two_set (x := .int .u64 ((m / 18446744073709551616 : Nat) : Int)) (y := .int .u64 ((m % 18446744073709551616 : Nat) : Int)) ?_
    rw [Below.heap_setCell _ _ _ _ (by simp)]
    exact b1
  · subst hw
    rw [Below.heap_alloc _ _ _ (by simpa [World.setCell] using s2), Below.heap_setCell _ _ _ _ (by simp), Below.heap_setCell _ _ _ _ (by simp)]
    have h5 := block_set b2 k (.int .u8 c)
    simpa using h5
  · intro i hi
    cases i with
    | zero =>
      simp only [Nat.add_zero, List.getD_cons_zero]
      rw [List.getElem?_set_self (by omega), dig_toNat (by omega), hc]
      rfl
    | succ i =>
      have h6 := h.at' i (by omega)
      rw [List.getElem?_set_ne (by omega), List.getD_cons_succ, ← h6]
      congr 1
      omega
  · right
    refine ⟨by omega, ?_⟩
    rcases h.told with ⟨h1, h2, h3⟩ | ⟨h1, h2⟩
    · subst h2 h3
      exact dec_step m
    · have hm0 : m ≠ 0 := by
        rcases hgo with h7 | h7
        · omega
        · exact h7
      rw [h2, ds_pos hm0]
      simp
  · subst hw
    have hgw := h.gw
    have h8 : Below w.heap.size w w1 := h.low.trans (hb.mono h.low.size)
    have h9 := below_two (h8.setCell (p := ⟨g + 1, k, none⟩) (by show w.heap.size ≤ g + 1; omega) (.int .u8 c)) hgw (.int .u64 (q1 : Int)) (.int .u64 (q0 : Int))
    exact h9.alloc h9.size o

theorem slice_dig (g t : Nat) (ht : t < 39) (w : World) :
    (Instr.sliceAt 53 (.pointer (some ⟨g, 0, none⟩)) (some (.int .i64 (t : Int))) none none).run Try.prog w = .ok (.slice (some ⟨g, t, none⟩) (39 - t) (39 - t)) w := by
  rw [run_sliceAt_array_l w _ _ (by kernel_rfl) .i64 (t : Int) (by omega) (by show (t : Int) ≤ ((39 : Nat) : Int); omega)]
  show ((sizeOf 5).run Try.prog w).andThen (fun s w => .ok (slicedAt ⟨g, 0, none⟩ (t : Int).toNat 39 39 s) w) = _
  rw [Try.sizeOf5]
  have h : ¬ 39 = t := by omega
  simp [Result.andThen, slicedAt, h, Addr.add_lit]

set_option maxHeartbeats 1000000 in
theorem text_at (n a1 a0 : Nat) (hn : n < 340282366920938463463374607431768211456) (w : World) (H1 : Hid (a1 = n / 18446744073709551616)) (H0 : Hid (a0 = n % 18446744073709551616)) :
    Calls Try.prog 25 #[.agg #[.int .u64 (a1 : Int), .int .u64 (a0 : Int)]] w fun e w' => e = .returned (.string ⟨(dec n).toArray⟩) ∧ Below w.heap.size w w' := by
  obtain ⟨T, hT⟩ : ∃ T : List UInt8, T = dec n := ⟨_, rfl⟩
  rw [← hT]
  have HT := Lib.hid hT
  have HN := Lib.hid hn
  clear hT hn
  go_enter Try.func25, Try.ntmps25
  go_wp2_with fail
  go_loopw [4] (fun v wr => TextIs w w.heap.size n v wr) (fun v _ => (intOf v).toNat)
  case atStart =>
    refine ⟨39, n, List.replicate 39 (.int .u8 0), [], rfl, by omega, Nat.lt_trans HN.out (by decide), ?_, ?_, by simp, rfl, fun i hi => absurd hi (by omega), .inl ⟨rfl, rfl, rfl⟩, ((Below.refl _ _).alloc (Nat.le_refl _) _).alloc (by simp) _, Nat.le_refl _⟩
    · rw [H1.out, H0.out]
      rw [Below.heap_alloc _ _ _ (by simp)]
      exact heap_alloc_new _ _
    · have h := heap_alloc_new (w.alloc (Obj.cells #[.int .u64 (a1 : Int), .int .u64 (a0 : Int)] 24)) (Obj.cells (List.replicate 39 (Value.int .u8 0)).toArray 53)
      simpa using h
  case round =>
    obtain ⟨t, m, row, tail, rfl, hh⟩ := hrel
    have HH := Lib.hid hh
    have j0 := block_cell hh.box 0
    have j1 := block_cell hh.box 1
    simp only [List.getElem?_toArray, List.getElem?_cons_zero, List.getElem?_cons_succ] at j0 j1
    clear hh
    obtain ⟨m1, hm1⟩ : ∃ m1, m1 = m / 18446744073709551616 := ⟨_, rfl⟩
    obtain ⟨m0, hm0⟩ : ∃ m0, m0 = m % 18446744073709551616 := ⟨_, rfl⟩
    rw [← hm1] at j0
    rw [← hm0] at j1
    by_cases h39 : t = 39
    · have HM1 := Lib.hid hm1; have HM0 := Lib.hid hm0
      clear hm1 hm0
      have hgo : Hid (t = 39 ∨ m ≠ 0) := .inl h39
      have d39 : ((t : Int) == 39) = true := by rw [h39]; rfl
      have ht39 : 1 ≤ t := by omega
      clear h39
      obtain ⟨k, hk⟩ : ∃ k, t = k + 1 := ⟨t - 1, by omega⟩
      have hh' := HH.out
      rw [hk] at hh'
      have HK := Lib.hid hh'
      have hml : m < 340282366920938463463374607431768211456 := by
        rcases HH.out.mlt with h | h
        · exact h
        · rcases HH.out.told with ⟨_, h2, _⟩ | ⟨h2, _⟩
          · rw [h2]; exact HN.out
          · omega
      have cD := div_any m 10 hml (by omega) (by omega) wr
      have hr10 : m % 10 < 10 := Nat.mod_lt _ (by omega)
      unfold wv at cD
      have e1 : (t : Int) - 1 = (k : Int) := by omega
      have hk39 : k < 39 := by have := HH.out.ht; omega
      have e2 : wrap64 (k : Int) = (k : Int) := by unfold wrap64; omega
      have HM : Hid (k < t) := show _ < _ by omega
      have HK' : Hid (t = k + 1) := hk
      obtain ⟨q1, hq1⟩ : ∃ q1, q1 = m / 10 / 18446744073709551616 := ⟨_, rfl⟩
      obtain ⟨q0, hq0⟩ : ∃ q0, q0 = m / 10 % 18446744073709551616 := ⟨_, rfl⟩
      obtain ⟨r, hr⟩ : ∃ r, r = m % 10 := ⟨_, rfl⟩
      rw [← hq1, ← hq0, ← hr, ← HM1.out, ← HM0.out] at cD
      rw [← hr] at hr10
      have e3 : IntKind.u8.wrap (r : Int) = (r : Int) := by rw [IntKind.wrap_u8]; omega
      have e4 : IntKind.u8.wrap (48 + (r : Int)) = 48 + (r : Int) := by rw [IntKind.wrap_u8]; omega
      have HQ := Lib.hid hq1; have HP := Lib.hid hq0; have HRR := Lib.hid hr
      have CD := Lib.hid cD
      have hkt : (k : Int) < 39 := by omega
      have hk0 : (0 : Int) ≤ (k : Int) := by omega
      clear hq1 hq0 hr cD hml hh' hk
      go_wp2_with fail
      refine CD.out.mono ?_
      rintro e w1 ⟨rfl, B1⟩
      have z1 := block_lt HH.out.box
      have z2 := block_lt HH.out.dig
      have x0 := (B1.cell (p := ⟨w.heap.size, 0, none⟩) z1).trans j0
      have x1 := (B1.cell (p := ⟨w.heap.size, 1, none⟩) z1).trans j1
      have y0 : w1.frozen? ⟨w.heap.size, 0, none⟩ = false := (B1.frozen (p := ⟨w.heap.size, 0, none⟩) z1).trans (block_frozen HH.out.box 0)
      have y1 : w1.frozen? ⟨w.heap.size, 1, none⟩ = false := (B1.frozen (p := ⟨w.heap.size, 1, none⟩) z1).trans (block_frozen HH.out.box 1)
      have y2 : w1.frozen? ⟨w.heap.size + 1, k, none⟩ = false := (B1.frozen (p := ⟨w.heap.size + 1, k, none⟩) z2).trans (block_frozen HH.out.dig k)
      obtain ⟨cv, hcv⟩ : ∃ cv, row[k]? = some cv := ⟨_, List.getElem?_eq_getElem (by have := HH.out.len; omega)⟩
      have x2 : w1.cell? ⟨w.heap.size + 1, k, none⟩ = some cv := (B1.cell (p := ⟨w.heap.size + 1, k, none⟩) z2).trans ((block_cell HH.out.dig k).trans (by simpa using hcv))
      have s1 : w.heap.size < w1.heap.size := Nat.lt_of_lt_of_le z1 B1.size
      have s2 : w.heap.size + 1 < w1.heap.size := Nat.lt_of_lt_of_le z2 B1.size
      have HB1 := Lib.hid B1
      clear hcv B1 z1 z2 j0 j1
      go_wp2_with fail
      go_roundw
      case rel => exact ⟨k, _, _, _, rfl, HK.out.next (by rw [← HK'.out]; exact hgo.out) HB1.out _ _ (by rw [← HRR.out]) q1 q0 HQ.out HP.out rfl⟩
      case measure => simp [intOf]; exact HM.out
    · have h39' : t < 39 := by have := HH.out.ht; omega
      by_cases hz : m = 0
      · subst hz
        obtain rfl : m1 = 0 := by rw [hm1]
        obtain rfl : m0 = 0 := by rw [hm0]
        have HE : Hid (T = tail) := show _ = _ by
          rcases HH.out.told with ⟨h, _⟩ | ⟨_, h⟩
          · omega
          · rw [HT.out, h, ds_zero]; rfl
        have hd : Held wr (· < wr.heap.size) (some ⟨w.heap.size + 1, t, none⟩) (39 - t) tail :=
          ⟨HH.out.tl, fun _ => ⟨_, _, rfl, block_lt HH.out.dig, fun i hi => by rw [block_cell HH.out.dig]; simpa using HH.out.at' i hi⟩⟩
        have d39 : ((t : Int) == 39) = false := by rw [beq_eq_false_iff_ne]; omega
        clear hm1 hm0 h39
        have hs1 := slice_dig (w.heap.size + 1) t h39' wr
        have hs2 := run_string (P := Try.prog) 54 9 5 Try.underlying54 Try.underlying5 Try.underlying9 hd (39 - t)
        have HL := Lib.hid HH.out.low
        clear hd
        generalize 39 - t = z at *
        go_wp2_with fail
        go_ret
        exact ⟨by rw [HE.out]; rfl, HL.out⟩
      · have ht39 : 1 ≤ t := by
          have := HH.out.hm
          rcases Nat.eq_zero_or_pos t with h | h
          · rw [h] at this; simp at this; omega
          · exact h
        have hgo : Hid (t = 39 ∨ m ≠ 0) := .inr hz
        have dz : ((m1 : Int) == 0) = false ∨ (((m1 : Int) == 0) = true ∧ ((m0 : Int) == 0) = false) := by
          by_cases h1 : m1 = 0
          · right
            refine ⟨by rw [h1]; rfl, ?_⟩
            rw [beq_eq_false_iff_ne]
            omega
          · left
            rw [beq_eq_false_iff_ne]
            omega
        have HM1 := Lib.hid hm1; have HM0 := Lib.hid hm0
        have d39 : ((t : Int) == 39) = false := by rw [beq_eq_false_iff_ne]; omega
        clear hm1 hm0 hz h39
        rcases dz with dz | ⟨dz, dz'⟩
        all_goals (
        obtain ⟨k, hk⟩ : ∃ k, t = k + 1 := ⟨t - 1, by omega⟩
        have hh' := HH.out
        rw [hk] at hh'
        have HK := Lib.hid hh'
        have hml : m < 340282366920938463463374607431768211456 := by
          rcases HH.out.mlt with h | h
          · exact h
          · rcases HH.out.told with ⟨_, h2, _⟩ | ⟨h2, _⟩
            · rw [h2]; exact HN.out
            · omega
        have cD := div_any m 10 hml (by omega) (by omega) wr
        have hr10 : m % 10 < 10 := Nat.mod_lt _ (by omega)
        unfold wv at cD
        have e1 : (t : Int) - 1 = (k : Int) := by omega
        have hk39 : k < 39 := by have := HH.out.ht; omega
        have e2 : wrap64 (k : Int) = (k : Int) := by unfold wrap64; omega
        have HM : Hid (k < t) := show _ < _ by omega
        have HK' : Hid (t = k + 1) := hk
        obtain ⟨q1, hq1⟩ : ∃ q1, q1 = m / 10 / 18446744073709551616 := ⟨_, rfl⟩
        obtain ⟨q0, hq0⟩ : ∃ q0, q0 = m / 10 % 18446744073709551616 := ⟨_, rfl⟩
        obtain ⟨r, hr⟩ : ∃ r, r = m % 10 := ⟨_, rfl⟩
        rw [← hq1, ← hq0, ← hr, ← HM1.out, ← HM0.out] at cD
        rw [← hr] at hr10
        have e3 : IntKind.u8.wrap (r : Int) = (r : Int) := by rw [IntKind.wrap_u8]; omega
        have e4 : IntKind.u8.wrap (48 + (r : Int)) = 48 + (r : Int) := by rw [IntKind.wrap_u8]; omega
        have HQ := Lib.hid hq1; have HP := Lib.hid hq0; have HRR := Lib.hid hr
        have CD := Lib.hid cD
        have hkt : (k : Int) < 39 := by omega
        have hk0 : (0 : Int) ≤ (k : Int) := by omega
        clear hq1 hq0 hr cD hml hh' hk
        go_wp2_with fail
        refine CD.out.mono ?_
        rintro e w1 ⟨rfl, B1⟩
        have z1 := block_lt HH.out.box
        have z2 := block_lt HH.out.dig
        have x0 := (B1.cell (p := ⟨w.heap.size, 0, none⟩) z1).trans j0
        have x1 := (B1.cell (p := ⟨w.heap.size, 1, none⟩) z1).trans j1
        have y0 : w1.frozen? ⟨w.heap.size, 0, none⟩ = false := (B1.frozen (p := ⟨w.heap.size, 0, none⟩) z1).trans (block_frozen HH.out.box 0)
        have y1 : w1.frozen? ⟨w.heap.size, 1, none⟩ = false := (B1.frozen (p := ⟨w.heap.size, 1, none⟩) z1).trans (block_frozen HH.out.box 1)
        have y2 : w1.frozen? ⟨w.heap.size + 1, k, none⟩ = false := (B1.frozen (p := ⟨w.heap.size + 1, k, none⟩) z2).trans (block_frozen HH.out.dig k)
        obtain ⟨cv, hcv⟩ : ∃ cv, row[k]? = some cv := ⟨_, List.getElem?_eq_getElem (by have := HH.out.len; omega)⟩
        have x2 : w1.cell? ⟨w.heap.size + 1, k, none⟩ = some cv := (B1.cell (p := ⟨w.heap.size + 1, k, none⟩) z2).trans ((block_cell HH.out.dig k).trans (by simpa using hcv))
        have s1 : w.heap.size < w1.heap.size := Nat.lt_of_lt_of_le z1 B1.size
        have s2 : w.heap.size + 1 < w1.heap.size := Nat.lt_of_lt_of_le z2 B1.size
        have HB1 := Lib.hid B1
        clear hcv B1 z1 z2 j0 j1
        go_wp2_with fail
        go_roundw
        case rel => exact ⟨k, _, _, _, rfl, HK.out.next (by rw [← HK'.out]; exact hgo.out) HB1.out _ _ (by rw [← HRR.out]) q1 q0 HQ.out HP.out rfl⟩
        case measure => simp [intOf]; exact HM.out)

theorem text_any (n : Nat) (hn : n < 340282366920938463463374607431768211456) (w : World) :
    Calls Try.prog 25 #[wv n] w fun e w' => e = .returned (.string ⟨(dec n).toArray⟩) ∧ Below w.heap.size w w' := text_at n _ _ hn w rfl rfl

end Go.Proofs.Ytpkfklhhljaekaa
