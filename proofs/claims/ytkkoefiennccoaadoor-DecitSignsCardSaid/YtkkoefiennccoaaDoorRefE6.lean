/-
  What the document's bit and Div (by ten) do; no condition beyond what each contract asks.
-/
import Derived.Test.YtkkoefiennccoaaDoorStruct6
import Derived.Test.YtkkoefiennccoaaDoorRefU6

namespace Go.Proofs.YtkkoefiennccoaaDoor
open Go.RowKit
theorem bit_low {a k : Nat} (hk : k < 64) : a % 18446744073709551616 / 2 ^ k % 2 = a / 2 ^ k % 2 := by
  have h : (a % 2 ^ 64).testBit k = a.testBit k := by rw [Nat.testBit_mod_two_pow]; simp [hk]
  have h2 := congrArg Bool.toNat h
  rw [Nat.toNat_testBit, Nat.toNat_testBit] at h2
  exact h2
theorem bit_high {a j : Nat} : a / 18446744073709551616 / 2 ^ j % 2 = a / 2 ^ (64 + j) % 2 := by
  rw [Nat.pow_add, ← Nat.div_div_eq_div_mul]
theorem and_one (x : Nat) (hx : x < 18446744073709551616) : bits .and .u64 (x : Int) 1 = ((x % 2 : Nat) : Int) := by
  have h := bits_and_u64_nat x 1 hx (by omega)
  have e : x &&& 1 = x % 2 := Nat.and_two_pow_sub_one_eq_mod x 1
  rw [e] at h
  exact h
set_option maxHeartbeats 1000000 in
theorem bit_at (a1 a0 k s t d : Nat) (w : World) (hc : Hid ((k < 64 ∧ (a0 : Int) / 2 ^ k = (s : Int)) ∨ (64 ≤ k ∧ k < 128 ∧ t = k - 64 ∧ (a1 : Int) / 2 ^ t = (s : Int)))) (hd : bits .and .u64 (s : Int) 1 = (d : Int)) :
    Calls Tryd.prog 89 #[.agg #[.int .u64 (a1 : Int), .int .u64 (a0 : Int)], .int .i64 (k : Int)] w fun e w' => e = .returned (.int .u64 (d : Int)) ∧ Below w.heap.size w w' := by
  rcases hc.out with ⟨h, e⟩ | ⟨h, h2, ht, e⟩
  · have d1 : decide ((k : Int) < 64) = true := by simp; omega
    have e1 : IntKind.u64.wrap (k : Int) = (k : Int) := wrapN _ (by omega)
    have e2 : min k 64 = k := Nat.min_eq_left (by omega)
    clear hc h
    go_enter Tryd.func89, Tryd.ntmps89
    go_wp2_with fail
    go_ret
    exact ⟨rfl, (Below.refl _ _).alloc (Nat.le_refl _) _⟩
  · have d1 : decide ((k : Int) < 64) = false := by simp; omega
    have e1 : IntKind.u64.wrap (t : Int) = (t : Int) := wrapN _ (by omega)
    have e2 : min t 64 = t := Nat.min_eq_left (by omega)
    have e3 : wrap64 ((k : Int) - 64) = (t : Int) := by unfold wrap64; omega
    have e4 : (k : Int) - 64 = (t : Int) := by omega
    have e5 : wrap64 (t : Int) = (t : Int) := by unfold wrap64; omega
    have hk : 64 ≤ k := h
    clear hc h h2 ht
    go_enter Tryd.func89, Tryd.ntmps89
    go_wp2_with fail
    go_ret
    exact ⟨rfl, (Below.refl _ _).alloc (Nat.le_refl _) _⟩
theorem bit_any (a k : Nat) (ha : a < 340282366920938463463374607431768211456) (hk : k < 128) (w : World) :
    Calls Tryd.prog 89 #[wv a, .int .i64 (k : Int)] w fun e w' => e = .returned (.int .u64 ((a / 2 ^ k % 2 : Nat) : Int)) ∧ Below w.heap.size w w' := by
  have h0 : a % 18446744073709551616 < 18446744073709551616 := Nat.mod_lt _ (by omega)
  have h1 : a / 18446744073709551616 < 18446744073709551616 := by omega
  by_cases h : k < 64
  · have c := bit_at (a / 18446744073709551616) (a % 18446744073709551616) k (a % 18446744073709551616 / 2 ^ k) 0 _ w (.inl ⟨h, by rw [shr_val]⟩) (and_one _ (Nat.lt_of_le_of_lt (Nat.div_le_self _ _) h0))
    rw [bit_low h] at c
    exact c
  · have c := bit_at (a / 18446744073709551616) (a % 18446744073709551616) k (a / 18446744073709551616 / 2 ^ (k - 64)) (k - 64) _ w (.inr ⟨by omega, hk, rfl, by rw [shr_val]⟩) (and_one _ (Nat.lt_of_le_of_lt (Nat.div_le_self _ _) h1))
    rw [bit_high, show 64 + (k - 64) = k by omega] at c
    exact c
/-- What holds at the head of the loop: the t lowest digits of 2 are still to come. -/
structure DivAt (w : World) (a t : Nat) (wr : World) : Prop where
  ht : t ≤ 128
  box : wr.heap[w.heap.size]? = some (.cells #[.int .u64 ((a / 18446744073709551616 : Nat) : Int), .int .u64 ((a % 18446744073709551616 : Nat) : Int)] 29 (0, 0))
  res : wr.heap[w.heap.size + 1]? = some (.cells #[.int .u64 0, .int .u64 0] 29 (0, 0))
  quo : wr.heap[w.heap.size + 1 + 1]? = some (.cells #[.int .u64 ((a / 2 ^ t / 10 / 18446744073709551616 : Nat) : Int), .int .u64 ((a / 2 ^ t / 10 % 18446744073709551616 : Nat) : Int)] 29 (0, 0))
  low : Below w.heap.size w wr
def DivIsAt (w : World) (a : Nat) (v8 v9 : Value) (wr : World) : Prop := ∃ t : Nat, v8 = .int .u64 ((a / 2 ^ t % 10 : Nat) : Int) ∧ v9 = .int .i64 ((t : Int) - 1) ∧ DivAt w a t wr
theorem half_step (a k : Nat) : a / 2 ^ k = a / 2 ^ (k + 1) * 2 + a / 2 ^ k % 2 := by
  rw [← down_next a k]
  omega
theorem ten_step {A A' b : Nat} (h : A' = A * 2 + b) (hb : b < 2) (hA : A' < 340282366920938463463374607431768211456) :
    (A % 10 * 2 + b < 10 → A' % 10 = A % 10 * 2 + b ∧ A' / 10 = A / 10 * 2) ∧ (¬ A % 10 * 2 + b < 10 → A' % 10 = A % 10 * 2 + b - 10 ∧ A' / 10 = A / 10 * 2 + 1) ∧ A / 10 * 2 < 340282366920938463463374607431768211456 := by
  refine ⟨fun h1 => by omega, fun h1 => by omega, by omega⟩
/-- Twice a number that has room. -/
theorem twice_room {q h l : Nat} (hq : q * 2 < 340282366920938463463374607431768211456) (hh : h = q / 18446744073709551616) (hl : l = q % 18446744073709551616) :
    h * 2 + l / 9223372036854775808 = q * 2 / 18446744073709551616 ∧ l * 2 % 18446744073709551616 = q * 2 % 18446744073709551616 ∧ h * 2 + l / 9223372036854775808 < 18446744073709551616 ∧
      (l * 2 % 18446744073709551616 + 1) = (q * 2 + 1) % 18446744073709551616 ∧ q * 2 / 18446744073709551616 = (q * 2 + 1) / 18446744073709551616 := by omega
theorem DivAt.next {w : World} {a k : Nat} {wr w1 w2 : World} {h l : Nat} (H : DivAt w a (k + 1) wr) (hb : Below wr.heap.size wr w1) (hq : w2.heap[w.heap.size + 1 + 1]? = some (.cells #[.int .u64 (h : Int), .int .u64 (l : Int)] 29 (0, 0)))
    (ho : ∀ g, g ≠ w.heap.size + 1 + 1 → w2.heap[g]? = w1.heap[g]?) (hl : Below w.heap.size w w2) (h1 : h = a / 2 ^ k / 10 / 18446744073709551616) (h0 : l = a / 2 ^ k / 10 % 18446744073709551616) : DivAt w a k w2 := by
  subst h1 h0
  refine ⟨by have := H.ht; omega, ?_, ?_, hq, hl⟩
  · rw [ho _ (by omega)]; exact (hb.block _ (block_lt H.box)).trans H.box
  · rw [ho _ (by omega)]; exact (hb.block _ (block_lt H.res)).trans H.res
set_option maxHeartbeats 4000000 in
theorem refDiv_at (a a1 a0 : Nat) (w : World) (H1 : Hid (a1 = a / 18446744073709551616)) (H0 : Hid (a0 = a % 18446744073709551616)) (ha : Hid (a < 340282366920938463463374607431768211456)) :
    Calls Tryd.prog 80 #[.agg #[.int .u64 (a1 : Int), .int .u64 (a0 : Int)], .int .u64 10] w fun e w' => e = .returned (.tuple #[wv (a / 10), .int .u64 ((a % 10 : Nat) : Int), .bool true]) ∧ Below w.heap.size w w' := by
  obtain ⟨R, hR⟩ : ∃ R, R = wv (a / 10) := ⟨_, rfl⟩
  obtain ⟨o, ho⟩ : ∃ o, o = a % 10 := ⟨_, rfl⟩
  rw [← hR, ← ho]
  have HR := Lib.hid hR
  have HO := Lib.hid ho
  clear hR ho
  go_enter Tryd.func80, Tryd.ntmps80
  go_wp2_with fail
  go_loopw [8, 9] (fun v8 v9 wr => DivIsAt w a v8 v9 wr) (fun _ v9 _ => (intOf v9 + 1).toNat)
  case atStart =>
    have hz : a / 2 ^ 128 = 0 := Nat.div_eq_of_lt (by have := ha.out; exact this)
    refine ⟨128, by rw [hz]; rfl, rfl, by omega, ?_, ?_, ?_, (((Below.refl _ _).alloc (Nat.le_refl _) _).alloc (by simp) _).alloc (by simp; omega) _⟩
    · rw [H1.out, H0.out, Below.heap_alloc _ _ _ (by simp; omega), Below.heap_alloc _ _ _ (by simp)]
      exact heap_alloc_new _ _
    · rw [Below.heap_alloc _ _ _ (by simp)]
      have h := heap_alloc_new (w.alloc (Obj.cells #[.int .u64 (a1 : Int), .int .u64 (a0 : Int)] 29)) (Obj.cells #[.int .u64 0, .int .u64 0] 29)
      simpa using h
    · rw [hz]
      have h := heap_alloc_new ((w.alloc (Obj.cells #[.int .u64 (a1 : Int), .int .u64 (a0 : Int)] 29)).alloc (Obj.cells #[.int .u64 0, .int .u64 0] 29)) (Obj.cells #[.int .u64 0, .int .u64 0] 29)
      simpa using h
  case round =>
    obtain ⟨t, rfl, rfl, hD⟩ := hrel
    have j0 := block_cell hD.box 0
    have j1 := block_cell hD.box 1
    have i0 := block_cell hD.res 0
    have i1 := block_cell hD.res 1
    have f0 := block_frozen hD.res 0
    have f1 := block_frozen hD.res 1
    have q0 := block_cell hD.quo 0
    have q1 := block_cell hD.quo 1
    have g0 := block_frozen hD.quo 0
    have g1 := block_frozen hD.quo 1
    simp only [List.getElem?_toArray, List.getElem?_cons_zero, List.getElem?_cons_succ] at j0 j1 i0 i1 q0 q1
    rw [← H1.out] at j0
    rw [← H0.out] at j1
    have HD := Lib.hid hD
    have ht := hD.ht
    clear hD
    rcases Nat.eq_zero_or_pos t with h0 | h0
    · subst h0
      have e9 : (((0 : Nat) : Int) - 1) = -1 := by omega
      rw [e9]
      have HE : Hid (R = .agg #[.int .u64 ((a / 2 ^ 0 / 10 / 18446744073709551616 : Nat) : Int), .int .u64 ((a / 2 ^ 0 / 10 % 18446744073709551616 : Nat) : Int)]) := show _ = _ by rw [HR.out, Nat.pow_zero, Nat.div_one]; rfl
      have HV : Hid (a / 2 ^ 0 % 10 = o) := show _ = _ by rw [HO.out, Nat.pow_zero, Nat.div_one]
      generalize a / 2 ^ 0 / 10 / 18446744073709551616 = h at HE q0
      generalize a / 2 ^ 0 / 10 % 18446744073709551616 = l at HE q1
      rw [HV.out]
      have HG := Lib.hid HD.out.res
      have HL := Lib.hid HD.out.low
      clear HD e9 ht
      go_wp2_with fail
      refine bodyPost_ret (results_row3 rfl _ _ (w.heap.size + 1) _ rfl (load_wide (two_set HG.out))) rfl ?_
      exact ⟨tuple_three HE.out.symm rfl rfl, below_two HL.out (by omega) _ _⟩
    · obtain ⟨k, rfl⟩ : ∃ k, t = k + 1 := ⟨t - 1, by omega⟩
      have e9 : (((k + 1 : Nat) : Int) - 1) = (k : Int) := by omega
      rw [e9]
      have hk : k < 128 := by omega
      have CB := Lib.hid (bit_any a k ha.out hk)
      unfold wv at CB
      rw [← H1.out, ← H0.out] at CB
      have hb2 : a / 2 ^ k % 2 < 2 := Nat.mod_lt _ (by omega)
      obtain ⟨s1, s2, s3⟩ := ten_step (half_step a k) hb2 (Nat.lt_of_le_of_lt (Nat.div_le_self _ _) ha.out)
      obtain ⟨A, hA⟩ : ∃ A, A = a / 2 ^ (k + 1) := ⟨_, rfl⟩
      obtain ⟨A', hA'⟩ : ∃ A', A' = a / 2 ^ k := ⟨_, rfl⟩
      rw [← hA'] at CB hb2
      rw [← hA, ← hA'] at s1 s2
      rw [← hA] at s3 q0 q1 ⊢
      obtain ⟨b, hb⟩ : ∃ b, b = A' % 2 := ⟨_, rfl⟩
      rw [← hb] at CB hb2 s1 s2
      obtain ⟨q, hq⟩ : ∃ q, q = A / 10 := ⟨_, rfl⟩
      rw [← hq] at s1 s2 s3 q0 q1
      obtain ⟨r, hr⟩ : ∃ r, r = A % 10 := ⟨_, rfl⟩
      rw [← hr] at s1 s2 ⊢
      have hr10 : r < 10 := by rw [hr]; exact Nat.mod_lt _ (by omega)
      obtain ⟨h, hh⟩ : ∃ h, h = q / 18446744073709551616 := ⟨_, rfl⟩
      obtain ⟨l, hl⟩ : ∃ l, l = q % 18446744073709551616 := ⟨_, rfl⟩
      obtain ⟨p1, p2, p3, p4, p5⟩ := twice_room s3 hh hl
      rw [← hh] at q0
      rw [← hl] at q1
      have hl64 : l < 18446744073709551616 := by rw [hl]; exact Nat.mod_lt _ (by omega)
      obtain ⟨tt, htt⟩ : ∃ tt, tt = l / 9223372036854775808 := ⟨_, rfl⟩
      rw [← htt] at p1 p3
      obtain ⟨h2, hh2⟩ : ∃ h2, h2 = h * 2 := ⟨_, rfl⟩
      rw [← hh2] at p1 p3
      obtain ⟨h3, hh3⟩ : ∃ h3, h3 = h2 + tt := ⟨_, rfl⟩
      rw [← hh3] at p1 p3
      obtain ⟨l2, hl2⟩ : ∃ l2, l2 = l * 2 % 18446744073709551616 := ⟨_, rfl⟩
      rw [← hl2] at p2 p4
      obtain ⟨r2, hr2⟩ : ∃ r2, r2 = r * 2 := ⟨_, rfl⟩
      obtain ⟨r3, hr3⟩ : ∃ r3, r3 = r2 + b := ⟨_, rfl⟩
      rw [← hr2, ← hr3] at s1 s2
      have x0 : (r : Int) / 9223372036854775808 = 0 := by omega
      have x1 : IntKind.u64.wrap ((r : Int) * 2) = (r2 : Int) := by rw [IntKind.wrap_u64]; omega
      have x2 : IntKind.u64.wrap ((r2 : Int) + (b : Int)) = (r3 : Int) := by rw [IntKind.wrap_u64]; omega
      have x3 : IntKind.u64.wrap ((h : Int) * 2) = (h2 : Int) := by rw [IntKind.wrap_u64]; omega
      have x4 : (l : Int) / 9223372036854775808 = (tt : Int) := by omega
      have x5 : IntKind.u64.wrap ((h2 : Int) + (tt : Int)) = (h3 : Int) := by rw [IntKind.wrap_u64]; omega
      have x6 : IntKind.u64.wrap ((l : Int) * 2) = (l2 : Int) := by rw [IntKind.wrap_u64]; omega
      have HA := Lib.hid hA'
      have P1 := Lib.hid p1; have P2 := Lib.hid p2; have P4 := Lib.hid p4; have P5 := Lib.hid p5
      have HR3 := Lib.hid hr3; have HR2 := Lib.hid hr2; have HR10 := Lib.hid hr10; have HB2 := Lib.hid hb2
      have S1 := Lib.hid s1; have S2 := Lib.hid s2
      have X6 : Hid (l2 + 1 < 18446744073709551616) := show _ < _ by rw [p4]; exact Nat.mod_lt _ (by omega)
      clear hA hA' hb hq hr hh hl p1 p2 p3 p4 p5 hl64 htt hh2 hh3 hl2 hr2 hr3 s1 s2 s3 hr10 hb2 e9 h0
      go_wp2_with fail
      refine (CB.out _).mono ?_
      rintro e w1 ⟨rfl, B1⟩
      have zb := block_lt HD.out.box
      have zr := block_lt HD.out.res
      have zq := block_lt HD.out.quo
      have Q := Lib.hid ((B1.block _ zq).trans HD.out.quo)
      have q0' := keep_p q0 B1; have q1' := keep_p q1 B1
      have g0' := block_frozen Q.out 0
      have g1' := block_frozen Q.out 1
      have BL : Hid (Below w.heap.size w w1) := low_p HD.out.low B1
      have BB1 := Lib.hid B1
      clear B1 zb zr zq j0 j1 i0 i1 f0 f1 g0 g1 q0 q1
      by_cases h10 : r3 < 10
      · obtain ⟨e1, e2⟩ := S1.out h10
        have d1 : decide ((10 : Int) ≤ (r3 : Int)) = false := by simp; omega
        have E1 := Lib.hid e1; have E2 := Lib.hid e2
        clear e1 e2 h10
        go_wp2_with fail
        go_roundw
        case rel =>
          refine ⟨k, ret_val (by rw [← HA.out, E1.out]), rfl, HD.out.next BB1.out (two_set Q.out) (fun g hg => ?_) (below_two BL.out (by omega) _ _) (by rw [← HA.out, E2.out]; exact P1.out) (by rw [← HA.out, E2.out]; exact P2.out)⟩
          rw [Below.heap_setCell _ _ _ _ (by simpa using hg), Below.heap_setCell _ _ _ _ (by simpa using hg)]
        case measure => simp [intOf]
      · obtain ⟨e1, e2⟩ := S2.out h10
        have d1 : decide ((10 : Int) ≤ (r3 : Int)) = true := by simp; omega
        obtain ⟨r4, hr4⟩ : ∃ r4, r4 = r3 - 10 := ⟨_, rfl⟩
        obtain ⟨l3, hl3⟩ : ∃ l3, l3 = l2 + 1 := ⟨_, rfl⟩
        rw [← hr4] at e1
        have hr20 : r3 < 20 := by have := HR3.out; have := HR2.out; have := HR10.out; have := HB2.out; omega
        have x7 : IntKind.u64.wrap ((r3 : Int) - 10) = (r4 : Int) := by clear x0 x1 x2 x3 x4 x5 x6; rw [IntKind.wrap_u64]; omega
        have x8 : IntKind.u64.wrap ((l2 : Int) + 1) = (l3 : Int) := by clear x0 x1 x2 x3 x4 x5 x6 x7; have := X6.out; rw [IntKind.wrap_u64]; omega
        have E1 := Lib.hid e1; have E2 := Lib.hid e2; have L3 := Lib.hid hl3
        clear e1 e2 h10 hr4 hl3 hr20
        go_wp2_with fail
        go_roundw
        case rel =>
          refine ⟨k, ret_val (by rw [← HA.out, E1.out]), rfl, HD.out.next BB1.out (block_set (two_set Q.out) 1 (.int .u64 (l3 : Int))) (fun g hg => ?_) ((below_two BL.out (by omega) _ _).setCell (p := ⟨w.heap.size + 1 + 1, 1, none⟩) (by show w.heap.size ≤ w.heap.size + 1 + 1; omega) _)
            (by rw [← HA.out, E2.out, ← P5.out]; exact P1.out) (by rw [← HA.out, E2.out, L3.out]; exact P4.out)⟩
          rw [Below.heap_setCell _ _ _ _ (by simpa using hg), Below.heap_setCell _ _ _ _ (by simpa using hg), Below.heap_setCell _ _ _ _ (by simpa using hg)]
        case measure => simp [intOf]
theorem refDiv_any (a : Nat) (ha : a < 340282366920938463463374607431768211456) (w : World) :
    Calls Tryd.prog 80 #[wv a, .int .u64 10] w fun e w' => e = .returned (.tuple #[wv (a / 10), .int .u64 ((a % 10 : Nat) : Int), .bool true]) ∧ Below w.heap.size w w' := refDiv_at a _ _ w rfl rfl ha
end Go.Proofs.YtkkoefiennccoaaDoor
