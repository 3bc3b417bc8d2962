/-
  The walk of the law BigShifts: for all rows that came in. No condition.
-/
import Derived.Test.YtcejbkmmiklhbaaPow9b
namespace Go.Proofs.Ytcejbkmmiklhbaa
open Go.RowKit


/-- Power answers alike in both. -/
theorem power_all (b e : Int) (he : e ≤ 9223372036854775807) : ∃ (ok : Bool) (xs : List Nat), xs.length ≤ 256 ∧
    (∀ w, Calls Try.prog 23 #[.int .i64 b, .int .i64 e] w fun x w' => ∃ R k, x = .returned (.tuple #[.slice R xs.length k, .bool ok]) ∧ Digs w' R xs.length xs ∧ Below w.heap.size w w') ∧
    (∀ w, Calls Try.prog 24 #[.int .i64 b, .int .i64 e] w fun x w' => ∃ R k, x = .returned (.tuple #[.slice R xs.length k, .bool ok]) ∧ Digs w' R xs.length xs ∧ Below w.heap.size w w') := by
  by_cases h : b < 0 ∨ 65535 < b ∨ e < 0
  · refine ⟨false, [], by decide, fun w => (power_no b e w h).mono ?_, fun w => (refPower_no b e w h).mono ?_⟩
    · rintro x w' ⟨rfl, rfl⟩
      exact ⟨none, 0, rfl, Digs.none _ _, Below.refl _ _⟩
    · rintro x w' ⟨rfl, rfl⟩
      exact ⟨none, 0, rfl, Digs.none _ _, Below.refl _ _⟩
  · obtain ⟨b', rfl⟩ : ∃ b' : Nat, b = (b' : Int) := ⟨b.toNat, by omega⟩
    obtain ⟨e', rfl⟩ : ∃ e' : Nat, e = (e' : Int) := ⟨e.toNat, by omega⟩
    have hb : b' ≤ 65535 := by omega
    have he' : e' ≤ 9223372036854775807 := by omega
    clear h he
    by_cases ht : b' ^ e' < top
    · refine ⟨true, dg (b' ^ e'), top_len ht, fun w => (power_any b' e' w hb he').mono ?_, fun w => (refPower_any b' e' w hb he').mono ?_⟩
      · rintro x w' ⟨B, ⟨_, R, k, rfl, D⟩ | ⟨h, _⟩⟩
        · exact ⟨R, k, rfl, D, B⟩
        · exact absurd ht (Nat.not_lt.2 h)
      · rintro x w' ⟨B, ⟨_, R, k, rfl, D⟩ | ⟨h, _⟩⟩
        · exact ⟨R, k, rfl, D, B⟩
        · exact absurd ht (Nat.not_lt.2 h)
    · refine ⟨false, [], by decide, fun w => (power_any b' e' w hb he').mono ?_, fun w => (refPower_any b' e' w hb he').mono ?_⟩
      · rintro x w' ⟨B, ⟨h, _⟩ | ⟨_, rfl⟩⟩
        · exact absurd h ht
        · exact ⟨none, 0, rfl, Digs.none _ _, B⟩
      · rintro x w' ⟨B, ⟨h, _⟩ | ⟨_, rfl⟩⟩
        · exact absurd h ht
        · exact ⟨none, 0, rfl, Digs.none _ _, B⟩
/-- Bits answers alike in both. -/
theorem bits_all (a n : Nat) (hl : (dg a).length = n) (ha : a < top) : ∃ r : Nat,
    (∀ w A c, Digs w A n (dg a) → Calls Try.prog 26 #[.slice A n c] w fun e w' => e = .returned (.int .i64 (r : Int)) ∧ w' = w) ∧
    (∀ w A c, Digs w A n (dg a) → Calls Try.prog 28 #[.slice A n c] w fun e w' => e = .returned (.int .i64 (r : Int)) ∧ w' = w) := by
  have hn : n ≤ 256 := by have := top_len ha; omega
  rcases Nat.eq_zero_or_pos n with h0 | h0
  · subst h0
    exact ⟨0, fun w A c h => bits_zero A c a w h ha, fun w A c h => refBits_zero A c w⟩
  · exact ⟨bv (dg a) n, fun w A c h => bits_yes A n c a w h ha h0, fun w A c h => refBits_yes A n c (dg a) w h h0 (by omega)⟩
theorem pow_in {N K : Nat} (h : N < 16 * K) : 2 ^ N < 65536 ^ K := by
  have h1 : 2 ^ N < 2 ^ (16 * K) := Nat.pow_lt_pow_right (by decide) h
  rw [Nat.pow_mul] at h1
  exact h1
theorem up_len {a N : Nat} (ha : a < top) (hN : N ≤ 4096) : (dg (a * 2 ^ N)).length ≤ 513 := by
  have key : ∀ K, K = 257 → (dg (a * 2 ^ N)).length ≤ 256 + K := fun K hK => (dg_len _ (256 + K)).2 (lim_mul (k := 256) (l := K) ha (pow_in (by omega)))
  exact key 257 rfl

set_option maxHeartbeats 8000000 in
theorem shifts9_ys (A : Option Addr) (n c : Nat) (a : Nat) (N E : Int) (w : World) (h1 : Digs w A n (dg a)) (ta : a < top) (hE : E ≤ 9223372036854775807) (h0 : 0 ≤ N) (h4 : N ≤ 4096) (hs : n ≤ 4) :
    Calls Try.prog 6 #[.slice A n c, .int .i64 N, .int .i64 E] w fun e w' => e = .returned (.bool true) ∧ Below w.heap.size w w' := by
  have hn : n ≤ 256 := by have := top_len ta; have := h1.1; omega
  have dn : decide ((300 : Int) < (n : Int)) = false := by simp; omega
  have dnn : decide (300 < n) = false := by simp; omega
  obtain ⟨ok, ps, hps, cP, cR⟩ := power_all N E hE
  obtain ⟨r, cB, cC⟩ := bits_all a n h1.1 ta
  have HPS := Lib.hid hps; have CP := Lib.hid cP; have CR := Lib.hid cR; have CB := Lib.hid cB; have CC := Lib.hid cC
  have Hta := Lib.hid ta
  have H_a := Lib.hid h1
  clear h1 ta hps cP cR cB cC hE
  obtain ⟨M, rfl⟩ : ∃ M : Nat, N = (M : Int) := ⟨N.toNat, by omega⟩
  have e0 : decide ((M : Int) < 0) = false := by simp
  have e1 : decide ((4096 : Int) < (M : Int)) = false := by simp; omega
  have e1n : decide (4096 < M) = false := by simp; omega
  have HM : Hid (M ≤ 4096) := show _ ≤ _ by omega
  have HUL := Lib.hid (up_len Hta.out HM.out)
  clear h0 h4
  have d4 : decide ((n : Int) ≤ 4) = true := by simp; omega
  have d4n : decide (n ≤ 4) = true := by simp; omega
  have H4 := Lib.hid hs
  have Ha64 : Hid (a < 18446744073709551616) := Nat.lt_of_lt_of_le ((dg_len a 4).1 (by rw [H_a.out.1]; exact hs)) (by decide)
  clear hs
  go_enter Try.func6, Try.ntmps6
  have c1 := Lib.hid (awake_any w)
  go_wp2_with fail
  refine c1.out.mono ?_
  rintro e w1 ⟨rfl, BB⟩
  have H_a1 := Lib.hid (H_a.out.below BB)
  have HB1 := Lib.hid BB
  clear H_a
  clear c1 BB
  have c2 := Lib.hid (up_yes A n c a M w1 H_a1.out Hta.out HM.out)
  go_wp2_with fail
  refine c2.out.mono ?_
  rintro e w2 ⟨R2, k2, rfl, D, BB⟩
  have H_a2 := Lib.hid (H_a1.out.below BB)
  have HB2 := Lib.hid (HB1.out.trans (BB.mono HB1.out.size))
  clear H_a1 HB1
  obtain ⟨l2, hl⟩ : ∃ l, l = (dg (a * 2 ^ M)).length := ⟨_, rfl⟩
  rw [← hl] at D ⊢
  have L_u := Lib.hid hl
  have H_u2 := Lib.hid D
  clear c2 BB D hl
  have c3 := Lib.hid (CP.out w2)
  go_wp2_with fail
  refine c3.out.mono ?_
  rintro e w3 ⟨R3, k3, rfl, D, BB⟩
  have H_a3 := Lib.hid (H_a2.out.below BB)
  have H_u3 := Lib.hid (H_u2.out.below BB)
  have HB3 := Lib.hid (HB2.out.trans (BB.mono HB2.out.size))
  clear H_a2 H_u2 HB2
  obtain ⟨l3, hl⟩ : ∃ l, l = (ps).length := ⟨_, rfl⟩
  rw [← hl] at D ⊢
  have L_p := Lib.hid hl
  have H_p3 := Lib.hid D
  clear c3 BB D hl
  have c4 := Lib.hid (CR.out w3)
  go_wp2_with fail
  refine c4.out.mono ?_
  rintro e w4 ⟨R4, k4, rfl, D, BB⟩
  have H_a4 := Lib.hid (H_a3.out.below BB)
  have H_u4 := Lib.hid (H_u3.out.below BB)
  have H_p4 := Lib.hid (H_p3.out.below BB)
  have HB4 := Lib.hid (HB3.out.trans (BB.mono HB3.out.size))
  clear H_a3 H_u3 H_p3 HB3
  obtain ⟨l4, hl⟩ : ∃ l, l = (ps).length := ⟨_, rfl⟩
  rw [← hl] at D ⊢
  have L_q := Lib.hid hl
  have H_q4 := Lib.hid D
  clear c4 BB D hl
  have c5 := Lib.hid (small_yes A n c a w4 H_a4.out Hta.out H4.out)
  go_wp2_with fail
  refine c5.out.mono ?_
  rintro e v5 ⟨rfl, hw⟩; subst v5
  clear c5
  have c6 := Lib.hid (same_any R3 l3 k3 (ps) R4 l4 k4 (ps) w4 H_p4.out H_q4.out (by have := L_p.out; have := HPS.out; omega) (by have := L_q.out; have := HPS.out; omega))
  rw [decide_eq_true rfl] at c6
  go_wp2_with fail
  refine c6.out.mono ?_
  rintro e w6 ⟨rfl, BB⟩
  have H_a6 := Lib.hid (H_a4.out.below BB)
  have H_u6 := Lib.hid (H_u4.out.below BB)
  have H_p6 := Lib.hid (H_p4.out.below BB)
  have H_q6 := Lib.hid (H_q4.out.below BB)
  have HB6 := Lib.hid (HB4.out.trans (BB.mono HB4.out.size))
  clear H_a4 H_u4 H_p4 H_q4 HB4
  clear c6 BB
  have c7 := Lib.hid (refIs_yes A n c a w6 H_a6.out Hta.out)
  go_wp2_with fail
  refine c7.out.mono ?_
  rintro e v7 ⟨rfl, hw⟩; subst v7
  clear c7
  have c8 := Lib.hid (refUp_any A n c a M w6 H_a6.out (by omega) HM.out)
  go_wp2_with fail
  refine c8.out.mono ?_
  rintro e w8 ⟨R8, k8, rfl, D, BB⟩
  have H_a8 := Lib.hid (H_a6.out.below BB)
  have H_u8 := Lib.hid (H_u6.out.below BB)
  have H_p8 := Lib.hid (H_p6.out.below BB)
  have H_q8 := Lib.hid (H_q6.out.below BB)
  have HB8 := Lib.hid (HB6.out.trans (BB.mono HB6.out.size))
  clear H_a6 H_u6 H_p6 H_q6 HB6
  obtain ⟨l8, hl⟩ : ∃ l, l = (dg (a * 2 ^ M)).length := ⟨_, rfl⟩
  rw [← hl] at D ⊢
  have L_t := Lib.hid hl
  have H_t8 := Lib.hid D
  clear c8 BB D hl
  have c9 := Lib.hid (same_any R2 l2 k2 (dg (a * 2 ^ M)) R8 l8 k8 (dg (a * 2 ^ M)) w8 H_u8.out H_t8.out (by have := L_u.out; have := HUL.out; omega) (by have := L_t.out; have := HUL.out; omega))
  rw [decide_eq_true rfl] at c9
  go_wp2_with fail
  refine c9.out.mono ?_
  rintro e w9 ⟨rfl, BB⟩
  have H_a9 := Lib.hid (H_a8.out.below BB)
  have H_u9 := Lib.hid (H_u8.out.below BB)
  have H_p9 := Lib.hid (H_p8.out.below BB)
  have H_q9 := Lib.hid (H_q8.out.below BB)
  have H_t9 := Lib.hid (H_t8.out.below BB)
  have HB9 := Lib.hid (HB8.out.trans (BB.mono HB8.out.size))
  clear H_a8 H_u8 H_p8 H_q8 H_t8 HB8
  clear c9 BB
  have c10 := Lib.hid (CB.out w9 A c H_a9.out)
  go_wp2_with fail
  refine c10.out.mono ?_
  rintro e v10 ⟨rfl, hw⟩; subst v10
  clear c10
  have c11 := Lib.hid (CC.out w9 A c H_a9.out)
  go_wp2_with fail
  refine c11.out.mono ?_
  rintro e v11 ⟨rfl, hw⟩; subst v11
  clear c11
  have c12 := Lib.hid (refOf_any a Ha64.out w9)
  go_wp2_with fail
  refine c12.out.mono ?_
  rintro e w12 ⟨R12, k12, rfl, D, BB⟩
  have H_a12 := Lib.hid (H_a9.out.below BB)
  have H_u12 := Lib.hid (H_u9.out.below BB)
  have H_p12 := Lib.hid (H_p9.out.below BB)
  have H_q12 := Lib.hid (H_q9.out.below BB)
  have H_t12 := Lib.hid (H_t9.out.below BB)
  have HB12 := Lib.hid (HB9.out.trans (BB.mono HB9.out.size))
  clear H_a9 H_u9 H_p9 H_q9 H_t9 HB9
  obtain ⟨l12, hl⟩ : ∃ l, l = (dg a).length := ⟨_, rfl⟩
  rw [← hl] at D ⊢
  have L_o := Lib.hid hl
  have H_o12 := Lib.hid D
  clear c12 BB D hl
  have c13 := Lib.hid (same_any R12 l12 k12 (dg a) A n c (dg a) w12 H_o12.out H_a12.out (by have := L_o.out; have := top_len Hta.out; omega) (by omega))
  rw [decide_eq_true rfl] at c13
  go_wp2_with fail
  refine c13.out.mono ?_
  rintro e w13 ⟨rfl, BB⟩
  have H_a13 := Lib.hid (H_a12.out.below BB)
  have H_u13 := Lib.hid (H_u12.out.below BB)
  have H_p13 := Lib.hid (H_p12.out.below BB)
  have H_q13 := Lib.hid (H_q12.out.below BB)
  have H_t13 := Lib.hid (H_t12.out.below BB)
  have H_o13 := Lib.hid (H_o12.out.below BB)
  have HB13 := Lib.hid (HB12.out.trans (BB.mono HB12.out.size))
  clear H_a12 H_u12 H_p12 H_q12 H_t12 H_o12 HB12
  clear c13 BB
  go_wp2_with fail
  go_ret
  exact ⟨rfl, HB13.out⟩

set_option maxHeartbeats 8000000 in
theorem shifts9_yg (A : Option Addr) (n c : Nat) (a : Nat) (N E : Int) (w : World) (h1 : Digs w A n (dg a)) (ta : a < top) (hE : E ≤ 9223372036854775807) (h0 : 0 ≤ N) (h4 : N ≤ 4096) (hs : 4 < n) :
    Calls Try.prog 6 #[.slice A n c, .int .i64 N, .int .i64 E] w fun e w' => e = .returned (.bool true) ∧ Below w.heap.size w w' := by
  have hn : n ≤ 256 := by have := top_len ta; have := h1.1; omega
  have dn : decide ((300 : Int) < (n : Int)) = false := by simp; omega
  have dnn : decide (300 < n) = false := by simp; omega
  obtain ⟨ok, ps, hps, cP, cR⟩ := power_all N E hE
  obtain ⟨r, cB, cC⟩ := bits_all a n h1.1 ta
  have HPS := Lib.hid hps; have CP := Lib.hid cP; have CR := Lib.hid cR; have CB := Lib.hid cB; have CC := Lib.hid cC
  have Hta := Lib.hid ta
  have H_a := Lib.hid h1
  clear h1 ta hps cP cR cB cC hE
  obtain ⟨M, rfl⟩ : ∃ M : Nat, N = (M : Int) := ⟨N.toNat, by omega⟩
  have e0 : decide ((M : Int) < 0) = false := by simp
  have e1 : decide ((4096 : Int) < (M : Int)) = false := by simp; omega
  have e1n : decide (4096 < M) = false := by simp; omega
  have HM : Hid (M ≤ 4096) := show _ ≤ _ by omega
  have HUL := Lib.hid (up_len Hta.out HM.out)
  clear h0 h4
  have d4 : decide ((n : Int) ≤ 4) = false := by simp; omega
  have d4n : decide (n ≤ 4) = false := by simp; omega
  have H4 : Hid (4 < n) := hs
  clear hs
  go_enter Try.func6, Try.ntmps6
  have c1 := Lib.hid (awake_any w)
  go_wp2_with fail
  refine c1.out.mono ?_
  rintro e w1 ⟨rfl, BB⟩
  have H_a1 := Lib.hid (H_a.out.below BB)
  have HB1 := Lib.hid BB
  clear H_a
  clear c1 BB
  have c2 := Lib.hid (up_yes A n c a M w1 H_a1.out Hta.out HM.out)
  go_wp2_with fail
  refine c2.out.mono ?_
  rintro e w2 ⟨R2, k2, rfl, D, BB⟩
  have H_a2 := Lib.hid (H_a1.out.below BB)
  have HB2 := Lib.hid (HB1.out.trans (BB.mono HB1.out.size))
  clear H_a1 HB1
  obtain ⟨l2, hl⟩ : ∃ l, l = (dg (a * 2 ^ M)).length := ⟨_, rfl⟩
  rw [← hl] at D ⊢
  have L_u := Lib.hid hl
  have H_u2 := Lib.hid D
  clear c2 BB D hl
  have c3 := Lib.hid (CP.out w2)
  go_wp2_with fail
  refine c3.out.mono ?_
  rintro e w3 ⟨R3, k3, rfl, D, BB⟩
  have H_a3 := Lib.hid (H_a2.out.below BB)
  have H_u3 := Lib.hid (H_u2.out.below BB)
  have HB3 := Lib.hid (HB2.out.trans (BB.mono HB2.out.size))
  clear H_a2 H_u2 HB2
  obtain ⟨l3, hl⟩ : ∃ l, l = (ps).length := ⟨_, rfl⟩
  rw [← hl] at D ⊢
  have L_p := Lib.hid hl
  have H_p3 := Lib.hid D
  clear c3 BB D hl
  have c4 := Lib.hid (CR.out w3)
  go_wp2_with fail
  refine c4.out.mono ?_
  rintro e w4 ⟨R4, k4, rfl, D, BB⟩
  have H_a4 := Lib.hid (H_a3.out.below BB)
  have H_u4 := Lib.hid (H_u3.out.below BB)
  have H_p4 := Lib.hid (H_p3.out.below BB)
  have HB4 := Lib.hid (HB3.out.trans (BB.mono HB3.out.size))
  clear H_a3 H_u3 H_p3 HB3
  obtain ⟨l4, hl⟩ : ∃ l, l = (ps).length := ⟨_, rfl⟩
  rw [← hl] at D ⊢
  have L_q := Lib.hid hl
  have H_q4 := Lib.hid D
  clear c4 BB D hl
  have c5 := Lib.hid (small_no A n c (dg a) w4 H_a4.out (by omega) (.inr H4.out))
  go_wp2_with fail
  refine c5.out.mono ?_
  rintro e v5 ⟨rfl, hw⟩; subst v5
  clear c5
  have c6 := Lib.hid (same_any R3 l3 k3 (ps) R4 l4 k4 (ps) w4 H_p4.out H_q4.out (by have := L_p.out; have := HPS.out; omega) (by have := L_q.out; have := HPS.out; omega))
  rw [decide_eq_true rfl] at c6
  go_wp2_with fail
  refine c6.out.mono ?_
  rintro e w6 ⟨rfl, BB⟩
  have H_a6 := Lib.hid (H_a4.out.below BB)
  have H_u6 := Lib.hid (H_u4.out.below BB)
  have H_p6 := Lib.hid (H_p4.out.below BB)
  have H_q6 := Lib.hid (H_q4.out.below BB)
  have HB6 := Lib.hid (HB4.out.trans (BB.mono HB4.out.size))
  clear H_a4 H_u4 H_p4 H_q4 HB4
  clear c6 BB
  have c7 := Lib.hid (refIs_yes A n c a w6 H_a6.out Hta.out)
  go_wp2_with fail
  refine c7.out.mono ?_
  rintro e v7 ⟨rfl, hw⟩; subst v7
  clear c7
  have c8 := Lib.hid (refUp_any A n c a M w6 H_a6.out (by omega) HM.out)
  go_wp2_with fail
  refine c8.out.mono ?_
  rintro e w8 ⟨R8, k8, rfl, D, BB⟩
  have H_a8 := Lib.hid (H_a6.out.below BB)
  have H_u8 := Lib.hid (H_u6.out.below BB)
  have H_p8 := Lib.hid (H_p6.out.below BB)
  have H_q8 := Lib.hid (H_q6.out.below BB)
  have HB8 := Lib.hid (HB6.out.trans (BB.mono HB6.out.size))
  clear H_a6 H_u6 H_p6 H_q6 HB6
  obtain ⟨l8, hl⟩ : ∃ l, l = (dg (a * 2 ^ M)).length := ⟨_, rfl⟩
  rw [← hl] at D ⊢
  have L_t := Lib.hid hl
  have H_t8 := Lib.hid D
  clear c8 BB D hl
  have c9 := Lib.hid (same_any R2 l2 k2 (dg (a * 2 ^ M)) R8 l8 k8 (dg (a * 2 ^ M)) w8 H_u8.out H_t8.out (by have := L_u.out; have := HUL.out; omega) (by have := L_t.out; have := HUL.out; omega))
  rw [decide_eq_true rfl] at c9
  go_wp2_with fail
  refine c9.out.mono ?_
  rintro e w9 ⟨rfl, BB⟩
  have H_a9 := Lib.hid (H_a8.out.below BB)
  have H_u9 := Lib.hid (H_u8.out.below BB)
  have H_p9 := Lib.hid (H_p8.out.below BB)
  have H_q9 := Lib.hid (H_q8.out.below BB)
  have H_t9 := Lib.hid (H_t8.out.below BB)
  have HB9 := Lib.hid (HB8.out.trans (BB.mono HB8.out.size))
  clear H_a8 H_u8 H_p8 H_q8 H_t8 HB8
  clear c9 BB
  have c10 := Lib.hid (CB.out w9 A c H_a9.out)
  go_wp2_with fail
  refine c10.out.mono ?_
  rintro e v10 ⟨rfl, hw⟩; subst v10
  clear c10
  have c11 := Lib.hid (CC.out w9 A c H_a9.out)
  go_wp2_with fail
  refine c11.out.mono ?_
  rintro e v11 ⟨rfl, hw⟩; subst v11
  clear c11
  go_wp2_with fail
  go_ret
  exact ⟨rfl, HB9.out⟩

set_option maxHeartbeats 8000000 in
theorem shifts9_ns (A : Option Addr) (n c : Nat) (a : Nat) (N E : Int) (w : World) (h1 : Digs w A n (dg a)) (ta : a < top) (hE : E ≤ 9223372036854775807) (hN : N < 0 ∨ 4096 < N) (hs : n ≤ 4) :
    Calls Try.prog 6 #[.slice A n c, .int .i64 N, .int .i64 E] w fun e w' => e = .returned (.bool true) ∧ Below w.heap.size w w' := by
  have hn : n ≤ 256 := by have := top_len ta; have := h1.1; omega
  have dn : decide ((300 : Int) < (n : Int)) = false := by simp; omega
  have dnn : decide (300 < n) = false := by simp; omega
  obtain ⟨ok, ps, hps, cP, cR⟩ := power_all N E hE
  obtain ⟨r, cB, cC⟩ := bits_all a n h1.1 ta
  have HPS := Lib.hid hps; have CP := Lib.hid cP; have CR := Lib.hid cR; have CB := Lib.hid cB; have CC := Lib.hid cC
  have Hta := Lib.hid ta
  have H_a := Lib.hid h1
  clear h1 ta hps cP cR cB cC hE
  have HN := Lib.hid hN
  obtain ⟨f1, hf1⟩ : ∃ f1, decide (N < 0) = f1 := ⟨_, rfl⟩
  have HF2 : Hid (f1 = false → decide ((4096 : Int) < N) = true) := fun h => by
    rw [h] at hf1
    simp at hf1 ⊢
    omega
  clear hN
  have d4 : decide ((n : Int) ≤ 4) = true := by simp; omega
  have d4n : decide (n ≤ 4) = true := by simp; omega
  have H4 := Lib.hid hs
  have Ha64 : Hid (a < 18446744073709551616) := Nat.lt_of_lt_of_le ((dg_len a 4).1 (by rw [H_a.out.1]; exact hs)) (by decide)
  clear hs
  cases f1
  · have hf2 := HF2.out rfl
    clear HF2
    go_enter Try.func6, Try.ntmps6
    have c1 := Lib.hid (awake_any w)
    go_wp2_with fail
    refine c1.out.mono ?_
    rintro e w1 ⟨rfl, BB⟩
    have H_a1 := Lib.hid (H_a.out.below BB)
    have HB1 := Lib.hid BB
    clear H_a
    clear c1 BB
    have c2 := Lib.hid (up_no A n c (dg a) N w1 H_a1.out (by omega) (.inr HN.out))
    go_wp2_with fail
    refine c2.out.mono ?_
    rintro e v2 ⟨rfl, hw⟩; subst v2
    clear c2
    have c3 := Lib.hid (CP.out w1)
    go_wp2_with fail
    refine c3.out.mono ?_
    rintro e w3 ⟨R3, k3, rfl, D, BB⟩
    have H_a3 := Lib.hid (H_a1.out.below BB)
    have HB3 := Lib.hid (HB1.out.trans (BB.mono HB1.out.size))
    clear H_a1 HB1
    obtain ⟨l3, hl⟩ : ∃ l, l = (ps).length := ⟨_, rfl⟩
    rw [← hl] at D ⊢
    have L_p := Lib.hid hl
    have H_p3 := Lib.hid D
    clear c3 BB D hl
    have c4 := Lib.hid (CR.out w3)
    go_wp2_with fail
    refine c4.out.mono ?_
    rintro e w4 ⟨R4, k4, rfl, D, BB⟩
    have H_a4 := Lib.hid (H_a3.out.below BB)
    have H_p4 := Lib.hid (H_p3.out.below BB)
    have HB4 := Lib.hid (HB3.out.trans (BB.mono HB3.out.size))
    clear H_a3 H_p3 HB3
    obtain ⟨l4, hl⟩ : ∃ l, l = (ps).length := ⟨_, rfl⟩
    rw [← hl] at D ⊢
    have L_q := Lib.hid hl
    have H_q4 := Lib.hid D
    clear c4 BB D hl
    have c5 := Lib.hid (small_yes A n c a w4 H_a4.out Hta.out H4.out)
    go_wp2_with fail
    refine c5.out.mono ?_
    rintro e v5 ⟨rfl, hw⟩; subst v5
    clear c5
    have c6 := Lib.hid (same_any R3 l3 k3 (ps) R4 l4 k4 (ps) w4 H_p4.out H_q4.out (by have := L_p.out; have := HPS.out; omega) (by have := L_q.out; have := HPS.out; omega))
    rw [decide_eq_true rfl] at c6
    go_wp2_with fail
    refine c6.out.mono ?_
    rintro e w6 ⟨rfl, BB⟩
    have H_a6 := Lib.hid (H_a4.out.below BB)
    have H_p6 := Lib.hid (H_p4.out.below BB)
    have H_q6 := Lib.hid (H_q4.out.below BB)
    have HB6 := Lib.hid (HB4.out.trans (BB.mono HB4.out.size))
    clear H_a4 H_p4 H_q4 HB4
    clear c6 BB
    have c7 := Lib.hid (refIs_yes A n c a w6 H_a6.out Hta.out)
    go_wp2_with fail
    refine c7.out.mono ?_
    rintro e v7 ⟨rfl, hw⟩; subst v7
    clear c7
    have c8 := Lib.hid (CB.out w6 A c H_a6.out)
    go_wp2_with fail
    refine c8.out.mono ?_
    rintro e v8 ⟨rfl, hw⟩; subst v8
    clear c8
    have c9 := Lib.hid (CC.out w6 A c H_a6.out)
    go_wp2_with fail
    refine c9.out.mono ?_
    rintro e v9 ⟨rfl, hw⟩; subst v9
    clear c9
    have c10 := Lib.hid (refOf_any a Ha64.out w6)
    go_wp2_with fail
    refine c10.out.mono ?_
    rintro e w10 ⟨R10, k10, rfl, D, BB⟩
    have H_a10 := Lib.hid (H_a6.out.below BB)
    have H_p10 := Lib.hid (H_p6.out.below BB)
    have H_q10 := Lib.hid (H_q6.out.below BB)
    have HB10 := Lib.hid (HB6.out.trans (BB.mono HB6.out.size))
    clear H_a6 H_p6 H_q6 HB6
    obtain ⟨l10, hl⟩ : ∃ l, l = (dg a).length := ⟨_, rfl⟩
    rw [← hl] at D ⊢
    have L_o := Lib.hid hl
    have H_o10 := Lib.hid D
    clear c10 BB D hl
    have c11 := Lib.hid (same_any R10 l10 k10 (dg a) A n c (dg a) w10 H_o10.out H_a10.out (by have := L_o.out; have := top_len Hta.out; omega) (by omega))
    rw [decide_eq_true rfl] at c11
    go_wp2_with fail
    refine c11.out.mono ?_
    rintro e w11 ⟨rfl, BB⟩
    have H_a11 := Lib.hid (H_a10.out.below BB)
    have H_p11 := Lib.hid (H_p10.out.below BB)
    have H_q11 := Lib.hid (H_q10.out.below BB)
    have H_o11 := Lib.hid (H_o10.out.below BB)
    have HB11 := Lib.hid (HB10.out.trans (BB.mono HB10.out.size))
    clear H_a10 H_p10 H_q10 H_o10 HB10
    clear c11 BB
    go_wp2_with fail
    go_ret
    exact ⟨rfl, HB11.out⟩
  · clear HF2
    go_enter Try.func6, Try.ntmps6
    have c1 := Lib.hid (awake_any w)
    go_wp2_with fail
    refine c1.out.mono ?_
    rintro e w1 ⟨rfl, BB⟩
    have H_a1 := Lib.hid (H_a.out.below BB)
    have HB1 := Lib.hid BB
    clear H_a
    clear c1 BB
    have c2 := Lib.hid (up_no A n c (dg a) N w1 H_a1.out (by omega) (.inr HN.out))
    go_wp2_with fail
    refine c2.out.mono ?_
    rintro e v2 ⟨rfl, hw⟩; subst v2
    clear c2
    have c3 := Lib.hid (CP.out w1)
    go_wp2_with fail
    refine c3.out.mono ?_
    rintro e w3 ⟨R3, k3, rfl, D, BB⟩
    have H_a3 := Lib.hid (H_a1.out.below BB)
    have HB3 := Lib.hid (HB1.out.trans (BB.mono HB1.out.size))
    clear H_a1 HB1
    obtain ⟨l3, hl⟩ : ∃ l, l = (ps).length := ⟨_, rfl⟩
    rw [← hl] at D ⊢
    have L_p := Lib.hid hl
    have H_p3 := Lib.hid D
    clear c3 BB D hl
    have c4 := Lib.hid (CR.out w3)
    go_wp2_with fail
    refine c4.out.mono ?_
    rintro e w4 ⟨R4, k4, rfl, D, BB⟩
    have H_a4 := Lib.hid (H_a3.out.below BB)
    have H_p4 := Lib.hid (H_p3.out.below BB)
    have HB4 := Lib.hid (HB3.out.trans (BB.mono HB3.out.size))
    clear H_a3 H_p3 HB3
    obtain ⟨l4, hl⟩ : ∃ l, l = (ps).length := ⟨_, rfl⟩
    rw [← hl] at D ⊢
    have L_q := Lib.hid hl
    have H_q4 := Lib.hid D
    clear c4 BB D hl
    have c5 := Lib.hid (small_yes A n c a w4 H_a4.out Hta.out H4.out)
    go_wp2_with fail
    refine c5.out.mono ?_
    rintro e v5 ⟨rfl, hw⟩; subst v5
    clear c5
    have c6 := Lib.hid (same_any R3 l3 k3 (ps) R4 l4 k4 (ps) w4 H_p4.out H_q4.out (by have := L_p.out; have := HPS.out; omega) (by have := L_q.out; have := HPS.out; omega))
    rw [decide_eq_true rfl] at c6
    go_wp2_with fail
    refine c6.out.mono ?_
    rintro e w6 ⟨rfl, BB⟩
    have H_a6 := Lib.hid (H_a4.out.below BB)
    have H_p6 := Lib.hid (H_p4.out.below BB)
    have H_q6 := Lib.hid (H_q4.out.below BB)
    have HB6 := Lib.hid (HB4.out.trans (BB.mono HB4.out.size))
    clear H_a4 H_p4 H_q4 HB4
    clear c6 BB
    have c7 := Lib.hid (refIs_yes A n c a w6 H_a6.out Hta.out)
    go_wp2_with fail
    refine c7.out.mono ?_
    rintro e v7 ⟨rfl, hw⟩; subst v7
    clear c7
    have c8 := Lib.hid (CB.out w6 A c H_a6.out)
    go_wp2_with fail
    refine c8.out.mono ?_
    rintro e v8 ⟨rfl, hw⟩; subst v8
    clear c8
    have c9 := Lib.hid (CC.out w6 A c H_a6.out)
    go_wp2_with fail
    refine c9.out.mono ?_
    rintro e v9 ⟨rfl, hw⟩; subst v9
    clear c9
    have c10 := Lib.hid (refOf_any a Ha64.out w6)
    go_wp2_with fail
    refine c10.out.mono ?_
    rintro e w10 ⟨R10, k10, rfl, D, BB⟩
    have H_a10 := Lib.hid (H_a6.out.below BB)
    have H_p10 := Lib.hid (H_p6.out.below BB)
    have H_q10 := Lib.hid (H_q6.out.below BB)
    have HB10 := Lib.hid (HB6.out.trans (BB.mono HB6.out.size))
    clear H_a6 H_p6 H_q6 HB6
    obtain ⟨l10, hl⟩ : ∃ l, l = (dg a).length := ⟨_, rfl⟩
    rw [← hl] at D ⊢
    have L_o := Lib.hid hl
    have H_o10 := Lib.hid D
    clear c10 BB D hl
    have c11 := Lib.hid (same_any R10 l10 k10 (dg a) A n c (dg a) w10 H_o10.out H_a10.out (by have := L_o.out; have := top_len Hta.out; omega) (by omega))
    rw [decide_eq_true rfl] at c11
    go_wp2_with fail
    refine c11.out.mono ?_
    rintro e w11 ⟨rfl, BB⟩
    have H_a11 := Lib.hid (H_a10.out.below BB)
    have H_p11 := Lib.hid (H_p10.out.below BB)
    have H_q11 := Lib.hid (H_q10.out.below BB)
    have H_o11 := Lib.hid (H_o10.out.below BB)
    have HB11 := Lib.hid (HB10.out.trans (BB.mono HB10.out.size))
    clear H_a10 H_p10 H_q10 H_o10 HB10
    clear c11 BB
    go_wp2_with fail
    go_ret
    exact ⟨rfl, HB11.out⟩

set_option maxHeartbeats 8000000 in
theorem shifts9_ng (A : Option Addr) (n c : Nat) (a : Nat) (N E : Int) (w : World) (h1 : Digs w A n (dg a)) (ta : a < top) (hE : E ≤ 9223372036854775807) (hN : N < 0 ∨ 4096 < N) (hs : 4 < n) :
    Calls Try.prog 6 #[.slice A n c, .int .i64 N, .int .i64 E] w fun e w' => e = .returned (.bool true) ∧ Below w.heap.size w w' := by
  have hn : n ≤ 256 := by have := top_len ta; have := h1.1; omega
  have dn : decide ((300 : Int) < (n : Int)) = false := by simp; omega
  have dnn : decide (300 < n) = false := by simp; omega
  obtain ⟨ok, ps, hps, cP, cR⟩ := power_all N E hE
  obtain ⟨r, cB, cC⟩ := bits_all a n h1.1 ta
  have HPS := Lib.hid hps; have CP := Lib.hid cP; have CR := Lib.hid cR; have CB := Lib.hid cB; have CC := Lib.hid cC
  have Hta := Lib.hid ta
  have H_a := Lib.hid h1
  clear h1 ta hps cP cR cB cC hE
  have HN := Lib.hid hN
  obtain ⟨f1, hf1⟩ : ∃ f1, decide (N < 0) = f1 := ⟨_, rfl⟩
  have HF2 : Hid (f1 = false → decide ((4096 : Int) < N) = true) := fun h => by
    rw [h] at hf1
    simp at hf1 ⊢
    omega
  clear hN
  have d4 : decide ((n : Int) ≤ 4) = false := by simp; omega
  have d4n : decide (n ≤ 4) = false := by simp; omega
  have H4 : Hid (4 < n) := hs
  clear hs
  cases f1
  · have hf2 := HF2.out rfl
    clear HF2
    go_enter Try.func6, Try.ntmps6
    have c1 := Lib.hid (awake_any w)
    go_wp2_with fail
    refine c1.out.mono ?_
    rintro e w1 ⟨rfl, BB⟩
    have H_a1 := Lib.hid (H_a.out.below BB)
    have HB1 := Lib.hid BB
    clear H_a
    clear c1 BB
    have c2 := Lib.hid (up_no A n c (dg a) N w1 H_a1.out (by omega) (.inr HN.out))
    go_wp2_with fail
    refine c2.out.mono ?_
    rintro e v2 ⟨rfl, hw⟩; subst v2
    clear c2
    have c3 := Lib.hid (CP.out w1)
    go_wp2_with fail
    refine c3.out.mono ?_
    rintro e w3 ⟨R3, k3, rfl, D, BB⟩
    have H_a3 := Lib.hid (H_a1.out.below BB)
    have HB3 := Lib.hid (HB1.out.trans (BB.mono HB1.out.size))
    clear H_a1 HB1
    obtain ⟨l3, hl⟩ : ∃ l, l = (ps).length := ⟨_, rfl⟩
    rw [← hl] at D ⊢
    have L_p := Lib.hid hl
    have H_p3 := Lib.hid D
    clear c3 BB D hl
    have c4 := Lib.hid (CR.out w3)
    go_wp2_with fail
    refine c4.out.mono ?_
    rintro e w4 ⟨R4, k4, rfl, D, BB⟩
    have H_a4 := Lib.hid (H_a3.out.below BB)
    have H_p4 := Lib.hid (H_p3.out.below BB)
    have HB4 := Lib.hid (HB3.out.trans (BB.mono HB3.out.size))
    clear H_a3 H_p3 HB3
    obtain ⟨l4, hl⟩ : ∃ l, l = (ps).length := ⟨_, rfl⟩
    rw [← hl] at D ⊢
    have L_q := Lib.hid hl
    have H_q4 := Lib.hid D
    clear c4 BB D hl
    have c5 := Lib.hid (small_no A n c (dg a) w4 H_a4.out (by omega) (.inr H4.out))
    go_wp2_with fail
    refine c5.out.mono ?_
    rintro e v5 ⟨rfl, hw⟩; subst v5
    clear c5
    have c6 := Lib.hid (same_any R3 l3 k3 (ps) R4 l4 k4 (ps) w4 H_p4.out H_q4.out (by have := L_p.out; have := HPS.out; omega) (by have := L_q.out; have := HPS.out; omega))
    rw [decide_eq_true rfl] at c6
    go_wp2_with fail
    refine c6.out.mono ?_
    rintro e w6 ⟨rfl, BB⟩
    have H_a6 := Lib.hid (H_a4.out.below BB)
    have H_p6 := Lib.hid (H_p4.out.below BB)
    have H_q6 := Lib.hid (H_q4.out.below BB)
    have HB6 := Lib.hid (HB4.out.trans (BB.mono HB4.out.size))
    clear H_a4 H_p4 H_q4 HB4
    clear c6 BB
    have c7 := Lib.hid (refIs_yes A n c a w6 H_a6.out Hta.out)
    go_wp2_with fail
    refine c7.out.mono ?_
    rintro e v7 ⟨rfl, hw⟩; subst v7
    clear c7
    have c8 := Lib.hid (CB.out w6 A c H_a6.out)
    go_wp2_with fail
    refine c8.out.mono ?_
    rintro e v8 ⟨rfl, hw⟩; subst v8
    clear c8
    have c9 := Lib.hid (CC.out w6 A c H_a6.out)
    go_wp2_with fail
    refine c9.out.mono ?_
    rintro e v9 ⟨rfl, hw⟩; subst v9
    clear c9
    go_wp2_with fail
    go_ret
    exact ⟨rfl, HB6.out⟩
  · clear HF2
    go_enter Try.func6, Try.ntmps6
    have c1 := Lib.hid (awake_any w)
    go_wp2_with fail
    refine c1.out.mono ?_
    rintro e w1 ⟨rfl, BB⟩
    have H_a1 := Lib.hid (H_a.out.below BB)
    have HB1 := Lib.hid BB
    clear H_a
    clear c1 BB
    have c2 := Lib.hid (up_no A n c (dg a) N w1 H_a1.out (by omega) (.inr HN.out))
    go_wp2_with fail
    refine c2.out.mono ?_
    rintro e v2 ⟨rfl, hw⟩; subst v2
    clear c2
    have c3 := Lib.hid (CP.out w1)
    go_wp2_with fail
    refine c3.out.mono ?_
    rintro e w3 ⟨R3, k3, rfl, D, BB⟩
    have H_a3 := Lib.hid (H_a1.out.below BB)
    have HB3 := Lib.hid (HB1.out.trans (BB.mono HB1.out.size))
    clear H_a1 HB1
    obtain ⟨l3, hl⟩ : ∃ l, l = (ps).length := ⟨_, rfl⟩
    rw [← hl] at D ⊢
    have L_p := Lib.hid hl
    have H_p3 := Lib.hid D
    clear c3 BB D hl
    have c4 := Lib.hid (CR.out w3)
    go_wp2_with fail
    refine c4.out.mono ?_
    rintro e w4 ⟨R4, k4, rfl, D, BB⟩
    have H_a4 := Lib.hid (H_a3.out.below BB)
    have H_p4 := Lib.hid (H_p3.out.below BB)
    have HB4 := Lib.hid (HB3.out.trans (BB.mono HB3.out.size))
    clear H_a3 H_p3 HB3
    obtain ⟨l4, hl⟩ : ∃ l, l = (ps).length := ⟨_, rfl⟩
    rw [← hl] at D ⊢
    have L_q := Lib.hid hl
    have H_q4 := Lib.hid D
    clear c4 BB D hl
    have c5 := Lib.hid (small_no A n c (dg a) w4 H_a4.out (by omega) (.inr H4.out))
    go_wp2_with fail
    refine c5.out.mono ?_
    rintro e v5 ⟨rfl, hw⟩; subst v5
    clear c5
    have c6 := Lib.hid (same_any R3 l3 k3 (ps) R4 l4 k4 (ps) w4 H_p4.out H_q4.out (by have := L_p.out; have := HPS.out; omega) (by have := L_q.out; have := HPS.out; omega))
    rw [decide_eq_true rfl] at c6
    go_wp2_with fail
    refine c6.out.mono ?_
    rintro e w6 ⟨rfl, BB⟩
    have H_a6 := Lib.hid (H_a4.out.below BB)
    have H_p6 := Lib.hid (H_p4.out.below BB)
    have H_q6 := Lib.hid (H_q4.out.below BB)
    have HB6 := Lib.hid (HB4.out.trans (BB.mono HB4.out.size))
    clear H_a4 H_p4 H_q4 HB4
    clear c6 BB
    have c7 := Lib.hid (refIs_yes A n c a w6 H_a6.out Hta.out)
    go_wp2_with fail
    refine c7.out.mono ?_
    rintro e v7 ⟨rfl, hw⟩; subst v7
    clear c7
    have c8 := Lib.hid (CB.out w6 A c H_a6.out)
    go_wp2_with fail
    refine c8.out.mono ?_
    rintro e v8 ⟨rfl, hw⟩; subst v8
    clear c8
    have c9 := Lib.hid (CC.out w6 A c H_a6.out)
    go_wp2_with fail
    refine c9.out.mono ?_
    rintro e v9 ⟨rfl, hw⟩; subst v9
    clear c9
    go_wp2_with fail
    go_ret
    exact ⟨rfl, HB6.out⟩

set_option maxHeartbeats 8000000 in
theorem shifts9_no (A : Option Addr) (n c : Nat) (xs : List Nat) (N E : Int) (w : World) (h1 : Digs w A n xs) (hE : E ≤ 9223372036854775807) (hn : n ≤ 300) (hx : isN xs = false) :
    Calls Try.prog 6 #[.slice A n c, .int .i64 N, .int .i64 E] w fun e w' => e = .returned (.bool true) ∧ Below w.heap.size w w' := by
  have dn : decide ((300 : Int) < (n : Int)) = false := by simp; omega
  have dnn : decide (300 < n) = false := by simp; omega
  obtain ⟨ok, ps, hps, cP, cR⟩ := power_all N E hE
  have HPS := Lib.hid hps; have CP := Lib.hid cP; have CR := Lib.hid cR
  have HX := Lib.hid hx
  have H_a := Lib.hid h1
  clear h1 hps cP cR hE hx
  go_enter Try.func6, Try.ntmps6
  have c1 := Lib.hid (awake_any w)
  go_wp2_with fail
  refine c1.out.mono ?_
  rintro e w1 ⟨rfl, BB⟩
  have H_a1 := Lib.hid (H_a.out.below BB)
  have HB1 := Lib.hid BB
  clear H_a
  clear c1 BB
  have c2 := Lib.hid (up_no A n c xs N w1 H_a1.out (by omega) (.inl HX.out))
  go_wp2_with fail
  refine c2.out.mono ?_
  rintro e v2 ⟨rfl, hw⟩; subst v2
  clear c2
  have c3 := Lib.hid (CP.out w1)
  go_wp2_with fail
  refine c3.out.mono ?_
  rintro e w3 ⟨R3, k3, rfl, D, BB⟩
  have H_a3 := Lib.hid (H_a1.out.below BB)
  have HB3 := Lib.hid (HB1.out.trans (BB.mono HB1.out.size))
  clear H_a1 HB1
  obtain ⟨l3, hl⟩ : ∃ l, l = (ps).length := ⟨_, rfl⟩
  rw [← hl] at D ⊢
  have L_p := Lib.hid hl
  have H_p3 := Lib.hid D
  clear c3 BB D hl
  have c4 := Lib.hid (CR.out w3)
  go_wp2_with fail
  refine c4.out.mono ?_
  rintro e w4 ⟨R4, k4, rfl, D, BB⟩
  have H_a4 := Lib.hid (H_a3.out.below BB)
  have H_p4 := Lib.hid (H_p3.out.below BB)
  have HB4 := Lib.hid (HB3.out.trans (BB.mono HB3.out.size))
  clear H_a3 H_p3 HB3
  obtain ⟨l4, hl⟩ : ∃ l, l = (ps).length := ⟨_, rfl⟩
  rw [← hl] at D ⊢
  have L_q := Lib.hid hl
  have H_q4 := Lib.hid D
  clear c4 BB D hl
  have c5 := Lib.hid (small_no A n c xs w4 H_a4.out (by omega) (.inl HX.out))
  go_wp2_with fail
  refine c5.out.mono ?_
  rintro e v5 ⟨rfl, hw⟩; subst v5
  clear c5
  have c6 := Lib.hid (same_any R3 l3 k3 (ps) R4 l4 k4 (ps) w4 H_p4.out H_q4.out (by have := L_p.out; have := HPS.out; omega) (by have := L_q.out; have := HPS.out; omega))
  rw [decide_eq_true rfl] at c6
  go_wp2_with fail
  refine c6.out.mono ?_
  rintro e w6 ⟨rfl, BB⟩
  have H_a6 := Lib.hid (H_a4.out.below BB)
  have H_p6 := Lib.hid (H_p4.out.below BB)
  have H_q6 := Lib.hid (H_q4.out.below BB)
  have HB6 := Lib.hid (HB4.out.trans (BB.mono HB4.out.size))
  clear H_a4 H_p4 H_q4 HB4
  clear c6 BB
  have c7 := Lib.hid (refIs_any A n c xs w6 H_a6.out (by omega))
  rw [HX.out] at c7
  go_wp2_with fail
  refine c7.out.mono ?_
  rintro e v7 ⟨rfl, hw⟩; subst v7
  clear c7
  have c8 := Lib.hid (bits_no A n c xs w6 H_a6.out (by omega) HX.out)
  go_wp2_with fail
  refine c8.out.mono ?_
  rintro e v8 ⟨rfl, hw⟩; subst v8
  clear c8
  go_wp2_with fail
  go_ret
  exact ⟨rfl, HB6.out⟩

set_option maxHeartbeats 4000000 in
theorem shifts9_walk (A : Option Addr) (n c : Nat) (xs : List Nat) (N E : Int) (w : World) (h1 : Digs w A n xs) (hE : E ≤ 9223372036854775807) :
    Calls Try.prog 6 #[.slice A n c, .int .i64 N, .int .i64 E] w fun e w' => e = .returned (.bool true) ∧ Below w.heap.size w w' := by
  by_cases t0 : 300 < n
  · have d0 : decide ((300 : Int) < (n : Int)) = true := by simp; omega
    have HA := Lib.hid (awake_any w)
    clear h1 t0 hE
    go_enter Try.func6, Try.ntmps6
    go_wp2_with fail
    refine HA.out.mono ?_
    rintro e w1 ⟨rfl, B1⟩
    have HB := Lib.hid B1
    clear B1 HA
    go_wp2_with fail
    go_ret
    exact ⟨rfl, HB.out⟩
  by_cases hx : isN xs = true
  · obtain ⟨a, rfl, la⟩ := num_of (k := 256) h1.2.1 h1.1 (by have := (of_decide_eq_true hx).1; have := h1.1; omega) hx
    by_cases h0 : N < 0 ∨ 4096 < N
    · by_cases hs : n ≤ 4
      · exact shifts9_ns A n c a N E w h1 la hE h0 hs
      · exact shifts9_ng A n c a N E w h1 la hE h0 (by omega)
    · by_cases hs : n ≤ 4
      · exact shifts9_ys A n c a N E w h1 la hE (by omega) (by omega) hs
      · exact shifts9_yg A n c a N E w h1 la hE (by omega) (by omega) (by omega)
  · exact shifts9_no A n c xs N E w h1 hE (by omega) (eq_false_of_ne_true hx)

end Go.Proofs.Ytcejbkmmiklhbaa
