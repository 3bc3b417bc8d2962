/-
  What deci's Split, Join and Plain do; for all bits, all coefficients and all exponents; no condition.
-/
import Derived.Test.YtkkoefiennccoaaDoorDeciS

namespace Go.Proofs.YtkkoefiennccoaaDoor
set_option maxRecDepth 100000
open Go.RowKit
theorem and_sign (h : Nat) (hh : h < 18446744073709551616) : bits .and .u64 (h : Int) 9223372036854775808 = ((h / 9223372036854775808 * 9223372036854775808 : Nat) : Int) := by
  have e := bits_and_u64_nat h 9223372036854775808 hh (by decide)
  have key : ∀ q r s : Nat, q = 2 ^ 63 → r < 2 ^ 63 → s < 2 → (s * q + r) &&& q = s * q := by
    intro q r s hq hr hs
    subst hq
    apply Nat.eq_of_testBit_eq
    intro i
    rw [Nat.testBit_and, Nat.testBit_two_pow]
    obtain rfl | rfl : s = 0 ∨ s = 1 := by omega
    · rw [Nat.zero_mul, Nat.zero_add, Nat.zero_testBit]
      by_cases hi : 63 = i
      · subst hi
        rw [Nat.testBit_lt_two_pow hr, Bool.false_and]
      · simp only [hi, decide_false, Bool.and_false]
    · rw [Nat.one_mul, Nat.testBit_two_pow]
      by_cases hi : 63 = i
      · subst hi
        rw [Nat.testBit_two_pow_add_eq, Nat.testBit_lt_two_pow hr]
        rfl
      · simp only [hi, decide_false, Bool.and_false]
  have e2 : h &&& 9223372036854775808 = h / 9223372036854775808 * 9223372036854775808 := by
    have k := key 9223372036854775808 (h % 9223372036854775808) (h / 9223372036854775808) (by decide) (Nat.lt_of_lt_of_eq (Nat.mod_lt _ (by decide)) (by decide)) (by omega)
    rwa [Nat.mul_comm, Nat.div_add_mod, Nat.mul_comm] at k
  rw [e2] at e
  exact e
theorem sign_ne (h : Nat) (hh : h < 18446744073709551616) : (((h / 9223372036854775808 * 9223372036854775808 : Nat) : Int) != 0) = dN h := by
  unfold dN
  have q : h / 9223372036854775808 = 0 ∨ h / 9223372036854775808 = 1 := by omega
  rcases q with q | q <;> rw [q] <;> rfl
theorem and_not (h : Nat) (hh : h < 18446744073709551616) : bits .andNot .u64 (h : Int) 9223372036854775808 = ((h % 9223372036854775808 : Nat) : Int) := by
  have e := u64_andNot_nat h 9223372036854775808 hh (by decide)
  rw [show h &&& (18446744073709551615 - 9223372036854775808) = h % 9223372036854775808 from Nat.and_two_pow_sub_one_eq_mod h 63] at e
  exact e
theorem inf_plain (h : Nat) (hh : h < 18446744073709551616) : (((h % 9223372036854775808 : Nat) : Int) == 8646911284551352320) = decide (h = 8646911284551352320 ∨ h = 17870283321406128128) := by
  rw [Bool.eq_iff_iff, beq_iff_eq, decide_eq_true_iff]
  omega
theorem row_up (h : Nat) : h / 2305843009213693952 = h / 288230376151711744 / 8 := by rw [Nat.div_div_eq_div_mul]
theorem row_yes {h : Nat} (o : h / 2305843009213693952 % 4 = 3) : decide ((24 : Int) ≤ ((h / 288230376151711744 % 32 : Nat) : Int)) = true := by
  rw [row_up] at o
  generalize h / 288230376151711744 = q at *
  exact decide_eq_true (by omega)
theorem row_no {h : Nat} (o : ¬ h / 2305843009213693952 % 4 = 3) : decide ((24 : Int) ≤ ((h / 288230376151711744 % 32 : Nat) : Int)) = false := by
  rw [row_up] at o
  generalize h / 288230376151711744 = q at *
  exact decide_eq_false (by omega)
theorem split_any (h l : Nat) (hh : h < 18446744073709551616) (hl : l < 18446744073709551616) (w : World) :
    Calls Tryd.prog 14 #[.int .u64 (h : Int), .int .u64 (l : Int)] w fun e w' => e = .returned (dV h l) ∧ Below w.heap.size w w' := by
  have a1 := and_31 (h / 288230376151711744) (quo_lt64 hh)
  have hA := and_sign h hh
  have hB := cast_div h 288230376151711744
  have hS := sign_ne h hh
  by_cases n : h / 288230376151711744 % 32 = 31
  · obtain ⟨e1, e2, e3⟩ := dK_nan n
    rw [n] at a1
    refine (split_nan _ _ _ _ _ w hA hS hB a1).mono ?_
    rintro e w' ⟨rfl, B⟩
    exact ⟨dV_of e1 rfl (e2 l) e3 rfl rfl, B⟩
  by_cases m : h / 288230376151711744 % 32 = 30
  · obtain ⟨e1, e2, e3⟩ := dK_inf m
    rw [m] at a1
    refine (split_inf _ _ _ _ _ w hA hS hB a1).mono ?_
    rintro e w' ⟨rfl, B⟩
    exact ⟨dV_of e1 rfl (e2 l) e3 rfl rfl, B⟩
  obtain ⟨e1, f1, f2⟩ := dK_fin n m
  have z1 : (((h / 288230376151711744 % 32 : Nat) : Int) == 31) = false := ne_lit n
  have z2 : (((h / 288230376151711744 % 32 : Nat) : Int) == 30) = false := ne_lit m
  by_cases o : h / 2305843009213693952 % 4 = 3
  · obtain ⟨e2, e3⟩ := f1 o
    have hD := cast_div h 140737488355328
    have a3 := and_14 (h / 140737488355328) (quo_lt64 hh)
    obtain ⟨x1, x2⟩ := exp_in (h / 140737488355328 % 16384) (Nat.mod_lt _ (by decide))
    have z3 : decide ((24 : Int) ≤ ((h / 288230376151711744 % 32 : Nat) : Int)) = true := row_yes o
    refine (split_odd _ _ _ _ _ _ _ w hA hS hB a1 z1 z2 z3 (Lib.hid fun w => exp47 _ _ _ _ w hD a3 x1 x2)).mono ?_
    rintro e w' ⟨rfl, B⟩
    exact ⟨dV_of e1 rfl (e2 l) e3 rfl rfl, B⟩
  · obtain ⟨e2, e3⟩ := f2 o
    have hD := cast_div h 562949953421312
    have a3 := and_14 (h / 562949953421312) (quo_lt64 hh)
    obtain ⟨x1, x2⟩ := exp_in (h / 562949953421312 % 16384) (Nat.mod_lt _ (by decide))
    have z3 : decide ((24 : Int) ≤ ((h / 288230376151711744 % 32 : Nat) : Int)) = false := row_no o
    have a4 := and_49 h hh
    have e2l := e2 l
    have cE := Lib.hid fun w => exp49 _ _ _ _ w hD a3 x1 x2
    obtain ⟨c, hc⟩ : ∃ c, c = h % 562949953421312 * 18446744073709551616 + l := ⟨_, rfl⟩
    rw [← hc] at e2l
    obtain ⟨k1, k0⟩ := halves_of hl hc
    have cF := Lib.hid fun w => fits_any c w
    rw [k1] at a4
    rw [show (l : Int) = ((c % 18446744073709551616 : Nat) : Int) by rw [← k0]]
    by_cases q : c < 10000000000000000000000000000000000
    · rw [if_pos q] at e2l
      rw [decide_eq_true q] at cF
      refine (split_fin _ _ _ _ _ _ _ _ _ _ _ w hA hS hB a1 z1 z2 z3 a4 cF cE (.inl ⟨rfl, rfl, rfl⟩)).mono ?_
      rintro e w' ⟨rfl, B⟩
      exact ⟨dV_of e1 rfl e2l e3 rfl rfl, B⟩
    · rw [if_neg q] at e2l
      rw [decide_eq_false q] at cF
      refine (split_fin _ _ _ _ _ _ _ _ _ _ _ w hA hS hB a1 z1 z2 z3 a4 cF cE (.inr ⟨rfl, rfl, rfl⟩)).mono ?_
      rintro e w' ⟨rfl, B⟩
      exact ⟨dV_of e1 rfl e2l e3 rfl rfl, B⟩
set_option maxHeartbeats 400000 in
theorem join_no (n g : Bool) (c1 c0 x : Int) (w : World)
    (cF : Hid (∀ w, Calls Tryd.prog 19 #[.agg #[.int .u64 c1, .int .u64 c0]] w fun e w' => e = .returned (.bool g) ∧ Below w.heap.size w w'))
    (hg : g = false ∨ (g = true ∧ (decide (x < -6176) = true ∨ (decide (x < -6176) = false ∧ decide (6111 < x) = true)))) :
    Calls Tryd.prog 11 #[.bool n, .agg #[.int .u64 c1, .int .u64 c0], .int .i64 x] w fun e w' => e = .returned (.tuple #[.int .u64 0, .int .u64 0, .bool false]) ∧ Below w.heap.size w w' := by
  rcases hg with rfl | ⟨rfl, g' | ⟨g', g''⟩⟩
  all_goals (
    go_enter Tryd.func11, Tryd.ntmps11
    go_wp2_with fail
    refine (cF.out _).mono ?_
    rintro e w1 ⟨rfl, B1⟩
    have HB := Lib.hid (low_a (Below.refl _ _) B1)
    clear B1 cF
    go_wp2_with fail
    go_ret3
    exact ⟨rfl, HB.out⟩)
set_option maxHeartbeats 400000 in
theorem join_yes (n : Bool) (c1 c0 x y z s H : Int) (w : World)
    (cF : Hid (∀ w, Calls Tryd.prog 19 #[.agg #[.int .u64 c1, .int .u64 c0]] w fun e w' => e = .returned (.bool true) ∧ Below w.heap.size w w'))
    (g' : decide (x < -6176) = false) (g'' : decide (6111 < x) = false)
    (hy : wrap64 (x + 6176) = y) (hy' : IntKind.u64.wrap y = y) (hz : IntKind.u64.wrap (y * 562949953421312) = z) (hs : bits .or .u64 z c1 = s)
    (hH : (n = false ∧ H = s) ∨ (n = true ∧ bits .or .u64 s 9223372036854775808 = H)) :
    Calls Tryd.prog 11 #[.bool n, .agg #[.int .u64 c1, .int .u64 c0], .int .i64 x] w fun e w' => e = .returned (.tuple #[.int .u64 H, .int .u64 c0, .bool true]) ∧ Below w.heap.size w w' := by
  rcases hH with ⟨rfl, rfl⟩ | ⟨rfl, hH⟩
  all_goals (
    go_enter Tryd.func11, Tryd.ntmps11
    go_wp2_with fail
    refine (cF.out _).mono ?_
    rintro e w1 ⟨rfl, B1⟩
    have HB := Lib.hid (low_a (Below.refl _ _) B1)
    obtain ⟨i0, i1⟩ := keep_n B1
    clear B1 cF
    go_wp2_with fail
    go_quiet (fail)
    go_wp2_with fail
    go_ret3
    exact ⟨by first | rfl | (simp; done), by first | exact HB.out | exact HB.out.drew | exact low_drewN HB.out _⟩)
/-- The numbers of a join, one by one, as the program joins them. -/
theorem join_bits {n : Bool} {c : Nat} {x : Int} (j : Joins c x) : ∃ y z s : Int, wrap64 (x + 6176) = y ∧ IntKind.u64.wrap y = y ∧ IntKind.u64.wrap (y * 562949953421312) = z ∧ bits .or .u64 z ((c / 18446744073709551616 : Nat) : Int) = s ∧
    ((n = false ∧ ((dH n c x : Nat) : Int) = s) ∨ (n = true ∧ bits .or .u64 s 9223372036854775808 = ((dH n c x : Nat) : Int))) := by
  obtain ⟨a, b, d⟩ := j
  have h1 := high_lt a
  obtain ⟨k, rfl⟩ : ∃ k : Nat, x = (k : Int) - 6176 := ⟨(x + 6176).toNat, by omega⟩
  have hk : k < 12288 := by omega
  have ek : ((k : Int) - 6176 + 6176).toNat = k := by omega
  obtain ⟨c1, e1⟩ : ∃ c1, c / 18446744073709551616 = c1 := ⟨_, rfl⟩
  rw [e1] at h1
  refine ⟨(k : Int), (k * 562949953421312 : Nat), (k * 562949953421312 + c1 : Nat), ?_, ?_, ?_, ?_, ?_⟩
  · unfold wrap64; omega
  · rw [IntKind.wrap_u64]; omega
  · rw [IntKind.wrap_u64]; omega
  · rw [e1]
    have e := bits_or_u64_nat (k * 562949953421312) c1 (by omega) (by omega)
    have e2 := Nat.two_pow_add_eq_or_of_lt (i := 49) (b := c1) (by omega) k
    rw [show (2 : Nat) ^ 49 = 562949953421312 by decide, Nat.mul_comm] at e2
    rw [← e2] at e
    exact e
  · unfold dH
    rw [ek, e1]
    cases n
    · left; exact ⟨rfl, by simp⟩
    · right
      refine ⟨rfl, ?_⟩
      have e := bits_or_u64_nat (k * 562949953421312 + c1) 9223372036854775808 (by omega) (by decide)
      have e2 := Nat.two_pow_add_eq_or_of_lt (i := 63) (b := k * 562949953421312 + c1) (by omega) 1
      rw [show (2 : Nat) ^ 63 = 9223372036854775808 by decide, Nat.mul_one] at e2
      rw [Nat.or_comm, ← e2, Nat.add_comm 9223372036854775808] at e
      exact e
theorem join_any (n : Bool) (c : Nat) (_hc : c < 340282366920938463463374607431768211456) (x : Int) (_hx : -9223372036854775808 ≤ x ∧ x ≤ 9223372036854775807) (w : World) :
    Calls Tryd.prog 11 #[.bool n, wv c, .int .i64 x] w fun e w' => e = .returned (jV n c x) ∧ Below w.heap.size w w' := by
  have cF := Lib.hid fun w => fits_any c w
  by_cases q : c < 10000000000000000000000000000000000
  · rw [decide_eq_true q] at cF
    by_cases a : x < -6176
    · rw [jV_no (fun j => by have := j.2.1; omega)]
      exact join_no n _ _ _ x w cF (.inr ⟨rfl, .inl (decide_eq_true a)⟩)
    by_cases b : 6111 < x
    · rw [jV_no (fun j => by have := j.2.2; omega)]
      exact join_no n _ _ _ x w cF (.inr ⟨rfl, .inr ⟨decide_eq_false a, decide_eq_true b⟩⟩)
    have j : Joins c x := ⟨q, by omega, by omega⟩
    rw [jV_yes j]
    obtain ⟨y, z, s, h1, h2, h3, h4, h5⟩ := join_bits (n := n) j
    exact join_yes n _ _ x y z s _ w cF (decide_eq_false a) (decide_eq_false b) h1 h2 h3 h4 h5
  · rw [decide_eq_false q] at cF
    rw [jV_no (fun j => q j.1)]
    exact join_no n _ _ _ x w cF (.inl rfl)
end Go.Proofs.YtkkoefiennccoaaDoor
