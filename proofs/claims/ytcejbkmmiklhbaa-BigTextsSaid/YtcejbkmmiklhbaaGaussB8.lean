/-
  gauss's calls Parts, Of, Turn, Times: of whole ones, and of others where the laws ask it. No condition beyond what each contract says.
-/
import Derived.Test.YtcejbkmmiklhbaaGaussA
namespace Go.Proofs.Ytcejbkmmiklhbaa
open Go.RowKit

theorem i64_and3 (n : Int) : bits .and .i64 n 3 = n % 4 := by
  have hn : (BitVec.ofInt 64 n &&& BitVec.ofInt 64 3).toNat = (n % (2 : Int) ^ 64).toNat % 4 := by
    have h3 : (BitVec.ofInt 64 (3 : Int)).toNat = 2 ^ 2 - 1 := by decide
    rw [BitVec.toNat_and, BitVec.toNat_ofInt, h3, Nat.and_two_pow_sub_one_eq_mod]
    norm_cast
  show IntKind.i64.wrap ((BitVec.ofInt 64 n &&& BitVec.ofInt 64 3).toNat : Int) = n % 4
  rw [hn, IntKind.wrap_i64]
  omega

theorem small_mul {a c : Int} (a1 : -33554432 ≤ a) (a2 : a ≤ 33554432) (c1 : -33554432 ≤ c) (c2 : c ≤ 33554432) : -1125899906842624 ≤ a * c ∧ a * c ≤ 1125899906842624 := by
  have h : (a * c).natAbs ≤ 33554432 * 33554432 := by
    rw [Int.natAbs_mul]
    exact Nat.mul_le_mul (by omega) (by omega)
  omega

/-- Within the bound of small ones. -/
def Small (a : Int) : Prop := -33554432 ≤ a ∧ a ≤ 33554432
/-- Within the bound of whole ones. -/
def Great (a : Int) : Prop := -4503599627370496 ≤ a ∧ a ≤ 4503599627370496
theorem Small.great {a : Int} (h : Small a) : Great a := ⟨by have := h.1; omega, by have := h.2; omega⟩

/-- A product of two small ones. -/
theorem Whole.small_times {x y u v : Nat} {a b c d : Int} (ha : Whole x a) (hb : Whole y b) (hc : Whole u c) (hd : Whole v d) (sa : Small a) (sb : Small b) (sc : Small c) (sd : Small d) :
    ∃ re im, cMulBits x y u v = some (re, im) ∧ Whole re (a * c - b * d) ∧ Whole im (a * d + b * c) := by
  have h1 := small_mul sa.1 sa.2 sc.1 sc.2
  have h2 := small_mul sb.1 sb.2 sd.1 sd.2
  have h3 := small_mul sa.1 sa.2 sd.1 sd.2
  have h4 := small_mul sb.1 sb.2 sc.1 sc.2
  exact ha.times hb hc hd (by omega) (by omega) (by omega) (by omega) (by omega) (by omega)
theorem small_product {a b c d : Int} (sa : Small a) (sb : Small b) (sc : Small c) (sd : Small d) : Great (a * c - b * d) ∧ Great (a * d + b * c) := by
  have h1 := small_mul sa.1 sa.2 sc.1 sc.2
  have h2 := small_mul sb.1 sb.2 sd.1 sd.2
  have h3 := small_mul sa.1 sa.2 sd.1 sd.2
  have h4 := small_mul sb.1 sb.2 sc.1 sc.2
  unfold Great
  omega

set_option maxHeartbeats 400000 in
theorem parts_yes {x y : Nat} {a b : Int} (hx : Whole x a) (hy : Whole y b) (ga : Great a) (gb : Great b) (w : World) :
    Calls Try.prog 60 #[.complex .f64 x y] w fun e w' => e = .returned (.tuple #[.int .i64 a, .int .i64 b, .bool true]) ∧ w' = w := by
  have c1 := Lib.hid (within_yes hx hy whole_great (Int.le_refl _) ga.1 ga.2 gb.1 gb.2)
  have i1 : ∀ w, (convert 90 3 (.float .f64 x)).run Try.prog w = .ok (.int .i64 a) w := fun w => run_convert_float_int w _ _ _ _ _ _ (by kernel_rfl) (by kernel_rfl) (hx.int (by have := ga.1; have := ga.2; omega))
  have i2 : ∀ w, (convert 90 3 (.float .f64 y)).run Try.prog w = .ok (.int .i64 b) w := fun w => run_convert_float_int w _ _ _ _ _ _ (by kernel_rfl) (by kernel_rfl) (hy.int (by have := gb.1; have := gb.2; omega))
  clear hx hy ga gb
  go_enter Try.func60, Try.ntmps60
  go_wp2_with fail
  refine (c1.out _).mono ?_
  rintro e w1 ⟨rfl, hw⟩; subst w1
  go_wp2_with fail
  go_ret3
  exact ⟨rfl, rfl⟩

set_option maxHeartbeats 400000 in
theorem parts_no {x y : Nat} (hx : x < 18446744073709551616) (hy : y < 18446744073709551616) (hn : ∀ m n, Whole x m → Great m → Whole y n → Great n → False) (w : World) :
    Calls Try.prog 60 #[.complex .f64 x y] w fun e w' => e = .returned (.tuple #[.int .i64 0, .int .i64 0, .bool false]) ∧ w' = w := by
  have c1 := Lib.hid (within_no hx hy whole_great (by decide) (Int.le_refl _) (fun m n h1 h2 h3 h4 h5 h6 => hn m n h1 ⟨h2, h3⟩ h4 ⟨h5, h6⟩))
  clear hx hy hn
  go_enter Try.func60, Try.ntmps60
  go_wp2_with fail
  refine (c1.out _).mono ?_
  rintro e w1 ⟨rfl, hw⟩; subst w1
  go_wp2_with fail
  go_ret3
  exact ⟨rfl, rfl⟩

set_option maxHeartbeats 400000 in
theorem of_small {a b : Int} (sa : Small a) (sb : Small b) (w : World) :
    Calls Try.prog 62 #[.int .i64 a, .int .i64 b] w fun e w' => e = .returned (.complex .f64 (floatOfInt .f64 a) (floatOfInt .f64 b)) ∧ w' = w := by
  obtain ⟨a1, a2⟩ := sa
  obtain ⟨b1, b2⟩ := sb
  have t1 : decide (a < -33554432) = false := by simp; omega
  have t2 : decide (33554432 < a) = false := by simp; omega
  have t3 : decide (b < -33554432) = false := by simp; omega
  have t4 : decide (33554432 < b) = false := by simp; omega
  go_enter Try.func62, Try.ntmps62
  go_wp2
  go_ret
  exact ⟨rfl, rfl⟩

set_option maxHeartbeats 400000 in
theorem of_else {a b : Int} (h : ¬ (Small a ∧ Small b)) (w : World) :
    Calls Try.prog 62 #[.int .i64 a, .int .i64 b] w fun e w' => e = .returned (.complex .f64 0 0) ∧ w' = w := by
  unfold Small at h
  rcases (show a < -33554432 ∨ (¬ a < -33554432 ∧ 33554432 < a) ∨ (¬ a < -33554432 ∧ ¬ 33554432 < a ∧ b < -33554432) ∨ (¬ a < -33554432 ∧ ¬ 33554432 < a ∧ ¬ b < -33554432 ∧ 33554432 < b) by omega) with k | ⟨k, k2⟩ | ⟨k, k2, k3⟩ | ⟨k, k2, k3, k4⟩
  · have t1 : decide (a < -33554432) = true := by simpa using k
    go_enter Try.func62, Try.ntmps62
    go_wp2
    go_ret
    exact ⟨rfl, rfl⟩
  · have t1 : decide (a < -33554432) = false := by simpa using k
    have t2 : decide (33554432 < a) = true := by simpa using k2
    go_enter Try.func62, Try.ntmps62
    go_wp2
    go_ret
    exact ⟨rfl, rfl⟩
  · have t1 : decide (a < -33554432) = false := by simpa using k
    have t2 : decide (33554432 < a) = false := by simpa using k2
    have t3 : decide (b < -33554432) = true := by simpa using k3
    go_enter Try.func62, Try.ntmps62
    go_wp2
    go_ret
    exact ⟨rfl, rfl⟩
  · have t1 : decide (a < -33554432) = false := by simpa using k
    have t2 : decide (33554432 < a) = false := by simpa using k2
    have t3 : decide (b < -33554432) = false := by simpa using k3
    have t4 : decide (33554432 < b) = true := by simpa using k4
    go_enter Try.func62, Try.ntmps62
    go_wp2
    go_ret
    exact ⟨rfl, rfl⟩

set_option maxHeartbeats 400000 in
theorem times_walk {x y u v re im : Nat} {a b c d : Int} (ha : Whole x a) (hb : Whole y b) (hc : Whole u c) (hd : Whole v d) (sa : Small a) (sb : Small b) (sc : Small c) (sd : Small d)
    (h : cMulBits x y u v = some (re, im)) (w : World) :
    Calls Try.prog 61 #[.complex .f64 x y, .complex .f64 u v] w fun e w' => e = .returned (.complex .f64 re im) ∧ w' = w := by
  have c1 := Lib.hid (within_yes ha hb whole_small (by decide) sa.1 sa.2 sb.1 sb.2)
  have c2 := Lib.hid (within_yes hc hd whole_small (by decide) sc.1 sc.2 sd.1 sd.2)
  have hm : ∀ w, (binOp .mul 75 (.complex .f64 x y) (.complex .f64 u v)).run Try.prog w = .ok (.complex .f64 re im) w := fun w => run_complex_mul w _ _ _ _ _ _ _ h
  clear ha hb hc hd sa sb sc sd h
  go_enter Try.func61, Try.ntmps61
  go_wp2_with fail
  refine (c1.out _).mono ?_
  rintro e w1 ⟨rfl, hw⟩; subst w1
  go_wp2_with fail
  refine (c2.out _).mono ?_
  rintro e w1 ⟨rfl, hw⟩; subst w1
  go_wp2_with fail
  go_ret
  exact ⟨rfl, rfl⟩

/-- Times, of small ones. -/
theorem times_any {x y u v : Nat} {a b c d : Int} (ha : Whole x a) (hb : Whole y b) (hc : Whole u c) (hd : Whole v d) (sa : Small a) (sb : Small b) (sc : Small c) (sd : Small d) :
    ∃ re im, (∀ w, Calls Try.prog 61 #[.complex .f64 x y, .complex .f64 u v] w fun e w' => e = .returned (.complex .f64 re im) ∧ w' = w) ∧ Whole re (a * c - b * d) ∧ Whole im (a * d + b * c) := by
  obtain ⟨re, im, h, h1, h2⟩ := ha.small_times hb hc hd sa sb sc sd
  exact ⟨re, im, times_walk ha hb hc hd sa sb sc sd h, h1, h2⟩

theorem Small.neg {a : Int} (h : Small a) : Small (-a) := ⟨by have := h.2; omega, by have := h.1; omega⟩

/-- A part, turned by r quarters. -/
def turnRe (r a b : Int) : Int := if r = 1 then -b else if r = 2 then -a else if r = 3 then b else a
def turnIm (r a b : Int) : Int := if r = 1 then a else if r = 2 then -b else if r = 3 then -a else b

set_option maxHeartbeats 400000 in
theorem turn_walk0 {x y : Nat} {a b k : Int} (ha : Whole x a) (hb : Whole y b) (ga : Great a) (gb : Great b) (hk : bits .and .i64 k 3 = 0) (w : World) :
    Calls Try.prog 69 #[.complex .f64 x y, .int .i64 k] w fun e w' => e = .returned (.complex .f64 x y) ∧ w' = w := by
  have c1 := Lib.hid (within_yes ha hb whole_great (Int.le_refl _) ga.1 ga.2 gb.1 gb.2)
  clear ha hb ga gb
  go_enter Try.func69, Try.ntmps69
  go_wp2_with fail
  refine (c1.out _).mono ?_
  rintro e w1 ⟨rfl, hw⟩; subst w1
  go_wp2_with fail
  go_ret
  exact ⟨rfl, rfl⟩

set_option maxHeartbeats 400000 in
theorem turn_walk2 {x y : Nat} {a b k : Int} (ha : Whole x a) (hb : Whole y b) (ga : Great a) (gb : Great b) (hk : bits .and .i64 k 3 = 2) (w : World) :
    Calls Try.prog 69 #[.complex .f64 x y, .int .i64 k] w fun e w' => e = .returned (.complex .f64 (Op.negFloat .f64 x) (Op.negFloat .f64 y)) ∧ w' = w := by
  have c1 := Lib.hid (within_yes ha hb whole_great (Int.le_refl _) ga.1 ga.2 gb.1 gb.2)
  have hm := run_neg_complex (P := Try.prog) .f64 x y
  clear ha hb ga gb
  go_enter Try.func69, Try.ntmps69
  go_wp2_with fail
  refine (c1.out _).mono ?_
  rintro e w1 ⟨rfl, hw⟩; subst w1
  go_wp2_with fail
  go_ret
  exact ⟨rfl, rfl⟩

set_option maxHeartbeats 400000 in
theorem turn_walk1 {x y re im : Nat} {a b k : Int} (ha : Whole x a) (hb : Whole y b) (ga : Great a) (gb : Great b) (hk : bits .and .i64 k 3 = 1) (h : cMulBits x y 0 4607182418800017408 = some (re, im)) (w : World) :
    Calls Try.prog 69 #[.complex .f64 x y, .int .i64 k] w fun e w' => e = .returned (.complex .f64 re im) ∧ w' = w := by
  have c1 := Lib.hid (within_yes ha hb whole_great (Int.le_refl _) ga.1 ga.2 gb.1 gb.2)
  have hm : ∀ w, (binOp .mul 75 (.complex .f64 x y) (.complex .f64 0 4607182418800017408)).run Try.prog w = .ok (.complex .f64 re im) w := fun w => run_complex_mul w _ _ _ _ _ _ _ h
  clear ha hb ga gb h
  go_enter Try.func69, Try.ntmps69
  go_wp2_with fail
  refine (c1.out _).mono ?_
  rintro e w1 ⟨rfl, hw⟩; subst w1
  go_wp2_with fail
  go_ret
  exact ⟨rfl, rfl⟩

set_option maxHeartbeats 400000 in
theorem turn_walk3 {x y re im : Nat} {a b k : Int} (ha : Whole x a) (hb : Whole y b) (ga : Great a) (gb : Great b) (hk : bits .and .i64 k 3 = 3) (h : cMulBits x y 0 13830554455654793216 = some (re, im)) (w : World) :
    Calls Try.prog 69 #[.complex .f64 x y, .int .i64 k] w fun e w' => e = .returned (.complex .f64 re im) ∧ w' = w := by
  have c1 := Lib.hid (within_yes ha hb whole_great (Int.le_refl _) ga.1 ga.2 gb.1 gb.2)
  have hm : ∀ w, (binOp .mul 75 (.complex .f64 x y) (.complex .f64 0 13830554455654793216)).run Try.prog w = .ok (.complex .f64 re im) w := fun w => run_complex_mul w _ _ _ _ _ _ _ h
  clear ha hb ga gb h
  go_enter Try.func69, Try.ntmps69
  go_wp2_with fail
  refine (c1.out _).mono ?_
  rintro e w1 ⟨rfl, hw⟩; subst w1
  go_wp2_with fail
  go_ret
  exact ⟨rfl, rfl⟩

/-- Turn, of a whole one. -/
theorem turn_any {x y : Nat} {a b : Int} (k : Int) (ha : Whole x a) (hb : Whole y b) (ga : Great a) (gb : Great b) :
    ∃ re im, (∀ w, Calls Try.prog 69 #[.complex .f64 x y, .int .i64 k] w fun e w' => e = .returned (.complex .f64 re im) ∧ w' = w) ∧ Whole re (turnRe (k % 4) a b) ∧ Whole im (turnIm (k % 4) a b) := by
  have hk := i64_and3 k
  obtain ⟨a1, a2⟩ := id ga
  obtain ⟨b1, b2⟩ := id gb
  rcases (show k % 4 = 0 ∨ k % 4 = 1 ∨ k % 4 = 2 ∨ k % 4 = 3 by omega) with h | h | h | h
  · rw [h] at hk ⊢
    exact ⟨x, y, turn_walk0 ha hb ga gb hk, ha, hb⟩
  · rw [h] at hk ⊢
    obtain ⟨re, im, hm, h1, h2⟩ := ha.times hb whole_0 whole_1 (by simp) (by simp; omega) (by simp; omega) (by simp) (by simp; omega) (by simp; omega)
    exact ⟨re, im, turn_walk1 ha hb ga gb hk hm, h1.cast (by simp [turnRe]), h2.cast (by simp [turnIm])⟩
  · rw [h] at hk ⊢
    exact ⟨_, _, turn_walk2 ha hb ga gb hk, ha.neg, hb.neg⟩
  · rw [h] at hk ⊢
    obtain ⟨re, im, hm, h1, h2⟩ := ha.times hb whole_0 whole_m1 (by simp) (by simp [Int.mul_neg]; omega) (by simp [Int.mul_neg]; omega) (by simp) (by simp [Int.mul_neg]; omega) (by simp [Int.mul_neg]; omega)
    exact ⟨re, im, turn_walk3 ha hb ga gb hk hm, h1.cast (by simp [turnRe, Int.mul_neg]), h2.cast (by simp [turnIm, Int.mul_neg])⟩

end Go.Proofs.Ytcejbkmmiklhbaa
