/-
  The document's Split: what a pattern tells. For all patterns; no condition.
-/
import Derived.Test.YtemkllnnemadeaaDoorDecMath
import Derived.Laws.Bits64b
namespace Go.Proofs.YtemkllnnemadeaaDoor
open Go.RowKit

theorem in64 {n : Int} (h : -9223372036854775808 ≤ n ∧ n ≤ 9223372036854775807) : wrap64 n = n := by unfold wrap64; omega

theorem results_tmp4 {fn : Func} {t u v x : Tmp} (h : fn.results = #[.tmp t, .tmp u, .tmp v, .tmp x]) (tmps : Array Value) (P : Program) (w : World) :
    (results fn tmps).run P w = .ok (.tuple #[tmps.getD t undef, tmps.getD u undef, tmps.getD v undef, tmps.getD x undef]) w := by
  simp [results, h]

set_option maxHeartbeats 400000 in
theorem split_zero (X A B : Int) (s : Bool) (w : World) (hA : X / 9223372036854775808 = A) (hs : (A == 1) = s) (hB : X / 4503599627370496 = B) (hE : bits .and .u64 B 2047 = 0) (hf : bits .and .u64 X 4503599627370495 = 0) :
    Calls Tryd.prog 19 #[.int .u64 X] w fun e w' => e = .returned (.tuple #[.int .i64 1, .bool s, .int .u64 0, .int .i64 0]) ∧ w' = w := by
  go_enter Tryd.func19, Tryd.ntmps19
  go_wp2_with fail
  (try simp only [Exit.inBlock, Exit.then])
  refine bodyPost_ret (results_tmp4 rfl _ _ _) rfl ?_
  exact ⟨rfl, rfl⟩

set_option maxHeartbeats 400000 in
theorem split_inf (X A B : Int) (s : Bool) (w : World) (hA : X / 9223372036854775808 = A) (hs : (A == 1) = s) (hB : X / 4503599627370496 = B) (hE : bits .and .u64 B 2047 = 2047) (hf : bits .and .u64 X 4503599627370495 = 0) :
    Calls Tryd.prog 19 #[.int .u64 X] w fun e w' => e = .returned (.tuple #[.int .i64 3, .bool s, .int .u64 0, .int .i64 0]) ∧ w' = w := by
  go_enter Tryd.func19, Tryd.ntmps19
  go_wp2_with fail
  (try simp only [Exit.inBlock, Exit.then])
  refine bodyPost_ret (results_tmp4 rfl _ _ _) rfl ?_
  exact ⟨rfl, rfl⟩

set_option maxHeartbeats 400000 in
theorem split_nan (X A B f : Int) (s : Bool) (w : World) (hA : X / 9223372036854775808 = A) (hs : (A == 1) = s) (hB : X / 4503599627370496 = B) (hE : bits .and .u64 B 2047 = 2047) (hf : bits .and .u64 X 4503599627370495 = f) (f0 : (f == 0) = false) :
    Calls Tryd.prog 19 #[.int .u64 X] w fun e w' => e = .returned (.tuple #[.int .i64 4, .bool s, .int .u64 0, .int .i64 0]) ∧ w' = w := by
  go_enter Tryd.func19, Tryd.ntmps19
  go_wp2_with fail
  (try simp only [Exit.inBlock, Exit.then])
  refine bodyPost_ret (results_tmp4 rfl _ _ _) rfl ?_
  exact ⟨rfl, rfl⟩

set_option maxHeartbeats 400000 in
theorem split_low (X A B f : Int) (s : Bool) (w : World) (hA : X / 9223372036854775808 = A) (hs : (A == 1) = s) (hB : X / 4503599627370496 = B) (hE : bits .and .u64 B 2047 = 0) (hf : bits .and .u64 X 4503599627370495 = f) (f0 : (f == 0) = false) :
    Calls Tryd.prog 19 #[.int .u64 X] w fun e w' => e = .returned (.tuple #[.int .i64 2, .bool s, .int .u64 f, .int .i64 (-1074)]) ∧ w' = w := by
  go_enter Tryd.func19, Tryd.ntmps19
  go_wp2_with fail
  (try simp only [Exit.inBlock, Exit.then])
  refine bodyPost_ret (results_tmp4 rfl _ _ _) rfl ?_
  exact ⟨rfl, rfl⟩

set_option maxHeartbeats 400000 in
theorem split_high (X A B E f m e : Int) (s : Bool) (w : World) (hA : X / 9223372036854775808 = A) (hs : (A == 1) = s) (hB : X / 4503599627370496 = B) (hE : bits .and .u64 B 2047 = E) (hf : bits .and .u64 X 4503599627370495 = f)
    (e0 : (E == 0) = false) (e1 : (E == 2047) = false) (e2 : wrap64 E = E) (hm : IntKind.u64.wrap (4503599627370496 + f) = m) (he : wrap64 (E - 1075) = e) :
    Calls Tryd.prog 19 #[.int .u64 X] w fun x w' => x = .returned (.tuple #[.int .i64 2, .bool s, .int .u64 m, .int .i64 e]) ∧ w' = w := by
  go_enter Tryd.func19, Tryd.ntmps19
  go_wp2_with fail
  (try simp only [Exit.inBlock, Exit.then])
  refine bodyPost_ret (results_tmp4 rfl _ _ _) rfl ?_
  exact ⟨by simp [he], rfl⟩

theorem and_2047 (y : Nat) (hy : y < 18446744073709551616) : bits .and .u64 (y : Int) 2047 = ((y % 2048 : Nat) : Int) := by
  have h := bits_and_u64_nat y 2047 hy (by decide)
  rw [show y &&& 2047 = y % 2048 from Nat.and_two_pow_sub_one_eq_mod y 11] at h
  exact h
theorem and_52 (y : Nat) (hy : y < 18446744073709551616) : bits .and .u64 (y : Int) 4503599627370495 = ((y % 4503599627370496 : Nat) : Int) := by
  have h := bits_and_u64_nat y 4503599627370495 hy (by decide)
  rw [show y &&& 4503599627370495 = y % 4503599627370496 from Nat.and_two_pow_sub_one_eq_mod y 52] at h
  exact h


theorem pat_sign (s : Bool) (r : Nat) (hr : r < 9223372036854775808) : ((pat s r : Nat) : Int) / 9223372036854775808 = if s then 1 else 0 := by
  cases s <;> simp [pat] <;> omega
theorem pat_exp (s : Bool) (r : Nat) (hr : r < 9223372036854775808) : pat s r / 4503599627370496 % 2048 = r / 4503599627370496 := by
  cases s <;> simp [pat] <;> omega
theorem pat_frac (s : Bool) (r : Nat) : pat s r % 4503599627370496 = r % 4503599627370496 := by
  cases s <;> simp [pat] <;> omega

theorem tells_zero : kOf 0 = 1 ∧ mOf 0 = 0 ∧ eOf 0 = 0 := ⟨rfl, rfl, rfl⟩
theorem tells_low {r : Nat} (c0 : ¬ r = 0) (c1 : r < 4503599627370496) : kOf r = 2 ∧ mOf r = r ∧ eOf r = -1074 := by
  unfold kOf mOf eOf
  rw [if_neg c0, if_neg c0, if_pos c1, if_pos c1, if_pos (show r < 9218868437227405312 by omega)]
  exact ⟨rfl, rfl, rfl⟩
theorem tells_high {r : Nat} (c1 : ¬ r < 4503599627370496) (c2 : r < 9218868437227405312) : kOf r = 2 ∧ mOf r = 4503599627370496 + r % 4503599627370496 ∧ eOf r = ((r / 4503599627370496 : Nat) : Int) - 1075 := by
  have c0 : ¬ r = 0 := by omega
  unfold kOf mOf eOf
  rw [if_neg c0, if_neg c0, if_neg c1, if_neg c1, if_pos c2, if_pos c2, if_pos c2]
  exact ⟨rfl, rfl, rfl⟩
theorem tells_inf : kOf 9218868437227405312 = 3 ∧ mOf 9218868437227405312 = 0 ∧ eOf 9218868437227405312 = 0 := by decide
theorem tells_nan {r : Nat} (c : 9218868437227405312 < r) : kOf r = 4 ∧ mOf r = 0 ∧ eOf r = 0 := by
  have c0 : ¬ r = 0 := by omega
  have c1 : ¬ r < 4503599627370496 := by omega
  have c2 : ¬ r < 9218868437227405312 := by omega
  have c3 : ¬ r = 9218868437227405312 := by omega
  unfold kOf mOf eOf
  rw [if_neg c0, if_neg c0, if_neg c1, if_neg c1, if_neg c2, if_neg c2, if_neg c2, if_neg c3]
  exact ⟨rfl, rfl, rfl⟩

/-- The document's Split. -/
theorem refSplit_any (s : Bool) (r : Nat) (hr : r < 9223372036854775808) (w : World) :
    Calls Tryd.prog 19 #[.int .u64 ((pat s r : Nat) : Int)] w fun x w' => x = .returned (.tuple #[.int .i64 (kOf r), .bool s, .int .u64 (mOf r : Int), .int .i64 (eOf r)]) ∧ w' = w := by
  have hx := pat_lt (s := s) hr
  have hA : (((pat s r : Nat) : Int) / 9223372036854775808 == 1) = s := by rw [pat_sign s r hr]; cases s <;> rfl
  have h52 := pat_frac s r
  have hE0 := pat_exp s r hr
  generalize pat s r = x at *
  have hB : (x : Int) / 4503599627370496 = ((x / 4503599627370496 : Nat) : Int) := by omega
  have hE := and_2047 (x / 4503599627370496) (by omega)
  rw [hE0] at hE
  have hf := and_52 x hx
  rw [h52] at hf
  clear h52 hE0
  by_cases c1 : r < 4503599627370496
  · rw [show r / 4503599627370496 = 0 by omega] at hE
    rw [show r % 4503599627370496 = r by omega] at hf
    by_cases c2 : r = 0
    · subst c2
      exact split_zero x _ _ s w rfl hA hB hE hf
    · obtain ⟨z1, z2, z3⟩ := tells_low c2 c1
      rw [z1, z2, z3]
      exact split_low x _ _ _ s w rfl hA hB hE hf (by simp; omega)
  · by_cases c2 : r < 9218868437227405312
    · obtain ⟨z1, z2, z3⟩ := tells_high c1 c2
      rw [z1, z2, z3]
      exact split_high x _ _ _ _ _ _ s w rfl hA hB hE hf (by simp only [beq_eq_false_iff_ne]; omega) (by simp only [beq_eq_false_iff_ne]; omega) (in64 (by omega)) (by rw [IntKind.wrap_u64]; omega) (in64 (by omega))
    · rw [show r / 4503599627370496 = 2047 by omega] at hE
      by_cases c3 : r = 9218868437227405312
      · rw [show r % 4503599627370496 = 0 by omega] at hf
        subst c3
        obtain ⟨z1, z2, z3⟩ := tells_inf
        rw [z1, z2, z3]
        exact split_inf x _ _ s w rfl hA hB hE hf
      · obtain ⟨z1, z2, z3⟩ := tells_nan (r := r) (by omega)
        rw [z1, z2, z3]
        exact split_nan x _ _ _ s w rfl hA hB hE hf (by simp only [beq_eq_false_iff_ne]; omega)

end Go.Proofs.YtemkllnnemadeaaDoor
