/-
  The document's Split: what a pattern tells. For all patterns; no condition.
-/
import Derived.Test.YtkgejbjpdkilkaaGaussC
import Derived.Laws.Bits64b
namespace Go.Proofs.Ytkgejbjpdkilkaa
open Go.RowKit

theorem results_tmp4 {fn : Func} {t u v x : Tmp} (h : fn.results = #[.tmp t, .tmp u, .tmp v, .tmp x]) (tmps : Array Value) (P : Program) (w : World) :
    (results fn tmps).run P w = .ok (.tuple #[tmps.getD t undef, tmps.getD u undef, tmps.getD v undef, tmps.getD x undef]) w := by
  simp [results, h]

set_option maxHeartbeats 400000 in
theorem split_zero (X A B : Int) (s : Bool) (w : World) (hA : X / 9223372036854775808 = A) (hs : (A == 1) = s) (hB : X / 4503599627370496 = B) (hE : bits .and .u64 B 2047 = 0) (hf : bits .and .u64 X 4503599627370495 = 0) :
    Calls Try.prog 21 #[.int .u64 X] w fun e w' => e = .returned (.tuple #[.int .i64 1, .bool s, .int .u64 0, .int .i64 0]) ∧ w' = w := by
  go_enter Try.func21, Try.ntmps21
  go_wp2_with fail
  (try simp only [Exit.inBlock, Exit.then])
  refine bodyPost_ret (results_tmp4 rfl _ _ _) rfl ?_
  exact ⟨rfl, rfl⟩

set_option maxHeartbeats 400000 in
theorem split_inf (X A B : Int) (s : Bool) (w : World) (hA : X / 9223372036854775808 = A) (hs : (A == 1) = s) (hB : X / 4503599627370496 = B) (hE : bits .and .u64 B 2047 = 2047) (hf : bits .and .u64 X 4503599627370495 = 0) :
    Calls Try.prog 21 #[.int .u64 X] w fun e w' => e = .returned (.tuple #[.int .i64 3, .bool s, .int .u64 0, .int .i64 0]) ∧ w' = w := by
  go_enter Try.func21, Try.ntmps21
  go_wp2_with fail
  (try simp only [Exit.inBlock, Exit.then])
  refine bodyPost_ret (results_tmp4 rfl _ _ _) rfl ?_
  exact ⟨rfl, rfl⟩

set_option maxHeartbeats 400000 in
theorem split_nan (X A B f : Int) (s : Bool) (w : World) (hA : X / 9223372036854775808 = A) (hs : (A == 1) = s) (hB : X / 4503599627370496 = B) (hE : bits .and .u64 B 2047 = 2047) (hf : bits .and .u64 X 4503599627370495 = f) (f0 : (f == 0) = false) :
    Calls Try.prog 21 #[.int .u64 X] w fun e w' => e = .returned (.tuple #[.int .i64 4, .bool s, .int .u64 0, .int .i64 0]) ∧ w' = w := by
  go_enter Try.func21, Try.ntmps21
  go_wp2_with fail
  (try simp only [Exit.inBlock, Exit.then])
  refine bodyPost_ret (results_tmp4 rfl _ _ _) rfl ?_
  exact ⟨rfl, rfl⟩

set_option maxHeartbeats 400000 in
theorem split_low (X A B f : Int) (s : Bool) (w : World) (hA : X / 9223372036854775808 = A) (hs : (A == 1) = s) (hB : X / 4503599627370496 = B) (hE : bits .and .u64 B 2047 = 0) (hf : bits .and .u64 X 4503599627370495 = f) (f0 : (f == 0) = false) :
    Calls Try.prog 21 #[.int .u64 X] w fun e w' => e = .returned (.tuple #[.int .i64 2, .bool s, .int .u64 f, .int .i64 (-1074)]) ∧ w' = w := by
  go_enter Try.func21, Try.ntmps21
  go_wp2_with fail
  (try simp only [Exit.inBlock, Exit.then])
  refine bodyPost_ret (results_tmp4 rfl _ _ _) rfl ?_
  exact ⟨rfl, rfl⟩

set_option maxHeartbeats 400000 in
theorem split_high (X A B E f m e : Int) (s : Bool) (w : World) (hA : X / 9223372036854775808 = A) (hs : (A == 1) = s) (hB : X / 4503599627370496 = B) (hE : bits .and .u64 B 2047 = E) (hf : bits .and .u64 X 4503599627370495 = f)
    (e0 : (E == 0) = false) (e1 : (E == 2047) = false) (e2 : wrap64 E = E) (hm : IntKind.u64.wrap (4503599627370496 + f) = m) (he : wrap64 (E - 1075) = e) :
    Calls Try.prog 21 #[.int .u64 X] w fun x w' => x = .returned (.tuple #[.int .i64 2, .bool s, .int .u64 m, .int .i64 e]) ∧ w' = w := by
  go_enter Try.func21, Try.ntmps21
  go_wp2_with fail
  (try simp only [Exit.inBlock, Exit.then])
  refine bodyPost_ret (results_tmp4 rfl _ _ _) rfl ?_
  exact ⟨by simp [he], rfl⟩

theorem and_2047 (y : Nat) (hy : y < 18446744073709551616) : bits .and .u64 (y : Int) 2047 = ((y % 2048 : Nat) : Int) := by
  have h := bits_and_u64_nat y 2047 hy (by decide)
  rw [show y &&& 2047 = y % 2048 from Nat.and_two_pow_sub_one_eq_mod y 11] at h
  exact h
theorem and_52 (y : Nat) (hy : y < 18446744073709551616) : bits .and .u64 (y : Int) 4503599627370495 = ((y % 4503599627370496 : Nat) : Int) := by
  have h := bits_and_u64_nat y 4503599627370495 hy (by decide)
  rw [show y &&& 4503599627370495 = y % 4503599627370496 from Nat.and_two_pow_sub_one_eq_mod y 52] at h
  exact h

/-- What Split tells of a pattern: nought, a number, or neither. -/
def Tells (x : Nat) (k : Int) (s : Bool) (m : Nat) (e : Int) : Prop :=
  (k = 1 ∧ Num (Ieee.double.read x) 0) ∨ (k = 2 ∧ Ieee.double.read x = .number s m e ∧ 0 < m ∧ m < 9007199254740992 ∧ -1074 ≤ e ∧ e ≤ 971 ∧ (-1074 < e → 4503599627370496 ≤ m)) ∨ ((k = 3 ∨ k = 4) ∧ ∀ n, ¬ Num (Ieee.double.read x) n)

theorem split_any (x : Nat) (hx : x < 18446744073709551616) : ∃ (k : Int) (s : Bool) (m : Nat) (e : Int), (∀ w, Calls Try.prog 21 #[.int .u64 (x : Int)] w fun r w' => r = .returned (.tuple #[.int .i64 k, .bool s, .int .u64 (m : Int), .int .i64 e]) ∧ w' = w) ∧ Tells x k s m e := by
  obtain ⟨s, r, hr, hw⟩ := word_parts hx
  have hd := read_word s r hr
  rw [← hw] at hd
  have hx2 : x = if s then 9223372036854775808 + r else r := hw
  have hA : ((x : Int) / 9223372036854775808 == 1) = s := by
    cases s
    · simp only [Bool.false_eq_true, if_false] at hx2
      simp only [beq_eq_false_iff_ne]; omega
    · simp only [if_true] at hx2
      simp only [beq_iff_eq]; omega
  have h52 : x % 4503599627370496 = r % 4503599627370496 := by
    cases s
    · simp only [Bool.false_eq_true, if_false] at hx2; omega
    · simp only [if_true] at hx2; omega
  have hE0 : x / 4503599627370496 % 2048 = r / 4503599627370496 := by
    cases s
    · simp only [Bool.false_eq_true, if_false] at hx2; omega
    · simp only [if_true] at hx2; omega
  have hB : (x : Int) / 4503599627370496 = ((x / 4503599627370496 : Nat) : Int) := by omega
  have hE := and_2047 (x / 4503599627370496) (by omega)
  rw [hE0] at hE
  have hf := and_52 x hx
  rw [h52] at hf
  clear hw hx2 h52 hE0
  by_cases c1 : r < 4503599627370496
  · rw [if_pos c1] at hd
    rw [show r / 4503599627370496 = 0 by omega] at hE
    rw [show r % 4503599627370496 = r by omega] at hf
    by_cases c2 : r = 0
    · subst c2
      refine ⟨1, s, 0, 0, fun w => split_zero x _ _ s w rfl hA hB hE hf, .inl ⟨rfl, ?_⟩⟩
      rw [hd]
      exact ⟨s, 0, -1074, rfl, 0, 1074, by decide, by rw [show sg s 0 = 0 by cases s <;> rfl, Int.zero_mul, Int.zero_mul]⟩
    · exact ⟨2, s, r, -1074, fun w => split_low x _ _ _ s w rfl hA hB hE hf (by simp; omega), .inr (.inl ⟨rfl, hd, by omega, by omega, by omega, by omega, by omega⟩)⟩
  · rw [if_neg c1] at hd
    by_cases c2 : r < 9218868437227405312
    · rw [if_pos c2] at hd
      have e1 : (-1074 + ((r / 4503599627370496 - 1 : Nat) : Int)) = ((r / 4503599627370496 : Nat) : Int) - 1075 := by omega
      rw [e1] at hd
      refine ⟨2, s, _, _, fun w => split_high x _ _ _ _ _ _ s w rfl hA hB hE hf (by simp only [beq_eq_false_iff_ne]; omega) (by simp only [beq_eq_false_iff_ne]; omega) (in64 (by omega)) (by rw [IntKind.wrap_u64]; omega) (in64 (by omega)), .inr (.inl ⟨rfl, hd, ?_⟩)⟩
      omega
    · rw [if_neg c2] at hd
      rw [show r / 4503599627370496 = 2047 by omega] at hE
      by_cases c3 : r = 9218868437227405312
      · rw [if_pos c3] at hd
        rw [show r % 4503599627370496 = 0 by omega] at hf
        refine ⟨3, s, 0, 0, fun w => split_inf x _ _ s w rfl hA hB hE hf, .inr (.inr ⟨.inl rfl, ?_⟩)⟩
        rintro n ⟨_, _, _, h, _⟩
        rw [hd] at h; cases h
      · rw [if_neg c3] at hd
        refine ⟨4, s, 0, 0, fun w => split_nan x _ _ _ s w rfl hA hB hE hf (by simp only [beq_eq_false_iff_ne]; omega), .inr (.inr ⟨.inr rfl, ?_⟩)⟩
        rintro n ⟨_, _, _, h, _⟩
        rw [hd] at h; cases h

end Go.Proofs.Ytkgejbjpdkilkaa
