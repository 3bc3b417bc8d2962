/-
  float64 of any int: a great one stays great; sums and differences of complex numbers with whole parts. No condition beyond what each lemma asks.
-/
import Derived.Test.YtcejbkmmiklhbaaWaveMath
namespace Go.Proofs.Ytcejbkmmiklhbaa
open Ieee

theorem cut_ge (s : Bool) (n d : Nat) (h : d ≤ n.log2) : n / 2 ^ d ≤ Toward.even.cut s n d := by
  unfold Toward.cut
  rw [Nat.min_eq_left (by omega), Nat.one_shiftLeft]
  exact Nat.le_add_right _ _

theorem rung_num {L c b : Nat} (hL : 53 ≤ L) (hc : b ≤ c) : 1076 * b ≤ (L + 1022) * b + c := by
  have h : 1075 * b ≤ (L + 1022) * b := Nat.mul_le_mul_right _ (by omega)
  have e : 1076 * b = 1075 * b + b := by rw [show (1076 : Nat) = 1075 + 1 from rfl, Nat.add_mul, Nat.one_mul]
  rw [e]
  exact Nat.add_le_add h hc
theorem rung_ge {s : Bool} {n : Nat} (h : 9007199254740992 ≤ n) : ∃ r, double.nearest s n 0 = double.word s r ∧ 4845873199050653696 ≤ r ∧ r ≤ 9218868437227405312 := by
  have hn : n ≠ 0 := by omega
  have hL : 53 ≤ n.log2 := (Nat.le_log2 hn).2 h
  have hl := Nat.log2_self_le hn
  obtain ⟨L, e⟩ : ∃ L, n.log2 = L := ⟨_, rfl⟩
  have hlast : max ((0 : Int) + (n.log2 : Int) - (52 : Nat)) (-1074) = ((L - 52 : Nat) : Int) := by rw [e] at hL ⊢; omega
  have hk := cut_ge s n (L - 52) (by omega)
  have hk2 : 4503599627370496 ≤ n / 2 ^ (L - 52) := by
    rw [Nat.le_div_iff_mul_le (Nat.two_pow_pos _)]
    rw [e] at hl
    calc 4503599627370496 * 2 ^ (L - 52) = 2 ^ 52 * 2 ^ (L - 52) := rfl
      _ = 2 ^ L := by rw [← Nat.pow_add]; congr 1; omega
      _ ≤ n := hl
  refine ⟨min ((((L - 52 : Nat) : Int) - (-1074)).toNat * 4503599627370496 + Toward.even.cut s n (L - 52)) 9218868437227405312, ?_, ?_, Nat.min_le_right _ _⟩
  · have h0 : double.nearest s n 0 = (if n = 0 then double.word s 0 else
      let last := max ((0 : Int) + (n.log2 : Int) - (52 : Nat)) (-1074)
      let kept := Toward.even.cut s (n <<< ((0 : Int) - last).toNat) (last - 0).toNat
      double.word s (min ((last - (-1074)).toNat * 4503599627370496 + kept) 9218868437227405312)) := rfl
    rw [h0, if_neg hn]
    simp only [hlast]
    have z1 : ((0 : Int) - ((L - 52 : Nat) : Int)).toNat = 0 := by omega
    have z2 : (((L - 52 : Nat) : Int) - 0).toNat = L - 52 := by omega
    rw [z1, z2, Nat.shiftLeft_zero]
  · obtain ⟨c, hc⟩ : ∃ c, Toward.even.cut s n (L - 52) = c := ⟨_, rfl⟩
    obtain ⟨f, hf⟩ : ∃ f, n / 2 ^ (L - 52) = f := ⟨_, rfl⟩
    rw [hc, hf] at hk
    rw [hf] at hk2
    rw [hc]
    rw [e] at hL
    have z : (((L - 52 : Nat) : Int) - (-1074)).toNat = L + 1022 := by omega
    rw [z]
    have hn2 := rung_num hL (Nat.le_trans hk2 hk)
    exact Nat.le_min.2 ⟨Nat.le_trans (by decide) hn2, by decide⟩

/-- float64 of a great number is great. -/
theorem float_great {n m : Int} (h : 9007199254740992 ≤ n.natAbs) (hw : Whole (floatOfInt .f64 n) m) : 9007199254740992 ≤ m.natAbs := by
  obtain ⟨_, hm⟩ := hw
  have e0 : floatOfInt .f64 n = double.nearest (decide (n < 0)) n.natAbs 0 := rfl
  obtain ⟨r, e1, r1, r2⟩ := rung_ge (s := decide (n < 0)) h
  rw [e0, e1, read_word _ r (by omega)] at hm
  generalize decide (n < 0) = s at hm
  rw [if_neg (by omega)] at hm
  by_cases hr : r < 9218868437227405312
  · rw [if_pos hr] at hm
    obtain ⟨k, hk⟩ : ∃ k : Nat, (-1074 + ((r / 4503599627370496 - 1 : Nat) : Int)) = ((k + 1 : Nat) : Int) := ⟨r / 4503599627370496 - 1076, by omega⟩
    have hf := hm.flat (p := k + 1) (q := 0) (by rw [hk]; simp)
    obtain ⟨e2, _⟩ := num_abs hf
    rw [Nat.pow_zero, Nat.mul_one, Nat.pow_succ] at e2
    rw [← e2]
    have : 1 ≤ 2 ^ k := Nat.one_le_two_pow
    calc 9007199254740992 = 4503599627370496 * (1 * 2) := rfl
      _ ≤ (4503599627370496 + r % 4503599627370496) * (2 ^ k * 2) := Nat.mul_le_mul (by omega) (by omega)
  · rw [if_neg hr, if_pos (by omega)] at hm
    obtain ⟨_, _, _, h0, _⟩ := hm
    cases h0

/-- float64 of a number is fit just if the number is. -/
theorem float_fit {n m : Int} (hw : Whole (floatOfInt .f64 n) m) (hm : Fit m) : n = m := by
  by_cases h : n.natAbs < 9007199254740992
  · exact (whole_of_int n h).one hw
  · have := float_great (by omega) hw
    have := hm.1; have := hm.2
    omega
theorem float_lt (n : Int) : floatOfInt .f64 n < 18446744073709551616 := by
  have := double.write_lt (.number (n < 0) n.natAbs 0)
  have e : 2 ^ double.width = 18446744073709551616 := by decide
  rw [e] at this
  exact this
theorem whole_fit {a : Int} (h : Fit a) : Whole (floatOfInt .f64 a) a := whole_of_int a (by have := h.1; have := h.2; omega)

/-- A sum, a difference of complex numbers. -/
theorem Whole.csum {x y u v : Nat} {a b c d : Int} (ha : Whole x a) (hb : Whole y b) (hc : Whole u c) (hd : Whole v d) (h1 : (a + c).natAbs < 9007199254740992) (h2 : (b + d).natAbs < 9007199254740992) :
    ∃ re im, (∀ {P : Program} {t : TypeId} (w : World), (binOp .add t (.complex .f64 x y) (.complex .f64 u v)).run P w = .ok (.complex .f64 re im) w) ∧ Whole re (a + c) ∧ Whole im (b + d) := by
  obtain ⟨r1, e1, w1⟩ := ha.add hc h1
  obtain ⟨r2, e2, w2⟩ := hb.add hd h2
  exact ⟨r1, r2, fun w => run_complex_sum w .add (.inl rfl) _ _ _ _ _ _ _ _ (by simp [cSumBits, e1, e2]), w1, w2⟩
theorem Whole.cdif {x y u v : Nat} {a b c d : Int} (ha : Whole x a) (hb : Whole y b) (hc : Whole u c) (hd : Whole v d) (h1 : (a - c).natAbs < 9007199254740992) (h2 : (b - d).natAbs < 9007199254740992) :
    ∃ re im, (∀ {P : Program} {t : TypeId} (w : World), (binOp .sub t (.complex .f64 x y) (.complex .f64 u v)).run P w = .ok (.complex .f64 re im) w) ∧ Whole re (a - c) ∧ Whole im (b - d) := by
  obtain ⟨r1, e1, w1⟩ := ha.sub hc h1
  obtain ⟨r2, e2, w2⟩ := hb.sub hd h2
  exact ⟨r1, r2, fun w => run_complex_sum w .sub (.inr rfl) _ _ _ _ _ _ _ _ (by simp [cSumBits, e1, e2]), w1, w2⟩

end Go.Proofs.Ytcejbkmmiklhbaa
