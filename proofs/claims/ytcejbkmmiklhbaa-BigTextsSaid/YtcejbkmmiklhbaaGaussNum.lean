/-
  The bits of a double that is a whole number: what the model's operations give of them, and which bits the program's own test lets through. No condition beyond what each lemma asks.
-/
import Derived.Test.YtcejbkmmiklhbaaGaussMath
namespace Go.Proofs.Ytcejbkmmiklhbaa
open Ieee

/-- The bits b are those of a double that is the whole number n. -/
def Whole (b : Nat) (n : Int) : Prop := b < 18446744073709551616 ∧ Num (double.read b) n

theorem Whole.one {b : Nat} {m n : Int} (h : Whole b m) (k : Whole b n) : m = n := h.2.one k.2
theorem Whole.cast {b : Nat} {m n : Int} (h : Whole b m) (e : m = n) : Whole b n := e ▸ h

theorem word_parts {b : Nat} (h : b < 18446744073709551616) : ∃ s r, r < 9223372036854775808 ∧ b = double.word s r := by
  by_cases hb : b < 9223372036854775808
  · exact ⟨false, b, hb, rfl⟩
  · refine ⟨true, b - 9223372036854775808, by omega, ?_⟩
    show b = 9223372036854775808 + (b - 9223372036854775808)
    omega

theorem neg_word (s : Bool) (r : Nat) (h : r < 9223372036854775808) : Op.negFloat .f64 (double.word s r) = double.word (!s) r := by
  have h0 : Op.negFloat .f64 (double.word s r) = double.word s r ^^^ 2 ^ 63 := rfl
  rw [h0]
  have hm := Nat.xor_mod_two_pow (a := double.word s r) (b := 2 ^ 63) (n := 63)
  have hd := Nat.xor_div_two_pow (a := double.word s r) (b := 2 ^ 63) (n := 63)
  rw [show (2 : Nat) ^ 63 % 2 ^ 63 = 0 by decide, Nat.xor_zero] at hm
  rw [show (2 : Nat) ^ 63 / 2 ^ 63 = 1 by decide] at hd
  generalize double.word s r ^^^ 2 ^ 63 = x at hm hd
  have hp : (2 : Nat) ^ 63 = 9223372036854775808 := by decide
  rw [hp] at hm hd
  cases s
  · have w1 : double.word false r = r := rfl
    have w2 : double.word (!false) r = 9223372036854775808 + r := rfl
    rw [w1] at hm hd
    rw [w2]
    rw [Nat.div_eq_of_lt h, Nat.zero_xor] at hd
    omega
  · have w1 : double.word true r = 9223372036854775808 + r := rfl
    have w2 : double.word (!true) r = r := rfl
    rw [w1] at hm hd
    rw [w2]
    rw [show (9223372036854775808 + r) / 9223372036854775808 = 1 by omega, Nat.xor_self] at hd
    omega

theorem word_lt64 (s : Bool) (r : Nat) (h : r < 9223372036854775808) : double.word s r < 18446744073709551616 := by
  cases s
  · show r < _; omega
  · show 9223372036854775808 + r < _; omega

theorem Whole.neg {b : Nat} {n : Int} (h : Whole b n) : Whole (Op.negFloat .f64 b) (-n) := by
  obtain ⟨hb, hn⟩ := h
  obtain ⟨s, r, hr, rfl⟩ := word_parts hb
  rw [neg_word s r hr]
  refine ⟨word_lt64 _ _ hr, ?_⟩
  have : double.read (double.word (!s) r) = (double.read (double.word s r)).opposite := by
    rw [read_word _ _ hr, read_word _ _ hr]
    repeat' split
    all_goals rfl
  rw [this]
  exact hn.opposite

theorem write_whole {d : Datum} {n : Int} (h : Num d n) (hn : n.natAbs < 9007199254740992) : Whole (double.write d) n := by
  refine ⟨?_, ?_⟩
  · have := double.write_lt d
    simpa [Format.width, double] using this
  · obtain ⟨s, m, i, rfl, hpq⟩ := h
    exact write_num ⟨s, m, i, rfl, hpq⟩ hn

theorem Whole.mul {x y : Nat} {a b : Int} (h : Whole x a) (k : Whole y b) (hn : (a * b).natAbs < 9007199254740992) : ∃ r, floatBits .mul .f64 x y = some r ∧ Whole r (a * b) := by
  obtain ⟨d, e, hd⟩ := h.2.product k.2
  refine ⟨double.write d, ?_, write_whole hd hn⟩
  show ((double.read x).product (double.read y)).map double.write = _
  rw [e]; rfl
theorem Whole.add {x y : Nat} {a b : Int} (h : Whole x a) (k : Whole y b) (hn : (a + b).natAbs < 9007199254740992) : ∃ r, floatBits .add .f64 x y = some r ∧ Whole r (a + b) := by
  obtain ⟨d, e, hd⟩ := h.2.sum k.2
  refine ⟨double.write d, ?_, write_whole hd hn⟩
  show ((double.read x).sum (double.read y)).map double.write = _
  rw [e]; rfl
theorem Whole.sub {x y : Nat} {a b : Int} (h : Whole x a) (k : Whole y b) (hn : (a - b).natAbs < 9007199254740992) : ∃ r, floatBits .sub .f64 x y = some r ∧ Whole r (a - b) := by
  obtain ⟨d, e, hd⟩ := h.2.sum k.2.opposite
  refine ⟨double.write d, ?_, write_whole hd (by rw [← Int.sub_eq_add_neg]; exact hn) |>.cast Int.sub_eq_add_neg.symm⟩
  show ((double.read x).sum (double.read y).opposite).map double.write = _
  rw [e]; rfl

/-- A product of complex numbers. -/
theorem Whole.times {x y u v : Nat} {a b c d : Int} (ha : Whole x a) (hb : Whole y b) (hc : Whole u c) (hd : Whole v d)
    (h1 : (a * c).natAbs < 9007199254740992) (h2 : (b * d).natAbs < 9007199254740992) (h3 : (a * d).natAbs < 9007199254740992) (h4 : (b * c).natAbs < 9007199254740992)
    (h5 : (a * c - b * d).natAbs < 9007199254740992) (h6 : (a * d + b * c).natAbs < 9007199254740992) :
    ∃ re im, cMulBits x y u v = some (re, im) ∧ Whole re (a * c - b * d) ∧ Whole im (a * d + b * c) := by
  obtain ⟨r1, e1, w1⟩ := ha.mul hc h1
  obtain ⟨r2, e2, w2⟩ := hb.mul hd h2
  obtain ⟨r3, e3, w3⟩ := w1.sub w2 h5
  obtain ⟨r4, e4, w4⟩ := ha.mul hd h3
  obtain ⟨r5, e5, w5⟩ := hb.mul hc h4
  obtain ⟨r6, e6, w6⟩ := w4.add w5 h6
  refine ⟨r3, r6, ?_, w3, w6⟩
  simp [cMulBits, e1, e2, e3, e4, e5, e6]

theorem whole_of_int (n : Int) (hn : n.natAbs < 9007199254740992) : Whole (floatOfInt .f64 n) n := by
  refine write_whole (d := .number (n < 0) n.natAbs 0) ⟨_, _, _, rfl, 0, 0, rfl, ?_⟩ hn
  have := sg_neg n (decide (n < 0))
  by_cases h : n = 0
  · subst h; simp [sg]
  · rw [if_neg h] at this; rw [this]

theorem Whole.int {b : Nat} {n : Int} (h : Whole b n) (hn : n.natAbs < 9007199254740992) : floatToIntVal .f64 b .i64 = some n := by
  have e : (FloatKind.f64.decode b).toInt .zero = some n := h.2.toInt
  unfold floatToIntVal
  rw [e]
  have : IntKind.i64.min ≤ n ∧ n ≤ IntKind.i64.max := by
    have e1 : IntKind.i64.min = -9223372036854775808 := by decide
    have e2 : IntKind.i64.max = 9223372036854775807 := by decide
    omega
  show (if IntKind.i64.min ≤ n ∧ n ≤ IntKind.i64.max then some n else none) = some n
  rw [if_pos this]

theorem Whole.order {x y : Nat} {a b : Int} (h : Whole x a) (k : Whole y b) : FloatKind.f64.format.order x y = some (compare a b) := h.2.order k.2

theorem compare_lt {a b : Int} (h : a < b) : compare a b = .lt := by rw [Int.compare_eq_ite_lt, if_pos h]
theorem compare_eq {a b : Int} (h : a = b) : compare a b = .eq := by subst h; rw [Int.compare_eq_ite_lt]; simp
theorem compare_gt {a b : Int} (h : b < a) : compare a b = .gt := by rw [Int.compare_eq_ite_lt, if_neg (by omega), if_pos h]
theorem compare_not_lt {a b : Int} (h : compare a b = .gt ∨ compare a b = .eq) : b ≤ a := by
  rcases Int.lt_trichotomy a b with k | k | k
  · rw [compare_lt k] at h; simp at h
  · omega
  · omega
theorem compare_not_gt {a b : Int} (h : compare a b = .lt ∨ compare a b = .eq) : a ≤ b := by
  rcases Int.lt_trichotomy a b with k | k | k
  · omega
  · omega
  · rw [compare_gt k] at h; simp at h
theorem compare_is_eq {a b : Int} (h : compare a b = .eq) : a = b := by
  have := compare_not_gt (.inr h); have := compare_not_lt (.inr h); omega

/-- x ≥ y, x ≤ y, x == y, as the model reckons them. -/
def geB (x y : Nat) : Bool := FloatKind.f64.format.order x y == some .gt || FloatKind.f64.format.order x y == some .eq
def leB (x y : Nat) : Bool := FloatKind.f64.format.order x y == some .lt || FloatKind.f64.format.order x y == some .eq
def eqB (x y : Nat) : Bool := FloatKind.f64.format.order x y == some .eq

theorem Whole.ge {x y : Nat} {a b : Int} (h : Whole x a) (k : Whole y b) : geB x y = decide (b ≤ a) := by
  unfold geB
  rw [h.order k]
  rcases Int.lt_trichotomy a b with c | c | c
  · rw [compare_lt c]; simp; omega
  · rw [compare_eq c]; simp; omega
  · rw [compare_gt c]; simp; omega
theorem Whole.le {x y : Nat} {a b : Int} (h : Whole x a) (k : Whole y b) : leB x y = decide (a ≤ b) := by
  unfold leB
  rw [h.order k]
  rcases Int.lt_trichotomy a b with c | c | c
  · rw [compare_lt c]; simp; omega
  · rw [compare_eq c]; simp; omega
  · rw [compare_gt c]; simp; omega
theorem Whole.eq {x y : Nat} {a b : Int} (h : Whole x a) (k : Whole y b) : eqB x y = decide (a = b) := by
  unfold eqB
  rw [h.order k]
  rcases Int.lt_trichotomy a b with c | c | c
  · rw [compare_lt c]; simp; omega
  · rw [compare_eq c]; simp; omega
  · rw [compare_gt c]; simp; omega

theorem cut_zero_le (s : Bool) (M D B : Nat) (h : M ≤ B * 2 ^ D) : Toward.zero.cut s M D ≤ B := by
  have e : Toward.zero.cut s M D = M / 2 ^ min D (M.log2 + 2) := by simp [Toward.cut, Nat.one_shiftLeft]
  rw [e]
  by_cases hD : D ≤ M.log2 + 2
  · rw [Nat.min_eq_left hD]
    exact Nat.div_le_of_le_mul (by rw [Nat.mul_comm]; exact h)
  · rw [Nat.min_eq_right (by omega)]
    have : M < 2 ^ (M.log2 + 2) := Nat.lt_trans Nat.lt_log2_self (Nat.pow_lt_pow_right (by decide) (by omega))
    rw [Nat.div_eq_of_lt this]
    omega

/-- What the program's test finds of any bits: it is below the bound, above it, or a number within, cut to t; and it is t just if it is whole. -/
theorem inside_cases {x mb : Nat} {M : Int} (hx : x < 18446744073709551616) (hm : Whole mb M) (h0 : 0 ≤ M) (h1 : M ≤ 4503599627370496) :
    geB x (Op.negFloat .f64 mb) = false ∨ (geB x (Op.negFloat .f64 mb) = true ∧ leB x mb = false) ∨
    (geB x (Op.negFloat .f64 mb) = true ∧ leB x mb = true ∧ ∃ t, floatToIntVal .f64 x .i64 = some t ∧ -M ≤ t ∧ t ≤ M ∧ (eqB x (floatOfInt .f64 t) = true → Whole x t)) := by
  cases hg : geB x (Op.negFloat .f64 mb) with
  | false => exact .inl rfl
  | true =>
    cases hl : leB x mb with
    | false => exact .inr (.inl ⟨rfl, rfl⟩)
    | true =>
      refine .inr (.inr ⟨rfl, rfl, ?_⟩)
      have hmn := hm.neg
      obtain ⟨_, n1⟩ := hm
      obtain ⟨_, n2⟩ := hmn
      obtain ⟨s, m, i, hd⟩ : ∃ s m i, double.read x = .number s m i := by
        cases hr : double.read x with
        | number s m i => exact ⟨s, m, i, rfl⟩
        | nan s f =>
          simp [leB, FloatKind.format, Format.order, hr, Datum.order] at hl
        | infinity s =>
          exfalso
          obtain ⟨s1, m1, i1, r1, _⟩ := n1
          obtain ⟨s2, m2, i2, r2, _⟩ := n2
          cases s
          · simp [leB, FloatKind.format, Format.order, hr, r1, Datum.order] at hl
          · simp [geB, FloatKind.format, Format.order, hr, r2, Datum.order] at hg
      have o1 : FloatKind.f64.format.order x mb = some (compare (sg s m * 2 ^ i.toNat) (M * 2 ^ (-i).toNat)) := by
        show (double.read x).order (double.read mb) = _
        rw [hd]; exact order_num (by omega) n1
      have o2 : FloatKind.f64.format.order x (Op.negFloat .f64 mb) = some (compare (sg s m * 2 ^ i.toNat) (-M * 2 ^ (-i).toNat)) := by
        show (double.read x).order (double.read (Op.negFloat .f64 mb)) = _
        rw [hd]; exact order_num (by omega) n2
      have b1 : sg s m * 2 ^ i.toNat ≤ M * 2 ^ (-i).toNat := compare_not_gt (by simpa [leB, o1] using hl)
      have b2 : -M * 2 ^ (-i).toNat ≤ sg s m * 2 ^ i.toNat := compare_not_lt (by simpa [geB, o2] using hg)
      have hmag : m * 2 ^ i.toNat ≤ M.toNat * 2 ^ (-i).toNat := by
        have e : (sg s m * 2 ^ i.toNat).natAbs = m * 2 ^ i.toNat := by rw [Int.natAbs_mul, sg_abs, Int.natAbs_pow]; rfl
        have e2 : ((M.toNat * 2 ^ (-i).toNat : Nat) : Int) = M * 2 ^ (-i).toNat := by
          rw [Int.natCast_mul, Int.toNat_of_nonneg h0]; simp
        rw [← e]
        rw [Int.neg_mul] at b2
        omega
      have hc := cut_zero_le s _ _ _ hmag
      have ht : (FloatKind.f64.decode x).toInt .zero = some (sg s (Toward.zero.cut s (m * 2 ^ i.toNat) (-i).toNat)) := by
        show (double.read x).toInt .zero = _
        rw [hd]
        simp [Datum.toInt, Datum.integral, Nat.shiftLeft_eq, signed_eq]
      generalize Toward.zero.cut s (m * 2 ^ i.toNat) (-i).toNat = c at hc ht
      have hb : -M ≤ sg s c ∧ sg s c ≤ M := by cases s <;> simp [sg] <;> omega
      refine ⟨sg s c, ?_, hb.1, hb.2, fun heq => ⟨hx, ?_⟩⟩
      · unfold floatToIntVal
        rw [ht]
        have : IntKind.i64.min ≤ sg s c ∧ sg s c ≤ IntKind.i64.max := by
          have e1 : IntKind.i64.min = -9223372036854775808 := by decide
          have e2 : IntKind.i64.max = 9223372036854775807 := by decide
          omega
        show (if IntKind.i64.min ≤ sg s c ∧ sg s c ≤ IntKind.i64.max then some (sg s c) else none) = some (sg s c)
        rw [if_pos this]
      · have hw := whole_of_int (sg s c) (by omega)
        have o3 : FloatKind.f64.format.order x (floatOfInt .f64 (sg s c)) = some (compare (sg s m * 2 ^ i.toNat) (sg s c * 2 ^ (-i).toNat)) := by
          show (double.read x).order (double.read (floatOfInt .f64 (sg s c))) = _
          rw [hd]; exact order_num (by omega) hw.2
        rw [hd]
        exact ⟨s, m, i, rfl, i.toNat, (-i).toNat, by omega, compare_is_eq (by simpa [eqB, o3] using heq)⟩

theorem whole_0 : Whole 0 0 := ⟨by decide, false, 0, -1074, rfl, 0, 1074, by decide, by rw [show sg false 0 = 0 from rfl, Int.zero_mul, Int.zero_mul]⟩
theorem whole_small : Whole 4719772409484279808 33554432 := (whole_of_int 33554432 (by decide)).cast rfl
theorem whole_great : Whole 4841369599423283200 4503599627370496 := (whole_of_int 4503599627370496 (by decide)).cast rfl
theorem whole_1 : Whole 4607182418800017408 1 := (whole_of_int 1 (by decide)).cast rfl
theorem whole_m1 : Whole 13830554455654793216 (-1) := (show floatOfInt .f64 (-1) = 13830554455654793216 by decide +kernel) ▸ whole_of_int (-1) (by decide)

end Go.Proofs.Ytcejbkmmiklhbaa
