/-
  Doubles that are whole numbers, without rounding: sums, products, order, to a whole number and back; pure, over the model's own floats. No condition beyond what each lemma asks.
  The bits of a double that is a whole number: what the model's operations give of them, and which bits the program's own test lets through. No condition beyond what each lemma asks.
  gauss's tests: is a double whole and within a bound? is a number? For all bits; no condition beyond what each contract says.
  gauss's calls Parts, Of, Turn, Times: of whole ones, and of others where the laws ask it. No condition beyond what each contract says.
-/
import Derived.Test.YtojpfmlmalmlcaaGreatDoorBase
import Derived.Laws.ComplexArith
namespace Go.Proofs.YtojpfmlmalmlcaaGreatDoor.G
open Ieee
/-- A number with a sign. -/
def sg (s : Bool) (m : Nat) : Int := if s then -(m : Int) else (m : Int)
theorem signed_eq (s : Bool) (m k : Nat) : signed s m k = sg s m * 2 ^ k := by
  cases s <;> simp [signed, sg, Nat.shiftLeft_eq, Int.neg_mul]
theorem sg_not (s : Bool) (m : Nat) : sg (!s) m = -sg s m := by cases s <;> simp [sg]
theorem sg_mul (s t : Bool) (m n : Nat) : sg (s ^^ t) (m * n) = sg s m * sg t n := by cases s <;> cases t <;> simp [sg, Int.neg_mul, Int.mul_neg]
theorem sg_scale (s : Bool) (m k : Nat) : sg s (m * k) = sg s m * (k : Int) := by cases s <;> simp [sg, Int.neg_mul]
theorem sg_abs (s : Bool) (m : Nat) : (sg s m).natAbs = m := by cases s <;> simp [sg]
theorem sg_neg (t : Int) (c : Bool) : sg (if t = 0 then c else decide (t < 0)) t.natAbs = t := by
  by_cases h : t = 0
  · subst h; cases c <;> simp [sg]
  · by_cases h2 : t < 0
    · simp only [h, if_false, h2, decide_true, sg, if_true]; omega
    · simp only [h, if_false, h2, decide_false, sg, Bool.false_eq_true]; omega
theorem pow_pos2 (k : Nat) : (0 : Int) < 2 ^ k := Int.pow_pos (by decide)
/-- d stands for the whole number n. -/
def Num (d : Datum) (n : Int) : Prop := ∃ s m i, d = .number s m i ∧ ∃ p q : Nat, (p : Int) - q = i ∧ sg s m * 2 ^ p = n * 2 ^ q
theorem cancel_pow {a b : Int} (k : Nat) (h : a * 2 ^ k = b * 2 ^ k) : a = b := Int.eq_of_mul_eq_mul_right (by have := pow_pos2 k; omega) h
theorem Num.flat {s : Bool} {m : Nat} {i n : Int} (h : Num (.number s m i) n) {p q : Nat} (e : (p : Int) - q = i) : sg s m * 2 ^ p = n * 2 ^ q := by
  obtain ⟨_, _, _, e0, p', q', e', h'⟩ := h
  cases e0
  refine cancel_pow q' ?_
  have e1 : (2 : Int) ^ p * 2 ^ q' = 2 ^ p' * 2 ^ q := by rw [← Int.pow_add, ← Int.pow_add]; congr 1; omega
  rw [Int.mul_assoc, e1, ← Int.mul_assoc, h']
  grind
theorem Num.one {d : Datum} {a b : Int} (h : Num d a) (k : Num d b) : a = b := by
  obtain ⟨s, m, i, rfl, p, q, e, h⟩ := h
  have := k.flat e
  exact cancel_pow q (h.symm.trans this)
theorem Num.opposite {d : Datum} {n : Int} (h : Num d n) : Num d.opposite (-n) := by
  obtain ⟨s, m, i, rfl, p, q, e, h⟩ := h
  refine ⟨_, _, _, rfl, p, q, e, ?_⟩
  rw [sg_not, Int.neg_mul, h, Int.neg_mul]
theorem Num.product {d e : Datum} {a b : Int} (h : Num d a) (k : Num e b) : ∃ r, d.product e = some r ∧ Num r (a * b) := by
  obtain ⟨s, m, i, rfl, p, q, e1, h⟩ := h
  obtain ⟨t, n, j, rfl, p', q', e2, k⟩ := k
  refine ⟨_, rfl, _, _, _, rfl, p + p', q + q', by omega, ?_⟩
  rw [sg_mul, Int.pow_add, Int.pow_add]
  grind
/-- Two places brought to one. -/
theorem common {i j : Int} {p q p' q' : Nat} (e1 : (p : Int) - q = i) (e2 : (p' : Int) - q' = j) : ∃ P : Nat, (P : Int) - (q + q' : Nat) = min i j ∧ (i - min i j).toNat + P = p + q' ∧ (j - min i j).toNat + P = p' + q := by
  by_cases h : i ≤ j
  · refine ⟨p + q', ?_, ?_, ?_⟩ <;> rw [Int.min_eq_left h] <;> omega
  · refine ⟨p' + q, ?_, ?_, ?_⟩ <;> rw [Int.min_eq_right (by omega)] <;> omega
theorem Num.sum {d e : Datum} {a b : Int} (h : Num d a) (k : Num e b) : ∃ r, d.sum e = some r ∧ Num r (a + b) := by
  obtain ⟨s, m, i, rfl, p, q, e1, h⟩ := h
  obtain ⟨t, n, j, rfl, p', q', e2, k⟩ := k
  obtain ⟨P, c1, c2, c3⟩ := common e1 e2
  refine ⟨_, rfl, _, _, _, rfl, P, q + q', c1, ?_⟩
  rw [sg_neg, signed_eq, signed_eq, Int.add_mul, Int.mul_assoc, Int.mul_assoc, ← Int.pow_add, ← Int.pow_add, c2, c3, Int.pow_add, Int.pow_add, Int.pow_add]
  grind
set_option maxRecDepth 100000 in
/-- How a number stands to a whole one. -/
theorem order_num {s : Bool} {m : Nat} {i : Int} {p q : Nat} (e1 : (p : Int) - q = i) {e : Datum} {b : Int} (k : Num e b) : (Datum.number s m i).order e = some (compare (sg s m * 2 ^ p) (b * 2 ^ q)) := by
  obtain ⟨t, n, j, rfl, p', q', e2, k⟩ := k
  obtain ⟨P, c1, c2, c3⟩ := common e1 e2
  have hx : signed s m (i - min i j).toNat * 2 ^ P = sg s m * 2 ^ p * 2 ^ q' := by rw [signed_eq, Int.mul_assoc, ← Int.pow_add, c2, Int.pow_add]; grind
  have hy : signed t n (j - min i j).toNat * 2 ^ P = b * 2 ^ q * 2 ^ q' := by rw [signed_eq, Int.mul_assoc, ← Int.pow_add, c3, Int.pow_add]; grind
  have P0 := pow_pos2 P
  have Q0 := pow_pos2 q'
  show some (compare (signed s m (i - min i j).toNat) (signed t n (j - min i j).toNat)) = _
  congr 1
  generalize signed s m (i - min i j).toNat = x at hx
  generalize signed t n (j - min i j).toNat = y at hy
  generalize sg s m * 2 ^ p = u at hx
  generalize b * 2 ^ q = v at hy
  rw [Int.compare_eq_ite_lt, Int.compare_eq_ite_lt]
  have h1 : x < y ↔ u < v := by
    rw [← Int.mul_lt_mul_right P0, hx, hy, Int.mul_lt_mul_right Q0]
  have h2 : y < x ↔ v < u := by
    rw [← Int.mul_lt_mul_right P0, hx, hy, Int.mul_lt_mul_right Q0]
  simp only [h1, h2]
set_option maxRecDepth 100000 in
theorem Num.order {d e : Datum} {a b : Int} (h : Num d a) (k : Num e b) : d.order e = some (compare a b) := by
  obtain ⟨s, m, i, rfl, p, q, e1, h⟩ := h
  rw [order_num e1 k, h]
  have Q0 := pow_pos2 q
  congr 1
  rw [Int.compare_eq_ite_lt, Int.compare_eq_ite_lt]
  simp only [Int.mul_lt_mul_right Q0]
/-- What is a multiple of 2^B is cut without a rest. -/
theorem cut_exact (way : Toward) (s : Bool) (K B : Nat) : way.cut s (K * 2 ^ B) B = K := by
  have hg : K = 0 ∨ min B ((K * 2 ^ B).log2 + 2) = B := by
    by_cases hK : K = 0
    · exact .inl hK
    · refine .inr (Nat.min_eq_left ?_)
      have h1 : 2 ^ B ≤ K * 2 ^ B := Nat.le_mul_of_pos_left _ (by omega)
      have h2 : K * 2 ^ B ≠ 0 := by have := Nat.two_pow_pos B; omega
      have := (Nat.le_log2 h2).2 h1
      omega
  unfold Toward.cut
  rcases hg with rfl | hg
  · have hp : 0 < 2 ^ min B ((0 * 2 ^ B).log2 + 2) := Nat.two_pow_pos _
    generalize 2 ^ min B ((0 * 2 ^ B).log2 + 2) = g at hp
    simp only [Nat.one_shiftLeft, Nat.zero_mul, Nat.zero_div, Nat.zero_mod]
    cases way <;> simp
  · have hp : 0 < 2 ^ B := Nat.two_pow_pos _
    rw [hg, Nat.one_shiftLeft]
    have e1 : K * 2 ^ B / 2 ^ B = K := Nat.mul_div_cancel _ hp
    have e2 : K * 2 ^ B % 2 ^ B = 0 := Nat.mul_mod_left _ _
    simp only [e1, e2]
    cases way <;> simp
theorem num_abs {s : Bool} {m : Nat} {n : Int} {p q : Nat} (h : sg s m * 2 ^ p = n * 2 ^ q) : m * 2 ^ p = n.natAbs * 2 ^ q ∧ sg s n.natAbs = n := by
  have h1 : (sg s m * 2 ^ p).natAbs = (n * 2 ^ q).natAbs := by rw [h]
  rw [Int.natAbs_mul, Int.natAbs_mul, sg_abs, Int.natAbs_pow, Int.natAbs_pow] at h1
  refine ⟨h1, ?_⟩
  by_cases hn : n = 0
  · subst hn; cases s <;> simp [sg]
  · have P0 := pow_pos2 p
    have Q0 := pow_pos2 q
    cases s
    · have h2 : (0 : Int) ≤ n * 2 ^ q := by rw [← h]; exact Int.mul_nonneg (by simp [sg]) (by omega)
      have : 0 ≤ n := Decidable.byContradiction fun hc => by
        have := Int.mul_neg_of_neg_of_pos (show n < 0 by omega) Q0
        omega
      simp only [sg, Bool.false_eq_true, if_false]; omega
    · have h2 : n * 2 ^ q ≤ 0 := by rw [← h]; exact Int.mul_nonpos_of_nonpos_of_nonneg (by simp [sg]) (by omega)
      have : n ≤ 0 := Decidable.byContradiction fun hc => by
        have := Int.mul_pos (show 0 < n by omega) Q0
        omega
      simp only [sg, if_true]; omega
theorem Num.toInt {d : Datum} {n : Int} (h : Num d n) : d.toInt .zero = some n := by
  obtain ⟨s, m, i, rfl, hpq⟩ := h
  have h : Num (.number s m i) n := ⟨s, m, i, rfl, hpq⟩
  obtain ⟨e1, e2⟩ := num_abs (h.flat (p := i.toNat) (q := (-i).toNat) (by omega))
  simp only [Datum.toInt, Datum.integral, Nat.shiftLeft_eq, e1, cut_exact, signed_eq, e2]
  simp
theorem read_word (s : Bool) (r : Nat) (h : r < 9223372036854775808) : double.read (double.word s r) = (if r < 4503599627370496 then .number s r (-1074)
    else if r < 9218868437227405312 then .number s (4503599627370496 + r % 4503599627370496) (-1074 + (r / 4503599627370496 - 1 : Nat)) else if r = 9218868437227405312 then .infinity s else .nan s (r - 9218868437227405312)) := by
  have hs : (double.word s r / 9223372036854775808 % 2 == 1) = s := by
    have hw : double.word s r = if s then 9223372036854775808 + r else r := rfl
    rw [hw]
    cases s
    · simp only [Bool.false_eq_true, if_false, beq_eq_false_iff_ne, ne_eq]; omega
    · simp only [if_true, beq_iff_eq]; omega
  have hr : double.word s r % 9223372036854775808 = r := by
    have hw : double.word s r = if s then 9223372036854775808 + r else r := rfl
    rw [hw]
    cases s
    · simp only [Bool.false_eq_true, if_false]; omega
    · simp only [if_true]; omega
  show (let neg := double.word s r / 9223372036854775808 % 2 == 1
    let rung := double.word s r % 9223372036854775808
    if rung < 4503599627370496 then Datum.number neg rung (-1074)
    else if rung < 9218868437227405312 then Datum.number neg (4503599627370496 + rung % 4503599627370496) (-1074 + (rung / 4503599627370496 - 1 : Nat)) else if rung = 9218868437227405312 then .infinity neg else .nan neg (rung - 9218868437227405312)) = _
  simp only [hs, hr]
theorem log2_of {m k L n : Nat} (hn : n ≠ 0) (h : m * 2 ^ k = n * 2 ^ L) : m.log2 + k = n.log2 + L := by
  have hm : m ≠ 0 := by
    rintro rfl
    have := Nat.mul_pos (Nat.pos_of_ne_zero hn) (Nat.two_pow_pos L)
    omega
  have a1 := Nat.log2_self_le hm
  have a2 := @Nat.lt_log2_self m
  have b1 := Nat.log2_self_le hn
  have b2 := @Nat.lt_log2_self n
  have c1 : 2 ^ (m.log2 + k) ≤ m * 2 ^ k := by rw [Nat.pow_add]; exact Nat.mul_le_mul_right _ a1
  have c2 : m * 2 ^ k < 2 ^ (m.log2 + 1 + k) := by rw [Nat.pow_add]; exact Nat.mul_lt_mul_of_pos_right a2 (Nat.two_pow_pos k)
  have d1 : 2 ^ (n.log2 + L) ≤ n * 2 ^ L := by rw [Nat.pow_add]; exact Nat.mul_le_mul_right _ b1
  have d2 : n * 2 ^ L < 2 ^ (n.log2 + 1 + L) := by rw [Nat.pow_add]; exact Nat.mul_lt_mul_of_pos_right b2 (Nat.two_pow_pos L)
  have x1 := (Nat.pow_lt_pow_iff_right (a := 2) (by decide)).1 (Nat.lt_of_le_of_lt c1 (h ▸ d2))
  have x2 := (Nat.pow_lt_pow_iff_right (a := 2) (by decide)).1 (Nat.lt_of_le_of_lt d1 (h ▸ c2))
  omega
set_option maxRecDepth 100000 in
/-- A whole number below 2^53 is written as it is. -/
theorem write_num {s : Bool} {m : Nat} {i n : Int} (h : Num (.number s m i) n) (hn : n.natAbs < 9007199254740992) : Num (double.read (double.nearest s m i)) n := by
  have hf := h.flat (p := i.toNat) (q := (-i).toNat) (by omega)
  obtain ⟨e1, e2⟩ := num_abs hf
  by_cases h0 : n = 0
  · subst h0
    have hm : m = 0 := by
      have := Nat.two_pow_pos i.toNat
      rcases Nat.eq_zero_or_pos m with h | h
      · exact h
      · have := Nat.mul_pos h this
        simp at e1
        omega
    subst hm
    have hw : double.nearest s 0 i = double.word s 0 := by simp [Format.nearest]
    rw [hw, read_word s 0 (by decide)]
    exact ⟨s, 0, -1074, rfl, 0, 1074, by decide, by rw [show sg s 0 = 0 by cases s <;> rfl, Int.zero_mul, Int.zero_mul]⟩
  · have hna : n.natAbs ≠ 0 := by omega
    have hm : m ≠ 0 := by
      rintro rfl
      have := Nat.mul_pos (Nat.pos_of_ne_zero hna) (Nat.two_pow_pos (-i).toNat)
      omega
    have hl := log2_of hna e1
    obtain ⟨L, hL⟩ : ∃ L, n.natAbs.log2 = L := ⟨_, rfl⟩
    rw [hL] at hl
    have L1 := Nat.log2_self_le hna
    have L2 := @Nat.lt_log2_self n.natAbs
    rw [hL] at L1 L2
    have L52 : L < 53 := by
      have : 2 ^ L < 2 ^ 53 := Nat.lt_of_le_of_lt L1 (by simpa using hn)
      exact (Nat.pow_lt_pow_iff_right (a := 2) (by decide)).1 this
    obtain ⟨K, hK⟩ : ∃ K, n.natAbs * 2 ^ (52 - L) = K := ⟨_, rfl⟩
    have K1 : 4503599627370496 ≤ K := by
      rw [← hK]
      have := Nat.mul_le_mul_right (2 ^ (52 - L)) L1
      rw [← Nat.pow_add, show L + (52 - L) = 52 by omega] at this
      simpa using this
    have K2 : K < 9007199254740992 := by
      rw [← hK]
      have := Nat.mul_lt_mul_of_pos_right L2 (Nat.two_pow_pos (52 - L))
      rw [← Nat.pow_add, show L + 1 + (52 - L) = 53 by omega] at this
      simpa using this
    have hlast : max (i + (m.log2 : Int) - 52) (-1074) = (L : Int) - 52 := by
      rw [Int.max_eq_left (by omega)]; omega
    have hcut : Toward.even.cut s (m <<< (i - ((L : Int) - 52)).toNat) (((L : Int) - 52) - i).toNat = K := by
      rw [Nat.shiftLeft_eq]
      have : m * 2 ^ (i - ((L : Int) - 52)).toNat = K * 2 ^ (((L : Int) - 52) - i).toNat := by
        refine Nat.eq_of_mul_eq_mul_right (Nat.two_pow_pos i.toNat) ?_
        rw [Nat.mul_assoc, Nat.mul_comm (2 ^ (i - ((L : Int) - 52)).toNat), ← Nat.mul_assoc, e1, ← hK, Nat.mul_assoc, Nat.mul_assoc, Nat.mul_assoc, ← Nat.pow_add, ← Nat.pow_add, ← Nat.pow_add]
        congr 2
        omega
      rw [this, cut_exact]
    have hw : double.nearest s m i = double.word s ((1022 + L) * 4503599627370496 + K) := by
      have : double.nearest s m i = (if m = 0 then double.word s 0 else
        let last := max (i + (m.log2 : Int) - 52) (-1074)
        let kept := Toward.even.cut s (m <<< (i - last).toNat) (last - i).toNat
        double.word s (min ((last - -1074).toNat * 4503599627370496 + kept) 9218868437227405312)) := rfl
      rw [this, if_neg hm]
      simp only [hlast, hcut]
      congr 1
      rw [Nat.min_eq_left (by omega)]
      congr 2
      omega
    rw [hw, read_word s _ (by omega), if_neg (by omega), if_pos (by omega)]
    refine ⟨s, _, _, rfl, 0, 52 - L, ?_, ?_⟩
    · have : ((1022 + L) * 4503599627370496 + K) / 4503599627370496 = 1023 + L := by omega
      rw [this]; omega
    · have : 4503599627370496 + ((1022 + L) * 4503599627370496 + K) % 4503599627370496 = K := by omega
      rw [this, ← hK, sg_scale, e2]
      simp
end Go.Proofs.YtojpfmlmalmlcaaGreatDoor.G
namespace Go.Proofs.YtojpfmlmalmlcaaGreatDoor.G
open Ieee
/-- The bits b are those of a double that is the whole number n. -/
def Whole (b : Nat) (n : Int) : Prop := b < 18446744073709551616 ∧ Num (double.read b) n
theorem Whole.one {b : Nat} {m n : Int} (h : Whole b m) (k : Whole b n) : m = n := h.2.one k.2
theorem Whole.cast {b : Nat} {m n : Int} (h : Whole b m) (e : m = n) : Whole b n := e ▸ h
theorem word_parts {b : Nat} (h : b < 18446744073709551616) : ∃ s r, r < 9223372036854775808 ∧ b = double.word s r := by
  by_cases hb : b < 9223372036854775808
  · exact ⟨false, b, hb, rfl⟩
  · refine ⟨true, b - 9223372036854775808, by omega, ?_⟩
    show b = 9223372036854775808 + (b - 9223372036854775808)
    omega
theorem neg_word (s : Bool) (r : Nat) (h : r < 9223372036854775808) : Op.negFloat .f64 (double.word s r) = double.word (!s) r := by
  have h0 : Op.negFloat .f64 (double.word s r) = double.word s r ^^^ 2 ^ 63 := rfl
  rw [h0]
  have hm := Nat.xor_mod_two_pow (a := double.word s r) (b := 2 ^ 63) (n := 63)
  have hd := Nat.xor_div_two_pow (a := double.word s r) (b := 2 ^ 63) (n := 63)
  rw [show (2 : Nat) ^ 63 % 2 ^ 63 = 0 by decide, Nat.xor_zero] at hm
  rw [show (2 : Nat) ^ 63 / 2 ^ 63 = 1 by decide] at hd
  generalize double.word s r ^^^ 2 ^ 63 = x at hm hd
  have hp : (2 : Nat) ^ 63 = 9223372036854775808 := by decide
  rw [hp] at hm hd
  cases s
  · have w1 : double.word false r = r := rfl
    have w2 : double.word (!false) r = 9223372036854775808 + r := rfl
    rw [w1] at hm hd
    rw [w2]
    rw [Nat.div_eq_of_lt h, Nat.zero_xor] at hd
    omega
  · have w1 : double.word true r = 9223372036854775808 + r := rfl
    have w2 : double.word (!true) r = r := rfl
    rw [w1] at hm hd
    rw [w2]
    rw [show (9223372036854775808 + r) / 9223372036854775808 = 1 by omega, Nat.xor_self] at hd
    omega
theorem word_lt64 (s : Bool) (r : Nat) (h : r < 9223372036854775808) : double.word s r < 18446744073709551616 := by
  cases s
  · show r < _; omega
  · show 9223372036854775808 + r < _; omega
theorem Whole.neg {b : Nat} {n : Int} (h : Whole b n) : Whole (Op.negFloat .f64 b) (-n) := by
  obtain ⟨hb, hn⟩ := h
  obtain ⟨s, r, hr, rfl⟩ := word_parts hb
  rw [neg_word s r hr]
  refine ⟨word_lt64 _ _ hr, ?_⟩
  have : double.read (double.word (!s) r) = (double.read (double.word s r)).opposite := by
    rw [read_word _ _ hr, read_word _ _ hr]
    repeat' split
    all_goals rfl
  rw [this]
  exact hn.opposite
theorem write_whole {d : Datum} {n : Int} (h : Num d n) (hn : n.natAbs < 9007199254740992) : Whole (double.write d) n := by
  refine ⟨?_, ?_⟩
  · have := double.write_lt d
    simpa [Format.width, double] using this
  · obtain ⟨s, m, i, rfl, hpq⟩ := h
    exact write_num ⟨s, m, i, rfl, hpq⟩ hn
theorem Whole.mul {x y : Nat} {a b : Int} (h : Whole x a) (k : Whole y b) (hn : (a * b).natAbs < 9007199254740992) : ∃ r, floatBits .mul .f64 x y = some r ∧ Whole r (a * b) := by
  obtain ⟨d, e, hd⟩ := h.2.product k.2
  refine ⟨double.write d, ?_, write_whole hd hn⟩
  show ((double.read x).product (double.read y)).map double.write = _
  rw [e]; rfl
theorem Whole.add {x y : Nat} {a b : Int} (h : Whole x a) (k : Whole y b) (hn : (a + b).natAbs < 9007199254740992) : ∃ r, floatBits .add .f64 x y = some r ∧ Whole r (a + b) := by
  obtain ⟨d, e, hd⟩ := h.2.sum k.2
  refine ⟨double.write d, ?_, write_whole hd hn⟩
  show ((double.read x).sum (double.read y)).map double.write = _
  rw [e]; rfl
theorem Whole.sub {x y : Nat} {a b : Int} (h : Whole x a) (k : Whole y b) (hn : (a - b).natAbs < 9007199254740992) : ∃ r, floatBits .sub .f64 x y = some r ∧ Whole r (a - b) := by
  obtain ⟨d, e, hd⟩ := h.2.sum k.2.opposite
  refine ⟨double.write d, ?_, write_whole hd (by rw [← Int.sub_eq_add_neg]; exact hn) |>.cast Int.sub_eq_add_neg.symm⟩
  show ((double.read x).sum (double.read y).opposite).map double.write = _
  rw [e]; rfl
/-- A product of complex numbers. -/
theorem Whole.times {x y u v : Nat} {a b c d : Int} (ha : Whole x a) (hb : Whole y b) (hc : Whole u c) (hd : Whole v d)
    (h1 : (a * c).natAbs < 9007199254740992) (h2 : (b * d).natAbs < 9007199254740992) (h3 : (a * d).natAbs < 9007199254740992) (h4 : (b * c).natAbs < 9007199254740992)
    (h5 : (a * c - b * d).natAbs < 9007199254740992) (h6 : (a * d + b * c).natAbs < 9007199254740992) :
    ∃ re im, cMulBits x y u v = some (re, im) ∧ Whole re (a * c - b * d) ∧ Whole im (a * d + b * c) := by
  obtain ⟨r1, e1, w1⟩ := ha.mul hc h1
  obtain ⟨r2, e2, w2⟩ := hb.mul hd h2
  obtain ⟨r3, e3, w3⟩ := w1.sub w2 h5
  obtain ⟨r4, e4, w4⟩ := ha.mul hd h3
  obtain ⟨r5, e5, w5⟩ := hb.mul hc h4
  obtain ⟨r6, e6, w6⟩ := w4.add w5 h6
  refine ⟨r3, r6, ?_, w3, w6⟩
  simp [cMulBits, e1, e2, e3, e4, e5, e6]
theorem whole_of_int (n : Int) (hn : n.natAbs < 9007199254740992) : Whole (floatOfInt .f64 n) n := by
  refine write_whole (d := .number (n < 0) n.natAbs 0) ⟨_, _, _, rfl, 0, 0, rfl, ?_⟩ hn
  have := sg_neg n (decide (n < 0))
  by_cases h : n = 0
  · subst h; simp [sg]
  · rw [if_neg h] at this; rw [this]
theorem Whole.int {b : Nat} {n : Int} (h : Whole b n) (hn : n.natAbs < 9007199254740992) : floatToIntVal .f64 b .i64 = some n := by
  have e : (FloatKind.f64.decode b).toInt .zero = some n := h.2.toInt
  unfold floatToIntVal
  rw [e]
  have : IntKind.i64.min ≤ n ∧ n ≤ IntKind.i64.max := by
    have e1 : IntKind.i64.min = -9223372036854775808 := by decide
    have e2 : IntKind.i64.max = 9223372036854775807 := by decide
    omega
  show (if IntKind.i64.min ≤ n ∧ n ≤ IntKind.i64.max then some n else none) = some n
  rw [if_pos this]
theorem Whole.order {x y : Nat} {a b : Int} (h : Whole x a) (k : Whole y b) : FloatKind.f64.format.order x y = some (compare a b) := h.2.order k.2
theorem compare_lt {a b : Int} (h : a < b) : compare a b = .lt := by rw [Int.compare_eq_ite_lt, if_pos h]
theorem compare_eq {a b : Int} (h : a = b) : compare a b = .eq := by subst h; rw [Int.compare_eq_ite_lt]; simp
theorem compare_gt {a b : Int} (h : b < a) : compare a b = .gt := by rw [Int.compare_eq_ite_lt, if_neg (by omega), if_pos h]
theorem compare_not_lt {a b : Int} (h : compare a b = .gt ∨ compare a b = .eq) : b ≤ a := by
  rcases Int.lt_trichotomy a b with k | k | k
  · rw [compare_lt k] at h; simp at h
  · omega
  · omega
theorem compare_not_gt {a b : Int} (h : compare a b = .lt ∨ compare a b = .eq) : a ≤ b := by
  rcases Int.lt_trichotomy a b with k | k | k
  · omega
  · omega
  · rw [compare_gt k] at h; simp at h
theorem compare_is_eq {a b : Int} (h : compare a b = .eq) : a = b := by
  have := compare_not_gt (.inr h); have := compare_not_lt (.inr h); omega
/-- x ≥ y, x ≤ y, x == y, as the model reckons them. -/
def geB (x y : Nat) : Bool := FloatKind.f64.format.order x y == some .gt || FloatKind.f64.format.order x y == some .eq
def leB (x y : Nat) : Bool := FloatKind.f64.format.order x y == some .lt || FloatKind.f64.format.order x y == some .eq
def eqB (x y : Nat) : Bool := FloatKind.f64.format.order x y == some .eq
theorem Whole.ge {x y : Nat} {a b : Int} (h : Whole x a) (k : Whole y b) : geB x y = decide (b ≤ a) := by
  unfold geB
  rw [h.order k]
  rcases Int.lt_trichotomy a b with c | c | c
  · rw [compare_lt c]; simp; omega
  · rw [compare_eq c]; simp; omega
  · rw [compare_gt c]; simp; omega
theorem Whole.le {x y : Nat} {a b : Int} (h : Whole x a) (k : Whole y b) : leB x y = decide (a ≤ b) := by
  unfold leB
  rw [h.order k]
  rcases Int.lt_trichotomy a b with c | c | c
  · rw [compare_lt c]; simp; omega
  · rw [compare_eq c]; simp; omega
  · rw [compare_gt c]; simp; omega
theorem Whole.eq {x y : Nat} {a b : Int} (h : Whole x a) (k : Whole y b) : eqB x y = decide (a = b) := by
  unfold eqB
  rw [h.order k]
  rcases Int.lt_trichotomy a b with c | c | c
  · rw [compare_lt c]; simp; omega
  · rw [compare_eq c]; simp; omega
  · rw [compare_gt c]; simp; omega
theorem cut_zero_le (s : Bool) (M D B : Nat) (h : M ≤ B * 2 ^ D) : Toward.zero.cut s M D ≤ B := by
  have e : Toward.zero.cut s M D = M / 2 ^ min D (M.log2 + 2) := by simp [Toward.cut, Nat.one_shiftLeft]
  rw [e]
  by_cases hD : D ≤ M.log2 + 2
  · rw [Nat.min_eq_left hD]
    exact Nat.div_le_of_le_mul (by rw [Nat.mul_comm]; exact h)
  · rw [Nat.min_eq_right (by omega)]
    have : M < 2 ^ (M.log2 + 2) := Nat.lt_trans Nat.lt_log2_self (Nat.pow_lt_pow_right (by decide) (by omega))
    rw [Nat.div_eq_of_lt this]
    omega
/-- What the program's test finds of any bits: it is below the bound, above it, or a number within, cut to t; and it is t just if it is whole. -/
theorem inside_cases {x mb : Nat} {M : Int} (hx : x < 18446744073709551616) (hm : Whole mb M) (h0 : 0 ≤ M) (h1 : M ≤ 4503599627370496) :
    geB x (Op.negFloat .f64 mb) = false ∨ (geB x (Op.negFloat .f64 mb) = true ∧ leB x mb = false) ∨
    (geB x (Op.negFloat .f64 mb) = true ∧ leB x mb = true ∧ ∃ t, floatToIntVal .f64 x .i64 = some t ∧ -M ≤ t ∧ t ≤ M ∧ (eqB x (floatOfInt .f64 t) = true → Whole x t)) := by
  cases hg : geB x (Op.negFloat .f64 mb) with
  | false => exact .inl rfl
  | true =>
    cases hl : leB x mb with
    | false => exact .inr (.inl ⟨rfl, rfl⟩)
    | true =>
      refine .inr (.inr ⟨rfl, rfl, ?_⟩)
      have hmn := hm.neg
      obtain ⟨_, n1⟩ := hm
      obtain ⟨_, n2⟩ := hmn
      obtain ⟨s, m, i, hd⟩ : ∃ s m i, double.read x = .number s m i := by
        cases hr : double.read x with
        | number s m i => exact ⟨s, m, i, rfl⟩
        | nan s f =>
          simp [leB, FloatKind.format, Format.order, hr, Datum.order] at hl
        | infinity s =>
          exfalso
          obtain ⟨s1, m1, i1, r1, _⟩ := n1
          obtain ⟨s2, m2, i2, r2, _⟩ := n2
          cases s
          · simp [leB, FloatKind.format, Format.order, hr, r1, Datum.order] at hl
          · simp [geB, FloatKind.format, Format.order, hr, r2, Datum.order] at hg
      have o1 : FloatKind.f64.format.order x mb = some (compare (sg s m * 2 ^ i.toNat) (M * 2 ^ (-i).toNat)) := by
        show (double.read x).order (double.read mb) = _
        rw [hd]; exact order_num (by omega) n1
      have o2 : FloatKind.f64.format.order x (Op.negFloat .f64 mb) = some (compare (sg s m * 2 ^ i.toNat) (-M * 2 ^ (-i).toNat)) := by
        show (double.read x).order (double.read (Op.negFloat .f64 mb)) = _
        rw [hd]; exact order_num (by omega) n2
      have b1 : sg s m * 2 ^ i.toNat ≤ M * 2 ^ (-i).toNat := compare_not_gt (by simpa [leB, o1] using hl)
      have b2 : -M * 2 ^ (-i).toNat ≤ sg s m * 2 ^ i.toNat := compare_not_lt (by simpa [geB, o2] using hg)
      have hmag : m * 2 ^ i.toNat ≤ M.toNat * 2 ^ (-i).toNat := by
        have e : (sg s m * 2 ^ i.toNat).natAbs = m * 2 ^ i.toNat := by rw [Int.natAbs_mul, sg_abs, Int.natAbs_pow]; rfl
        have e2 : ((M.toNat * 2 ^ (-i).toNat : Nat) : Int) = M * 2 ^ (-i).toNat := by
          rw [Int.natCast_mul, Int.toNat_of_nonneg h0]; simp
        rw [← e]
        rw [Int.neg_mul] at b2
        omega
      have hc := cut_zero_le s _ _ _ hmag
      have ht : (FloatKind.f64.decode x).toInt .zero = some (sg s (Toward.zero.cut s (m * 2 ^ i.toNat) (-i).toNat)) := by
        show (double.read x).toInt .zero = _
        rw [hd]
        simp [Datum.toInt, Datum.integral, Nat.shiftLeft_eq, signed_eq]
      generalize Toward.zero.cut s (m * 2 ^ i.toNat) (-i).toNat = c at hc ht
      have hb : -M ≤ sg s c ∧ sg s c ≤ M := by cases s <;> simp [sg] <;> omega
      refine ⟨sg s c, ?_, hb.1, hb.2, fun heq => ⟨hx, ?_⟩⟩
      · unfold floatToIntVal
        rw [ht]
        have : IntKind.i64.min ≤ sg s c ∧ sg s c ≤ IntKind.i64.max := by
          have e1 : IntKind.i64.min = -9223372036854775808 := by decide
          have e2 : IntKind.i64.max = 9223372036854775807 := by decide
          omega
        show (if IntKind.i64.min ≤ sg s c ∧ sg s c ≤ IntKind.i64.max then some (sg s c) else none) = some (sg s c)
        rw [if_pos this]
      · have hw := whole_of_int (sg s c) (by omega)
        have o3 : FloatKind.f64.format.order x (floatOfInt .f64 (sg s c)) = some (compare (sg s m * 2 ^ i.toNat) (sg s c * 2 ^ (-i).toNat)) := by
          show (double.read x).order (double.read (floatOfInt .f64 (sg s c))) = _
          rw [hd]; exact order_num (by omega) hw.2
        rw [hd]
        exact ⟨s, m, i, rfl, i.toNat, (-i).toNat, by omega, compare_is_eq (by simpa [eqB, o3] using heq)⟩
theorem whole_0 : Whole 0 0 := ⟨by decide, false, 0, -1074, rfl, 0, 1074, by decide, by rw [show sg false 0 = 0 from rfl, Int.zero_mul, Int.zero_mul]⟩
theorem whole_small : Whole 4719772409484279808 33554432 := (whole_of_int 33554432 (by decide)).cast rfl
theorem whole_great : Whole 4841369599423283200 4503599627370496 := (whole_of_int 4503599627370496 (by decide)).cast rfl
theorem whole_1 : Whole 4607182418800017408 1 := (whole_of_int 1 (by decide)).cast rfl
theorem whole_m1 : Whole 13830554455654793216 (-1) := (show floatOfInt .f64 (-1) = 13830554455654793216 by decide +kernel) ▸ whole_of_int (-1) (by decide)
end Go.Proofs.YtojpfmlmalmlcaaGreatDoor.G
namespace Go.Proofs.YtojpfmlmalmlcaaGreatDoor.G
open Go.RowKit
theorem run_neg_float {P : Program} (k : FloatKind) (b : Nat) (w : World) : (Op.unary .neg (.float k b)).run P w = .ok (.float k (Op.negFloat k b)) w := rfl
theorem run_neg_complex {P : Program} (k : FloatKind) (a b : Nat) (w : World) : (Op.unary .neg (.complex k a b)).run P w = .ok (.complex k (Op.negFloat k a) (Op.negFloat k b)) w := rfl
set_option maxHeartbeats 400000 in
theorem wholeWithin_last (x mb : Nat) (t : Int) (h1 : geB x (Op.negFloat .f64 mb) = true) (h2 : leB x mb = true) (h3 : floatToIntVal .f64 x .i64 = some t) (w : World) :
    Calls Tryz.prog 157 #[.float .f64 x, .float .f64 mb] w fun e w' => e = .returned (.bool (eqB x (floatOfInt .f64 t))) ∧ w' = w := by
  unfold geB at h1
  unfold leB at h2
  unfold eqB
  have h5 : ∀ w, (convert 183 3 (.float .f64 x)).run Tryz.prog w = .ok (.int .i64 t) w := fun w => run_convert_float_int w _ _ _ _ _ _ (by kernel_rfl) (by kernel_rfl) h3
  have h6 := run_neg_float (P := Tryz.prog) .f64 mb
  go_enter Tryz.func157, Tryz.ntmps157
  go_wp2
  go_ret
  exact ⟨rfl, rfl⟩
set_option maxHeartbeats 400000 in
theorem wholeWithin_low (x mb : Nat) (h1 : geB x (Op.negFloat .f64 mb) = false) (w : World) :
    Calls Tryz.prog 157 #[.float .f64 x, .float .f64 mb] w fun e w' => e = .returned (.bool false) ∧ w' = w := by
  unfold geB at h1
  have h6 := run_neg_float (P := Tryz.prog) .f64 mb
  go_enter Tryz.func157, Tryz.ntmps157
  go_wp2
  go_ret
  exact ⟨rfl, rfl⟩
set_option maxHeartbeats 400000 in
theorem wholeWithin_high (x mb : Nat) (h1 : geB x (Op.negFloat .f64 mb) = true) (h2 : leB x mb = false) (w : World) :
    Calls Tryz.prog 157 #[.float .f64 x, .float .f64 mb] w fun e w' => e = .returned (.bool false) ∧ w' = w := by
  unfold geB at h1
  unfold leB at h2
  have h6 := run_neg_float (P := Tryz.prog) .f64 mb
  go_enter Tryz.func157, Tryz.ntmps157
  go_wp2
  go_ret
  exact ⟨rfl, rfl⟩
/-- A whole one within the bound. -/
theorem wholeWithin_yes {x mb : Nat} {n M : Int} (hx : Whole x n) (hm : Whole mb M) (h1 : M ≤ 4503599627370496) (l : -M ≤ n) (r : n ≤ M) (w : World) :
    Calls Tryz.prog 157 #[.float .f64 x, .float .f64 mb] w fun e w' => e = .returned (.bool true) ∧ w' = w := by
  have h := wholeWithin_last x mb n (by rw [hx.ge hm.neg]; simpa using l) (by rw [hx.le hm]; simpa using r) (hx.int (by omega)) w
  rw [hx.eq (whole_of_int n (by omega))] at h
  simpa using h
/-- No whole one within the bound. -/
theorem wholeWithin_no {x mb : Nat} {M : Int} (hx : x < 18446744073709551616) (hm : Whole mb M) (h0 : 0 ≤ M) (h1 : M ≤ 4503599627370496) (hn : ∀ n, Whole x n → -M ≤ n → n ≤ M → False) (w : World) :
    Calls Tryz.prog 157 #[.float .f64 x, .float .f64 mb] w fun e w' => e = .returned (.bool false) ∧ w' = w := by
  rcases inside_cases hx hm h0 h1 with h | ⟨h, k⟩ | ⟨h, k, t, ht, t1, t2, ht2⟩
  · exact wholeWithin_low x mb h w
  · exact wholeWithin_high x mb h k w
  · have := wholeWithin_last x mb t h k ht w
    cases he : eqB x (floatOfInt .f64 t) with
    | true => exact (hn t (ht2 he) t1 t2).elim
    | false => rw [he] at this; exact this
set_option maxHeartbeats 400000 in
theorem within_yes {x y mb : Nat} {a b M : Int} (hx : Whole x a) (hy : Whole y b) (hm : Whole mb M) (h1 : M ≤ 4503599627370496) (l : -M ≤ a) (r : a ≤ M) (l2 : -M ≤ b) (r2 : b ≤ M) (w : World) :
    Calls Tryz.prog 154 #[.complex .f64 x y, .float .f64 mb] w fun e w' => e = .returned (.bool true) ∧ w' = w := by
  have c1 := Lib.hid (wholeWithin_yes hx hm h1 l r)
  have c2 := Lib.hid (wholeWithin_yes hy hm h1 l2 r2)
  clear hx hy hm h1 l r l2 r2
  go_enter Tryz.func154, Tryz.ntmps154
  go_wp2_with fail
  refine (c1.out _).mono ?_
  rintro e w1 ⟨rfl, hw⟩; subst w1
  go_wp2_with fail
  refine (c2.out _).mono ?_
  rintro e w1 ⟨rfl, hw⟩; subst w1
  go_wp2_with fail
  go_ret
  exact ⟨rfl, rfl⟩
set_option maxHeartbeats 400000 in
theorem within_no_1 {x y mb : Nat} {M : Int} (hx : x < 18446744073709551616) (hm : Whole mb M) (h0 : 0 ≤ M) (h1 : M ≤ 4503599627370496) (hn : ∀ n, Whole x n → -M ≤ n → n ≤ M → False) (w : World) :
    Calls Tryz.prog 154 #[.complex .f64 x y, .float .f64 mb] w fun e w' => e = .returned (.bool false) ∧ w' = w := by
  have c1 := Lib.hid (wholeWithin_no hx hm h0 h1 hn)
  clear hx hm h0 h1 hn
  go_enter Tryz.func154, Tryz.ntmps154
  go_wp2_with fail
  refine (c1.out _).mono ?_
  rintro e w1 ⟨rfl, hw⟩; subst w1
  go_wp2_with fail
  go_ret
  exact ⟨rfl, rfl⟩
set_option maxHeartbeats 400000 in
theorem within_no_2 {x y mb : Nat} {a M : Int} (hx : Whole x a) (hy : y < 18446744073709551616) (hm : Whole mb M) (h0 : 0 ≤ M) (h1 : M ≤ 4503599627370496) (l : -M ≤ a) (r : a ≤ M) (hn : ∀ n, Whole y n → -M ≤ n → n ≤ M → False) (w : World) :
    Calls Tryz.prog 154 #[.complex .f64 x y, .float .f64 mb] w fun e w' => e = .returned (.bool false) ∧ w' = w := by
  have c1 := Lib.hid (wholeWithin_yes hx hm h1 l r)
  have c2 := Lib.hid (wholeWithin_no hy hm h0 h1 hn)
  clear hx hy hm h0 h1 l r hn
  go_enter Tryz.func154, Tryz.ntmps154
  go_wp2_with fail
  refine (c1.out _).mono ?_
  rintro e w1 ⟨rfl, hw⟩; subst w1
  go_wp2_with fail
  refine (c2.out _).mono ?_
  rintro e w1 ⟨rfl, hw⟩; subst w1
  go_wp2_with fail
  go_ret
  exact ⟨rfl, rfl⟩
/-- One part at least is no whole one within the bound. -/
theorem within_no {x y mb : Nat} {M : Int} (hx : x < 18446744073709551616) (hy : y < 18446744073709551616) (hm : Whole mb M) (h0 : 0 ≤ M) (h1 : M ≤ 4503599627370496)
    (hn : ∀ m n, Whole x m → -M ≤ m → m ≤ M → Whole y n → -M ≤ n → n ≤ M → False) (w : World) :
    Calls Tryz.prog 154 #[.complex .f64 x y, .float .f64 mb] w fun e w' => e = .returned (.bool false) ∧ w' = w := by
  by_cases h : ∃ m, Whole x m ∧ -M ≤ m ∧ m ≤ M
  · obtain ⟨m, k, l, r⟩ := h
    exact within_no_2 k hy hm h0 h1 l r (fun n => hn m n k l r) w
  · exact within_no_1 hx hm h0 h1 (fun n k l r => h ⟨n, k, l, r⟩) w
end Go.Proofs.YtojpfmlmalmlcaaGreatDoor.G
namespace Go.Proofs.YtojpfmlmalmlcaaGreatDoor.G
open Go.RowKit
theorem i64_and3 (n : Int) : bits .and .i64 n 3 = n % 4 := by
  have hn : (BitVec.ofInt 64 n &&& BitVec.ofInt 64 3).toNat = (n % (2 : Int) ^ 64).toNat % 4 := by
    have h3 : (BitVec.ofInt 64 (3 : Int)).toNat = 2 ^ 2 - 1 := by decide
    rw [BitVec.toNat_and, BitVec.toNat_ofInt, h3, Nat.and_two_pow_sub_one_eq_mod]
    norm_cast
  show IntKind.i64.wrap ((BitVec.ofInt 64 n &&& BitVec.ofInt 64 3).toNat : Int) = n % 4
  rw [hn, IntKind.wrap_i64]
  omega
theorem small_mul {a c : Int} (a1 : -33554432 ≤ a) (a2 : a ≤ 33554432) (c1 : -33554432 ≤ c) (c2 : c ≤ 33554432) : -1125899906842624 ≤ a * c ∧ a * c ≤ 1125899906842624 := by
  have h : (a * c).natAbs ≤ 33554432 * 33554432 := by
    rw [Int.natAbs_mul]
    exact Nat.mul_le_mul (by omega) (by omega)
  omega
/-- Within the bound of small ones. -/
def Small (a : Int) : Prop := -33554432 ≤ a ∧ a ≤ 33554432
/-- Within the bound of whole ones. -/
def Great (a : Int) : Prop := -4503599627370496 ≤ a ∧ a ≤ 4503599627370496
theorem Small.great {a : Int} (h : Small a) : Great a := ⟨by have := h.1; omega, by have := h.2; omega⟩
/-- A product of two small ones. -/
theorem Whole.small_times {x y u v : Nat} {a b c d : Int} (ha : Whole x a) (hb : Whole y b) (hc : Whole u c) (hd : Whole v d) (sa : Small a) (sb : Small b) (sc : Small c) (sd : Small d) :
    ∃ re im, cMulBits x y u v = some (re, im) ∧ Whole re (a * c - b * d) ∧ Whole im (a * d + b * c) := by
  have h1 := small_mul sa.1 sa.2 sc.1 sc.2
  have h2 := small_mul sb.1 sb.2 sd.1 sd.2
  have h3 := small_mul sa.1 sa.2 sd.1 sd.2
  have h4 := small_mul sb.1 sb.2 sc.1 sc.2
  exact ha.times hb hc hd (by omega) (by omega) (by omega) (by omega) (by omega) (by omega)
theorem small_product {a b c d : Int} (sa : Small a) (sb : Small b) (sc : Small c) (sd : Small d) : Great (a * c - b * d) ∧ Great (a * d + b * c) := by
  have h1 := small_mul sa.1 sa.2 sc.1 sc.2
  have h2 := small_mul sb.1 sb.2 sd.1 sd.2
  have h3 := small_mul sa.1 sa.2 sd.1 sd.2
  have h4 := small_mul sb.1 sb.2 sc.1 sc.2
  unfold Great
  omega
set_option maxHeartbeats 400000 in
theorem parts_yes {x y : Nat} {a b : Int} (hx : Whole x a) (hy : Whole y b) (ga : Great a) (gb : Great b) (w : World) :
    Calls Tryz.prog 142 #[.complex .f64 x y] w fun e w' => e = .returned (.tuple #[.int .i64 a, .int .i64 b, .bool true]) ∧ w' = w := by
  have c1 := Lib.hid (within_yes hx hy whole_great (Int.le_refl _) ga.1 ga.2 gb.1 gb.2)
  have i1 : ∀ w, (convert 183 3 (.float .f64 x)).run Tryz.prog w = .ok (.int .i64 a) w := fun w => run_convert_float_int w _ _ _ _ _ _ (by kernel_rfl) (by kernel_rfl) (hx.int (by have := ga.1; have := ga.2; omega))
  have i2 : ∀ w, (convert 183 3 (.float .f64 y)).run Tryz.prog w = .ok (.int .i64 b) w := fun w => run_convert_float_int w _ _ _ _ _ _ (by kernel_rfl) (by kernel_rfl) (hy.int (by have := gb.1; have := gb.2; omega))
  clear hx hy ga gb
  go_enter Tryz.func142, Tryz.ntmps142
  go_wp2_with fail
  refine (c1.out _).mono ?_
  rintro e w1 ⟨rfl, hw⟩; subst w1
  go_wp2_with fail
  go_ret3
  exact ⟨rfl, rfl⟩
set_option maxHeartbeats 400000 in
theorem parts_no {x y : Nat} (hx : x < 18446744073709551616) (hy : y < 18446744073709551616) (hn : ∀ m n, Whole x m → Great m → Whole y n → Great n → False) (w : World) :
    Calls Tryz.prog 142 #[.complex .f64 x y] w fun e w' => e = .returned (.tuple #[.int .i64 0, .int .i64 0, .bool false]) ∧ w' = w := by
  have c1 := Lib.hid (within_no hx hy whole_great (by decide) (Int.le_refl _) (fun m n h1 h2 h3 h4 h5 h6 => hn m n h1 ⟨h2, h3⟩ h4 ⟨h5, h6⟩))
  clear hx hy hn
  go_enter Tryz.func142, Tryz.ntmps142
  go_wp2_with fail
  refine (c1.out _).mono ?_
  rintro e w1 ⟨rfl, hw⟩; subst w1
  go_wp2_with fail
  go_ret3
  exact ⟨rfl, rfl⟩
set_option maxHeartbeats 400000 in
theorem of_small {a b : Int} (sa : Small a) (sb : Small b) (w : World) :
    Calls Tryz.prog 144 #[.int .i64 a, .int .i64 b] w fun e w' => e = .returned (.complex .f64 (floatOfInt .f64 a) (floatOfInt .f64 b)) ∧ w' = w := by
  obtain ⟨a1, a2⟩ := sa
  obtain ⟨b1, b2⟩ := sb
  have t1 : decide (a < -33554432) = false := by simp; omega
  have t2 : decide (33554432 < a) = false := by simp; omega
  have t3 : decide (b < -33554432) = false := by simp; omega
  have t4 : decide (33554432 < b) = false := by simp; omega
  go_enter Tryz.func144, Tryz.ntmps144
  go_wp2
  go_ret
  exact ⟨rfl, rfl⟩
set_option maxHeartbeats 400000 in
theorem of_else {a b : Int} (h : ¬ (Small a ∧ Small b)) (w : World) :
    Calls Tryz.prog 144 #[.int .i64 a, .int .i64 b] w fun e w' => e = .returned (.complex .f64 0 0) ∧ w' = w := by
  unfold Small at h
  rcases (show a < -33554432 ∨ (¬ a < -33554432 ∧ 33554432 < a) ∨ (¬ a < -33554432 ∧ ¬ 33554432 < a ∧ b < -33554432) ∨ (¬ a < -33554432 ∧ ¬ 33554432 < a ∧ ¬ b < -33554432 ∧ 33554432 < b) by omega) with k | ⟨k, k2⟩ | ⟨k, k2, k3⟩ | ⟨k, k2, k3, k4⟩
  · have t1 : decide (a < -33554432) = true := by simpa using k
    go_enter Tryz.func144, Tryz.ntmps144
    go_wp2
    go_ret
    exact ⟨rfl, rfl⟩
  · have t1 : decide (a < -33554432) = false := by simpa using k
    have t2 : decide (33554432 < a) = true := by simpa using k2
    go_enter Tryz.func144, Tryz.ntmps144
    go_wp2
    go_ret
    exact ⟨rfl, rfl⟩
  · have t1 : decide (a < -33554432) = false := by simpa using k
    have t2 : decide (33554432 < a) = false := by simpa using k2
    have t3 : decide (b < -33554432) = true := by simpa using k3
    go_enter Tryz.func144, Tryz.ntmps144
    go_wp2
    go_ret
    exact ⟨rfl, rfl⟩
  · have t1 : decide (a < -33554432) = false := by simpa using k
    have t2 : decide (33554432 < a) = false := by simpa using k2
    have t3 : decide (b < -33554432) = false := by simpa using k3
    have t4 : decide (33554432 < b) = true := by simpa using k4
    go_enter Tryz.func144, Tryz.ntmps144
    go_wp2
    go_ret
    exact ⟨rfl, rfl⟩
set_option maxHeartbeats 400000 in
theorem times_walk {x y u v re im : Nat} {a b c d : Int} (ha : Whole x a) (hb : Whole y b) (hc : Whole u c) (hd : Whole v d) (sa : Small a) (sb : Small b) (sc : Small c) (sd : Small d)
    (h : cMulBits x y u v = some (re, im)) (w : World) :
    Calls Tryz.prog 143 #[.complex .f64 x y, .complex .f64 u v] w fun e w' => e = .returned (.complex .f64 re im) ∧ w' = w := by
  have c1 := Lib.hid (within_yes ha hb whole_small (by decide) sa.1 sa.2 sb.1 sb.2)
  have c2 := Lib.hid (within_yes hc hd whole_small (by decide) sc.1 sc.2 sd.1 sd.2)
  have hm : ∀ w, (binOp .mul 163 (.complex .f64 x y) (.complex .f64 u v)).run Tryz.prog w = .ok (.complex .f64 re im) w := fun w => run_complex_mul w _ _ _ _ _ _ _ h
  clear ha hb hc hd sa sb sc sd h
  go_enter Tryz.func143, Tryz.ntmps143
  go_wp2_with fail
  refine (c1.out _).mono ?_
  rintro e w1 ⟨rfl, hw⟩; subst w1
  go_wp2_with fail
  refine (c2.out _).mono ?_
  rintro e w1 ⟨rfl, hw⟩; subst w1
  go_wp2_with fail
  go_ret
  exact ⟨rfl, rfl⟩
/-- Times, of small ones. -/
theorem times_any {x y u v : Nat} {a b c d : Int} (ha : Whole x a) (hb : Whole y b) (hc : Whole u c) (hd : Whole v d) (sa : Small a) (sb : Small b) (sc : Small c) (sd : Small d) :
    ∃ re im, (∀ w, Calls Tryz.prog 143 #[.complex .f64 x y, .complex .f64 u v] w fun e w' => e = .returned (.complex .f64 re im) ∧ w' = w) ∧ Whole re (a * c - b * d) ∧ Whole im (a * d + b * c) := by
  obtain ⟨re, im, h, h1, h2⟩ := ha.small_times hb hc hd sa sb sc sd
  exact ⟨re, im, times_walk ha hb hc hd sa sb sc sd h, h1, h2⟩
theorem Small.neg {a : Int} (h : Small a) : Small (-a) := ⟨by have := h.2; omega, by have := h.1; omega⟩
/-- A part, turned by r quarters. -/
def turnRe (r a b : Int) : Int := if r = 1 then -b else if r = 2 then -a else if r = 3 then b else a
def turnIm (r a b : Int) : Int := if r = 1 then a else if r = 2 then -b else if r = 3 then -a else b
set_option maxHeartbeats 400000 in
theorem turn_walk0 {x y : Nat} {a b k : Int} (ha : Whole x a) (hb : Whole y b) (ga : Great a) (gb : Great b) (hk : bits .and .i64 k 3 = 0) (w : World) :
    Calls Tryz.prog 156 #[.complex .f64 x y, .int .i64 k] w fun e w' => e = .returned (.complex .f64 x y) ∧ w' = w := by
  have c1 := Lib.hid (within_yes ha hb whole_great (Int.le_refl _) ga.1 ga.2 gb.1 gb.2)
  clear ha hb ga gb
  go_enter Tryz.func156, Tryz.ntmps156
  go_wp2_with fail
  refine (c1.out _).mono ?_
  rintro e w1 ⟨rfl, hw⟩; subst w1
  go_wp2_with fail
  go_ret
  exact ⟨rfl, rfl⟩
set_option maxHeartbeats 400000 in
theorem turn_walk2 {x y : Nat} {a b k : Int} (ha : Whole x a) (hb : Whole y b) (ga : Great a) (gb : Great b) (hk : bits .and .i64 k 3 = 2) (w : World) :
    Calls Tryz.prog 156 #[.complex .f64 x y, .int .i64 k] w fun e w' => e = .returned (.complex .f64 (Op.negFloat .f64 x) (Op.negFloat .f64 y)) ∧ w' = w := by
  have c1 := Lib.hid (within_yes ha hb whole_great (Int.le_refl _) ga.1 ga.2 gb.1 gb.2)
  have hm := run_neg_complex (P := Tryz.prog) .f64 x y
  clear ha hb ga gb
  go_enter Tryz.func156, Tryz.ntmps156
  go_wp2_with fail
  refine (c1.out _).mono ?_
  rintro e w1 ⟨rfl, hw⟩; subst w1
  go_wp2_with fail
  go_ret
  exact ⟨rfl, rfl⟩
set_option maxHeartbeats 400000 in
theorem turn_walk1 {x y re im : Nat} {a b k : Int} (ha : Whole x a) (hb : Whole y b) (ga : Great a) (gb : Great b) (hk : bits .and .i64 k 3 = 1) (h : cMulBits x y 0 4607182418800017408 = some (re, im)) (w : World) :
    Calls Tryz.prog 156 #[.complex .f64 x y, .int .i64 k] w fun e w' => e = .returned (.complex .f64 re im) ∧ w' = w := by
  have c1 := Lib.hid (within_yes ha hb whole_great (Int.le_refl _) ga.1 ga.2 gb.1 gb.2)
  have hm : ∀ w, (binOp .mul 163 (.complex .f64 x y) (.complex .f64 0 4607182418800017408)).run Tryz.prog w = .ok (.complex .f64 re im) w := fun w => run_complex_mul w _ _ _ _ _ _ _ h
  clear ha hb ga gb h
  go_enter Tryz.func156, Tryz.ntmps156
  go_wp2_with fail
  refine (c1.out _).mono ?_
  rintro e w1 ⟨rfl, hw⟩; subst w1
  go_wp2_with fail
  go_ret
  exact ⟨rfl, rfl⟩
set_option maxHeartbeats 400000 in
theorem turn_walk3 {x y re im : Nat} {a b k : Int} (ha : Whole x a) (hb : Whole y b) (ga : Great a) (gb : Great b) (hk : bits .and .i64 k 3 = 3) (h : cMulBits x y 0 13830554455654793216 = some (re, im)) (w : World) :
    Calls Tryz.prog 156 #[.complex .f64 x y, .int .i64 k] w fun e w' => e = .returned (.complex .f64 re im) ∧ w' = w := by
  have c1 := Lib.hid (within_yes ha hb whole_great (Int.le_refl _) ga.1 ga.2 gb.1 gb.2)
  have hm : ∀ w, (binOp .mul 163 (.complex .f64 x y) (.complex .f64 0 13830554455654793216)).run Tryz.prog w = .ok (.complex .f64 re im) w := fun w => run_complex_mul w _ _ _ _ _ _ _ h
  clear ha hb ga gb h
  go_enter Tryz.func156, Tryz.ntmps156
  go_wp2_with fail
  refine (c1.out _).mono ?_
  rintro e w1 ⟨rfl, hw⟩; subst w1
  go_wp2_with fail
  go_ret
  exact ⟨rfl, rfl⟩
/-- Turn, of a whole one. -/
theorem turn_any {x y : Nat} {a b : Int} (k : Int) (ha : Whole x a) (hb : Whole y b) (ga : Great a) (gb : Great b) :
    ∃ re im, (∀ w, Calls Tryz.prog 156 #[.complex .f64 x y, .int .i64 k] w fun e w' => e = .returned (.complex .f64 re im) ∧ w' = w) ∧ Whole re (turnRe (k % 4) a b) ∧ Whole im (turnIm (k % 4) a b) := by
  have hk := i64_and3 k
  obtain ⟨a1, a2⟩ := id ga
  obtain ⟨b1, b2⟩ := id gb
  rcases (show k % 4 = 0 ∨ k % 4 = 1 ∨ k % 4 = 2 ∨ k % 4 = 3 by omega) with h | h | h | h
  · rw [h] at hk ⊢
    exact ⟨x, y, turn_walk0 ha hb ga gb hk, ha, hb⟩
  · rw [h] at hk ⊢
    obtain ⟨re, im, hm, h1, h2⟩ := ha.times hb whole_0 whole_1 (by simp) (by simp; omega) (by simp; omega) (by simp) (by simp; omega) (by simp; omega)
    exact ⟨re, im, turn_walk1 ha hb ga gb hk hm, h1.cast (by simp [turnRe]), h2.cast (by simp [turnIm])⟩
  · rw [h] at hk ⊢
    exact ⟨_, _, turn_walk2 ha hb ga gb hk, ha.neg, hb.neg⟩
  · rw [h] at hk ⊢
    obtain ⟨re, im, hm, h1, h2⟩ := ha.times hb whole_0 whole_m1 (by simp) (by simp [Int.mul_neg]; omega) (by simp [Int.mul_neg]; omega) (by simp) (by simp [Int.mul_neg]; omega) (by simp [Int.mul_neg]; omega)
    exact ⟨re, im, turn_walk3 ha hb ga gb hk hm, h1.cast (by simp [turnRe, Int.mul_neg]), h2.cast (by simp [turnIm, Int.mul_neg])⟩
end Go.Proofs.YtojpfmlmalmlcaaGreatDoor.G
