/-
  Doubles that are whole numbers, without rounding: sums, products, order, to a whole number and back; pure, over the model's own floats. No condition beyond what each lemma asks.
-/
import Derived.Laws.ComplexArith
namespace Go.Proofs.Ytcejbkmmiklhbaa
open Ieee

/-- A number with a sign. -/
def sg (s : Bool) (m : Nat) : Int := if s then -(m : Int) else (m : Int)
theorem signed_eq (s : Bool) (m k : Nat) : signed s m k = sg s m * 2 ^ k := by
  cases s <;> simp [signed, sg, Nat.shiftLeft_eq, Int.neg_mul]
theorem sg_not (s : Bool) (m : Nat) : sg (!s) m = -sg s m := by cases s <;> simp [sg]
theorem sg_mul (s t : Bool) (m n : Nat) : sg (s ^^ t) (m * n) = sg s m * sg t n := by cases s <;> cases t <;> simp [sg, Int.neg_mul, Int.mul_neg]
theorem sg_scale (s : Bool) (m k : Nat) : sg s (m * k) = sg s m * (k : Int) := by cases s <;> simp [sg, Int.neg_mul]
theorem sg_abs (s : Bool) (m : Nat) : (sg s m).natAbs = m := by cases s <;> simp [sg]
theorem sg_neg (t : Int) (c : Bool) : sg (if t = 0 then c else decide (t < 0)) t.natAbs = t := by
  by_cases h : t = 0
  · subst h; cases c <;> simp [sg]
  · by_cases h2 : t < 0
    · simp only [h, if_false, h2, decide_true, sg, if_true]; omega
    · simp only [h, if_false, h2, decide_false, sg, Bool.false_eq_true]; omega
theorem pow_pos2 (k : Nat) : (0 : Int) < 2 ^ k := Int.pow_pos (by decide)

/-- d stands for the whole number n. -/
def Num (d : Datum) (n : Int) : Prop := ∃ s m i, d = .number s m i ∧ ∃ p q : Nat, (p : Int) - q = i ∧ sg s m * 2 ^ p = n * 2 ^ q

theorem cancel_pow {a b : Int} (k : Nat) (h : a * 2 ^ k = b * 2 ^ k) : a = b := Int.eq_of_mul_eq_mul_right (by have := pow_pos2 k; omega) h
theorem Num.flat {s : Bool} {m : Nat} {i n : Int} (h : Num (.number s m i) n) {p q : Nat} (e : (p : Int) - q = i) : sg s m * 2 ^ p = n * 2 ^ q := by
  obtain ⟨_, _, _, e0, p', q', e', h'⟩ := h
  cases e0
  refine cancel_pow q' ?_
  have e1 : (2 : Int) ^ p * 2 ^ q' = 2 ^ p' * 2 ^ q := by rw [← Int.pow_add, ← Int.pow_add]; congr 1; omega
  rw [Int.mul_assoc, e1, ← Int.mul_assoc, h']
  grind
theorem Num.one {d : Datum} {a b : Int} (h : Num d a) (k : Num d b) : a = b := by
  obtain ⟨s, m, i, rfl, p, q, e, h⟩ := h
  have := k.flat e
  exact cancel_pow q (h.symm.trans this)

theorem Num.opposite {d : Datum} {n : Int} (h : Num d n) : Num d.opposite (-n) := by
  obtain ⟨s, m, i, rfl, p, q, e, h⟩ := h
  refine ⟨_, _, _, rfl, p, q, e, ?_⟩
  rw [sg_not, Int.neg_mul, h, Int.neg_mul]

theorem Num.product {d e : Datum} {a b : Int} (h : Num d a) (k : Num e b) : ∃ r, d.product e = some r ∧ Num r (a * b) := by
  obtain ⟨s, m, i, rfl, p, q, e1, h⟩ := h
  obtain ⟨t, n, j, rfl, p', q', e2, k⟩ := k
  refine ⟨_, rfl, _, _, _, rfl, p + p', q + q', by omega, ?_⟩
  rw [sg_mul, Int.pow_add, Int.pow_add]
  grind

/-- Two places brought to one. -/
theorem common {i j : Int} {p q p' q' : Nat} (e1 : (p : Int) - q = i) (e2 : (p' : Int) - q' = j) : ∃ P : Nat, (P : Int) - (q + q' : Nat) = min i j ∧ (i - min i j).toNat + P = p + q' ∧ (j - min i j).toNat + P = p' + q := by
  by_cases h : i ≤ j
  · refine ⟨p + q', ?_, ?_, ?_⟩ <;> rw [Int.min_eq_left h] <;> omega
  · refine ⟨p' + q, ?_, ?_, ?_⟩ <;> rw [Int.min_eq_right (by omega)] <;> omega

theorem Num.sum {d e : Datum} {a b : Int} (h : Num d a) (k : Num e b) : ∃ r, d.sum e = some r ∧ Num r (a + b) := by
  obtain ⟨s, m, i, rfl, p, q, e1, h⟩ := h
  obtain ⟨t, n, j, rfl, p', q', e2, k⟩ := k
  obtain ⟨P, c1, c2, c3⟩ := common e1 e2
  refine ⟨_, rfl, _, _, _, rfl, P, q + q', c1, ?_⟩
  rw [sg_neg, signed_eq, signed_eq, Int.add_mul, Int.mul_assoc, Int.mul_assoc, ← Int.pow_add, ← Int.pow_add, c2, c3, Int.pow_add, Int.pow_add, Int.pow_add]
  grind

/-- How a number stands to a whole one. -/
theorem order_num {s : Bool} {m : Nat} {i : Int} {p q : Nat} (e1 : (p : Int) - q = i) {e : Datum} {b : Int} (k : Num e b) : (Datum.number s m i).order e = some (compare (sg s m * 2 ^ p) (b * 2 ^ q)) := by
  obtain ⟨t, n, j, rfl, p', q', e2, k⟩ := k
  obtain ⟨P, c1, c2, c3⟩ := common e1 e2
  have hx : signed s m (i - min i j).toNat * 2 ^ P = sg s m * 2 ^ p * 2 ^ q' := by rw [signed_eq, Int.mul_assoc, ← Int.pow_add, c2, Int.pow_add]; grind
  have hy : signed t n (j - min i j).toNat * 2 ^ P = b * 2 ^ q * 2 ^ q' := by rw [signed_eq, Int.mul_assoc, ← Int.pow_add, c3, Int.pow_add]; grind
  have P0 := pow_pos2 P
  have Q0 := pow_pos2 q'
  show some (compare (signed s m (i - min i j).toNat) (signed t n (j - min i j).toNat)) = _
  congr 1
  generalize signed s m (i - min i j).toNat = x at hx
  generalize signed t n (j - min i j).toNat = y at hy
  generalize sg s m * 2 ^ p = u at hx
  generalize b * 2 ^ q = v at hy
  rw [Int.compare_eq_ite_lt, Int.compare_eq_ite_lt]
  have h1 : x < y ↔ u < v := by
    rw [← Int.mul_lt_mul_right P0, hx, hy, Int.mul_lt_mul_right Q0]
  have h2 : y < x ↔ v < u := by
    rw [← Int.mul_lt_mul_right P0, hx, hy, Int.mul_lt_mul_right Q0]
  simp only [h1, h2]

theorem Num.order {d e : Datum} {a b : Int} (h : Num d a) (k : Num e b) : d.order e = some (compare a b) := by
  obtain ⟨s, m, i, rfl, p, q, e1, h⟩ := h
  rw [order_num e1 k, h]
  have Q0 := pow_pos2 q
  congr 1
  rw [Int.compare_eq_ite_lt, Int.compare_eq_ite_lt]
  simp only [Int.mul_lt_mul_right Q0]

/-- What is a multiple of 2^B is cut without a rest. -/
theorem cut_exact (way : Toward) (s : Bool) (K B : Nat) : way.cut s (K * 2 ^ B) B = K := by
  have hg : K = 0 ∨ min B ((K * 2 ^ B).log2 + 2) = B := by
    by_cases hK : K = 0
    · exact .inl hK
    · refine .inr (Nat.min_eq_left ?_)
      have h1 : 2 ^ B ≤ K * 2 ^ B := Nat.le_mul_of_pos_left _ (by omega)
      have h2 : K * 2 ^ B ≠ 0 := by have := Nat.two_pow_pos B; omega
      have := (Nat.le_log2 h2).2 h1
      omega
  unfold Toward.cut
  rcases hg with rfl | hg
  · have hp : 0 < 2 ^ min B ((0 * 2 ^ B).log2 + 2) := Nat.two_pow_pos _
    generalize 2 ^ min B ((0 * 2 ^ B).log2 + 2) = g at hp
    simp only [Nat.one_shiftLeft, Nat.zero_mul, Nat.zero_div, Nat.zero_mod]
    cases way <;> simp
  · have hp : 0 < 2 ^ B := Nat.two_pow_pos _
    rw [hg, Nat.one_shiftLeft]
    have e1 : K * 2 ^ B / 2 ^ B = K := Nat.mul_div_cancel _ hp
    have e2 : K * 2 ^ B % 2 ^ B = 0 := Nat.mul_mod_left _ _
    simp only [e1, e2]
    cases way <;> simp

theorem num_abs {s : Bool} {m : Nat} {n : Int} {p q : Nat} (h : sg s m * 2 ^ p = n * 2 ^ q) : m * 2 ^ p = n.natAbs * 2 ^ q ∧ sg s n.natAbs = n := by
  have h1 : (sg s m * 2 ^ p).natAbs = (n * 2 ^ q).natAbs := by rw [h]
  rw [Int.natAbs_mul, Int.natAbs_mul, sg_abs, Int.natAbs_pow, Int.natAbs_pow] at h1
  refine ⟨h1, ?_⟩
  by_cases hn : n = 0
  · subst hn; cases s <;> simp [sg]
  · have P0 := pow_pos2 p
    have Q0 := pow_pos2 q
    cases s
    · have h2 : (0 : Int) ≤ n * 2 ^ q := by rw [← h]; exact Int.mul_nonneg (by simp [sg]) (by omega)
      have : 0 ≤ n := Decidable.byContradiction fun hc => by
        have := Int.mul_neg_of_neg_of_pos (show n < 0 by omega) Q0
        omega
      simp only [sg, Bool.false_eq_true, if_false]; omega
    · have h2 : n * 2 ^ q ≤ 0 := by rw [← h]; exact Int.mul_nonpos_of_nonpos_of_nonneg (by simp [sg]) (by omega)
      have : n ≤ 0 := Decidable.byContradiction fun hc => by
        have := Int.mul_pos (show 0 < n by omega) Q0
        omega
      simp only [sg, if_true]; omega

theorem Num.toInt {d : Datum} {n : Int} (h : Num d n) : d.toInt .zero = some n := by
  obtain ⟨s, m, i, rfl, hpq⟩ := h
  have h : Num (.number s m i) n := ⟨s, m, i, rfl, hpq⟩
  obtain ⟨e1, e2⟩ := num_abs (h.flat (p := i.toNat) (q := (-i).toNat) (by omega))
  simp only [Datum.toInt, Datum.integral, Nat.shiftLeft_eq, e1, cut_exact, signed_eq, e2]
  simp

theorem read_word (s : Bool) (r : Nat) (h : r < 9223372036854775808) : double.read (double.word s r) = (if r < 4503599627370496 then .number s r (-1074)
    else if r < 9218868437227405312 then .number s (4503599627370496 + r % 4503599627370496) (-1074 + (r / 4503599627370496 - 1 : Nat)) else if r = 9218868437227405312 then .infinity s else .nan s (r - 9218868437227405312)) := by
  have hs : (double.word s r / 9223372036854775808 % 2 == 1) = s := by
    have hw : double.word s r = if s then 9223372036854775808 + r else r := rfl
    rw [hw]
    cases s
    · simp only [Bool.false_eq_true, if_false, beq_eq_false_iff_ne, ne_eq]; omega
    · simp only [if_true, beq_iff_eq]; omega
  have hr : double.word s r % 9223372036854775808 = r := by
    have hw : double.word s r = if s then 9223372036854775808 + r else r := rfl
    rw [hw]
    cases s
    · simp only [Bool.false_eq_true, if_false]; omega
    · simp only [if_true]; omega
  show (let neg := double.word s r / 9223372036854775808 % 2 == 1
    let rung := double.word s r % 9223372036854775808
    if rung < 4503599627370496 then Datum.number neg rung (-1074)
    else if rung < 9218868437227405312 then Datum.number neg (4503599627370496 + rung % 4503599627370496) (-1074 + (rung / 4503599627370496 - 1 : Nat)) else if rung = 9218868437227405312 then .infinity neg else .nan neg (rung - 9218868437227405312)) = _
  simp only [hs, hr]

theorem log2_of {m k L n : Nat} (hn : n ≠ 0) (h : m * 2 ^ k = n * 2 ^ L) : m.log2 + k = n.log2 + L := by
  have hm : m ≠ 0 := by
    rintro rfl
    have := Nat.mul_pos (Nat.pos_of_ne_zero hn) (Nat.two_pow_pos L)
    omega
  have a1 := Nat.log2_self_le hm
  have a2 := @Nat.lt_log2_self m
  have b1 := Nat.log2_self_le hn
  have b2 := @Nat.lt_log2_self n
  have c1 : 2 ^ (m.log2 + k) ≤ m * 2 ^ k := by rw [Nat.pow_add]; exact Nat.mul_le_mul_right _ a1
  have c2 : m * 2 ^ k < 2 ^ (m.log2 + 1 + k) := by rw [Nat.pow_add]; exact Nat.mul_lt_mul_of_pos_right a2 (Nat.two_pow_pos k)
  have d1 : 2 ^ (n.log2 + L) ≤ n * 2 ^ L := by rw [Nat.pow_add]; exact Nat.mul_le_mul_right _ b1
  have d2 : n * 2 ^ L < 2 ^ (n.log2 + 1 + L) := by rw [Nat.pow_add]; exact Nat.mul_lt_mul_of_pos_right b2 (Nat.two_pow_pos L)
  have x1 := (Nat.pow_lt_pow_iff_right (a := 2) (by decide)).1 (Nat.lt_of_le_of_lt c1 (h ▸ d2))
  have x2 := (Nat.pow_lt_pow_iff_right (a := 2) (by decide)).1 (Nat.lt_of_le_of_lt d1 (h ▸ c2))
  omega

/-- A whole number below 2^53 is written as it is. -/
theorem write_num {s : Bool} {m : Nat} {i n : Int} (h : Num (.number s m i) n) (hn : n.natAbs < 9007199254740992) : Num (double.read (double.nearest s m i)) n := by
  have hf := h.flat (p := i.toNat) (q := (-i).toNat) (by omega)
  obtain ⟨e1, e2⟩ := num_abs hf
  by_cases h0 : n = 0
  · subst h0
    have hm : m = 0 := by
      have := Nat.two_pow_pos i.toNat
      rcases Nat.eq_zero_or_pos m with h | h
      · exact h
      · have := Nat.mul_pos h this
        simp at e1
        omega
    subst hm
    have hw : double.nearest s 0 i = double.word s 0 := by simp [Format.nearest]
    rw [hw, read_word s 0 (by decide)]
    exact ⟨s, 0, -1074, rfl, 0, 1074, by decide, by rw [show sg s 0 = 0 by cases s <;> rfl, Int.zero_mul, Int.zero_mul]⟩
  · have hna : n.natAbs ≠ 0 := by omega
    have hm : m ≠ 0 := by
      rintro rfl
      have := Nat.mul_pos (Nat.pos_of_ne_zero hna) (Nat.two_pow_pos (-i).toNat)
      omega
    have hl := log2_of hna e1
    obtain ⟨L, hL⟩ : ∃ L, n.natAbs.log2 = L := ⟨_, rfl⟩
    rw [hL] at hl
    have L1 := Nat.log2_self_le hna
    have L2 := @Nat.lt_log2_self n.natAbs
    rw [hL] at L1 L2
    have L52 : L < 53 := by
      have : 2 ^ L < 2 ^ 53 := Nat.lt_of_le_of_lt L1 (by simpa using hn)
      exact (Nat.pow_lt_pow_iff_right (a := 2) (by decide)).1 this
    obtain ⟨K, hK⟩ : ∃ K, n.natAbs * 2 ^ (52 - L) = K := ⟨_, rfl⟩
    have K1 : 4503599627370496 ≤ K := by
      rw [← hK]
      have := Nat.mul_le_mul_right (2 ^ (52 - L)) L1
      rw [← Nat.pow_add, show L + (52 - L) = 52 by omega] at this
      simpa using this
    have K2 : K < 9007199254740992 := by
      rw [← hK]
      have := Nat.mul_lt_mul_of_pos_right L2 (Nat.two_pow_pos (52 - L))
      rw [← Nat.pow_add, show L + 1 + (52 - L) = 53 by omega] at this
      simpa using this
    have hlast : max (i + (m.log2 : Int) - 52) (-1074) = (L : Int) - 52 := by
      rw [Int.max_eq_left (by omega)]; omega
    have hcut : Toward.even.cut s (m <<< (i - ((L : Int) - 52)).toNat) (((L : Int) - 52) - i).toNat = K := by
      rw [Nat.shiftLeft_eq]
      have : m * 2 ^ (i - ((L : Int) - 52)).toNat = K * 2 ^ (((L : Int) - 52) - i).toNat := by
        refine Nat.eq_of_mul_eq_mul_right (Nat.two_pow_pos i.toNat) ?_
        rw [Nat.mul_assoc, Nat.mul_comm (2 ^ (i - ((L : Int) - 52)).toNat), ← Nat.mul_assoc, e1, ← hK, Nat.mul_assoc, Nat.mul_assoc, Nat.mul_assoc, ← Nat.pow_add, ← Nat.pow_add, ← Nat.pow_add]
        congr 2
        omega
      rw [this, cut_exact]
    have hw : double.nearest s m i = double.word s ((1022 + L) * 4503599627370496 + K) := by
      have : double.nearest s m i = (if m = 0 then double.word s 0 else
        let last := max (i + (m.log2 : Int) - 52) (-1074)
        let kept := Toward.even.cut s (m <<< (i - last).toNat) (last - i).toNat
        double.word s (min ((last - -1074).toNat * 4503599627370496 + kept) 9218868437227405312)) := rfl
      rw [this, if_neg hm]
      simp only [hlast, hcut]
      congr 1
      rw [Nat.min_eq_left (by omega)]
      congr 2
      omega
    rw [hw, read_word s _ (by omega), if_neg (by omega), if_pos (by omega)]
    refine ⟨s, _, _, rfl, 0, 52 - L, ?_, ?_⟩
    · have : ((1022 + L) * 4503599627370496 + K) / 4503599627370496 = 1023 + L := by omega
      rw [this]; omega
    · have : 4503599627370496 + ((1022 + L) * 4503599627370496 + K) % 4503599627370496 = K := by omega
      rw [this, ← hK, sg_scale, e2]
      simp

end Go.Proofs.Ytcejbkmmiklhbaa
