/-
  Doubles by their patterns: what a pattern tells, which number has a pattern, which pattern is a whole number: pure; no condition beyond what each lemma asks.
  Which pattern is nearest to a number A / B (in units of 2^-1074): pure; no condition beyond what each lemma asks.
  Decimal numbers 0.digits times 10^x: what number, which is greater; pure. No condition beyond what each lemma asks.
  The document's Split: what a pattern tells. For all patterns; no condition.
-/
import Derived.Test.YtojpfmlmalmlcaaGreatDoorBase
import Derived.Lib.TrailingZeros
import Derived.Lib.BitFns
import Derived.Laws.Bits64b
namespace Go.Proofs.YtojpfmlmalmlcaaGreatDoor
open Go.RowKit
/-- What a pattern without its sign tells: its kind, m, e. -/
def kOf (r : Nat) : Int := if r = 0 then 1 else if r < 9218868437227405312 then 2 else if r = 9218868437227405312 then 3 else 4
def mOf (r : Nat) : Nat := if r < 4503599627370496 then r else if r < 9218868437227405312 then 4503599627370496 + r % 4503599627370496 else 0
def eOf (r : Nat) : Int := if r = 0 then 0 else if r < 4503599627370496 then -1074 else if r < 9218868437227405312 then ((r / 4503599627370496 : Nat) : Int) - 1075 else 0
/-- A pattern with its sign. -/
def pat (s : Bool) (r : Nat) : Nat := if s then 9223372036854775808 + r else r
theorem pat_parts {x : Nat} (h : x < 18446744073709551616) : ∃ s r, r < 9223372036854775808 ∧ x = pat s r := by
  by_cases c : x < 9223372036854775808
  · exact ⟨false, x, c, rfl⟩
  · exact ⟨true, x - 9223372036854775808, by omega, by simp [pat]; omega⟩
theorem pat_lt {s : Bool} {r : Nat} (h : r < 9223372036854775808) : pat s r < 18446744073709551616 := by
  cases s <;> simp [pat] <;> omega
theorem pat_inj {s s' : Bool} {r r' : Nat} (h : r < 9223372036854775808) (h' : r' < 9223372036854775808) (e : pat s r = pat s' r') : s = s' ∧ r = r' := by
  cases s <;> cases s' <;> simp [pat] at e ⊢ <;> omega
theorem m_lt (r : Nat) : mOf r < 9007199254740992 := by
  unfold mOf
  split
  · omega
  · split <;> omega
/-- A number as an odd one, moved up by t places; the odd one has L digits. -/
structure OddOf (m o t L : Nat) : Prop where
  eq : m = o * 2 ^ t
  odd : o % 2 = 1
  lo : 2 ^ (L - 1) ≤ o
  hi : o < 2 ^ L
  pos : 1 ≤ L
  fit : L + t ≤ 64
theorem len_bounds {n : Nat} (h0 : n ≠ 0) (h : n < 2 ^ 64) : 2 ^ (Lib.bitLen n - 1) ≤ n ∧ n < 2 ^ Lib.bitLen n ∧ 1 ≤ Lib.bitLen n := by
  have key : ∀ k n : Nat, n ≠ 0 → n < 2 ^ k → k ≤ 64 → 2 ^ (Lib.bitLen n - 1) ≤ n ∧ n < 2 ^ Lib.bitLen n ∧ 1 ≤ Lib.bitLen n := by
    intro k
    induction k with
    | zero => intro n h0 h; simp at h; omega
    | succ k ih =>
      intro n h0 h hk
      have hn : n < 2 ^ 64 := Nat.lt_of_lt_of_le h (Nat.pow_le_pow_right (by decide) hk)
      have hb := Lib.bitLen_half n h0 hn
      by_cases c : n / 2 = 0
      · have h1 : n = 1 := by omega
        subst h1
        decide
      · obtain ⟨a, b, d⟩ := ih (n / 2) c (by rw [Nat.pow_succ] at h; omega) (by omega)
        rw [hb]
        generalize Lib.bitLen (n / 2) = L at *
        obtain ⟨l, rfl⟩ : ∃ l, L = l + 1 := ⟨L - 1, by omega⟩
        rw [show 1 + (l + 1) - 1 = l + 1 by omega, show 1 + (l + 1) = l + 1 + 1 by omega]
        simp only [Nat.add_sub_cancel] at a
        rw [Nat.pow_succ] at *
        omega
  exact key 64 n h0 h (Nat.le_refl _)
def tOf (m : Nat) : Nat := Lib.ctz 64 m
def oOf (m : Nat) : Nat := m / 2 ^ tOf m
def lOf (m : Nat) : Nat := Lib.bitLen (oOf m)
theorem odd_of {m : Nat} (h0 : 0 < m) (h : m < 18446744073709551616) : OddOf m (oOf m) (tOf m) (lOf m) := by
  obtain ⟨k, hk, ht⟩ := Lib.ctzFrom_spec 64 m h0 h
  have e : tOf m = Lib.ctzFrom 64 m := by simp [tOf, Lib.ctz]; omega
  rw [← e] at hk ht
  unfold lOf
  have ho : oOf m = 2 * k + 1 := by
    unfold oOf
    generalize tOf m = t at *
    rw [hk, Nat.mul_div_cancel_left _ (Nat.two_pow_pos t)]
  generalize tOf m = t at *
  rw [ho]
  have hm : m = (2 * k + 1) * 2 ^ t := by rw [hk, Nat.mul_comm]
  have hle : 2 * k + 1 ≤ m := by rw [hm]; exact Nat.le_mul_of_pos_right _ (Nat.two_pow_pos t)
  obtain ⟨a, b, c⟩ := len_bounds (n := 2 * k + 1) (by omega) (by omega)
  refine ⟨hm, by omega, a, b, c, ?_⟩
  apply Nat.le_of_not_lt
  intro hlt
  have h1 : 2 ^ 64 ≤ 2 ^ (Lib.bitLen (2 * k + 1) - 1 + t) := Nat.pow_le_pow_right (by decide) (by omega)
  have h2 : 2 ^ (Lib.bitLen (2 * k + 1) - 1 + t) ≤ m := by
    rw [Nat.pow_add, hm]
    exact Nat.mul_le_mul_right _ a
  omega
theorem odd_one {o o' a b : Nat} (h : o * 2 ^ a = o' * 2 ^ b) (h1 : o % 2 = 1) (h2 : o' % 2 = 1) : o = o' ∧ a = b := by
  have key : ∀ (o o' a d : Nat), o * 2 ^ a = o' * 2 ^ (a + d) → o % 2 = 1 → d = 0 := by
    intro o o' a d h h1
    cases d with
    | zero => rfl
    | succ d =>
      rw [Nat.pow_add, ← Nat.mul_assoc, Nat.mul_right_comm] at h
      have := Nat.eq_of_mul_eq_mul_right (Nat.two_pow_pos a) h
      rw [Nat.pow_succ, ← Nat.mul_assoc] at this
      omega
  rcases Nat.le_total a b with hab | hab
  · obtain ⟨d, rfl⟩ := Nat.exists_eq_add_of_le hab
    have := key o o' a d h h1
    subst this
    exact ⟨Nat.eq_of_mul_eq_mul_right (Nat.two_pow_pos _) h, rfl⟩
  · obtain ⟨d, rfl⟩ := Nat.exists_eq_add_of_le hab
    have := key o' o b d h.symm h2
    subst this
    exact ⟨Nat.eq_of_mul_eq_mul_right (Nat.two_pow_pos _) h, rfl⟩
/-- Where what Split would tell has its e: 53 digits at most, and not below the least one. -/
def uOf (l : Nat) (e : Int) : Int := if e + (l : Int) - 53 < -1074 then -1074 else e + (l : Int) - 53
/-- The pattern without sign of o times 2^e, o of l digits. -/
def joinO (o l : Nat) (e : Int) : Option Nat :=
  if e < uOf l e then none else if 971 < uOf l e then none else some (o * 2 ^ (e - uOf l e).toNat + (uOf l e + 1074).toNat * 4503599627370496)
def joinP (m : Nat) (e : Int) : Option Nat := if m = 0 then some 0 else joinO (oOf m) (lOf m) (e + (tOf m : Int))
theorem join_far {m : Nat} {e : Int} (h0 : 0 < m) (h : m < 18446744073709551616) (he : e < -1137 ∨ 1023 < e) : joinP m e = none := by
  have ho := odd_of h0 h
  unfold joinP joinO
  rw [if_neg (by omega)]
  have := ho.pos
  have := ho.fit
  generalize lOf m = l at *
  generalize tOf m = t at *
  unfold uOf
  rcases he with he | he
  · rw [if_pos (by split <;> omega)]
  · split
    · rw [if_pos (by omega)]
    · split
      · rfl
      · rw [if_pos (by omega)]
/-- What a pattern that was made tells. -/
theorem join_tells {o l : Nat} {e : Int} {r : Nat} (lo : 2 ^ (l - 1) ≤ o) (hi : o < 2 ^ l) (pos : 1 ≤ l) (h : joinO o l e = some r) :
    ∃ j : Nat, (j : Int) = e - uOf l e ∧ r ≠ 0 ∧ r < 9218868437227405312 ∧ mOf r = o * 2 ^ j ∧ eOf r = uOf l e ∧ -1074 ≤ uOf l e ∧ uOf l e ≤ 971 ∧ o * 2 ^ j < 9007199254740992 ∧ (4503599627370496 ≤ o * 2 ^ j ∨ uOf l e = -1074) ∧
      r = o * 2 ^ j + (uOf l e + 1074).toNat * 4503599627370496 := by
  unfold joinO at h
  split at h
  · cases h
  · rename_i h1
    split at h
    · cases h
    · rename_i h2
      have hr := Option.some.inj h
      clear h
      obtain ⟨j, hj⟩ : ∃ j : Nat, (j : Int) = e - uOf l e := ⟨(e - uOf l e).toNat, by omega⟩
      rw [show (e - uOf l e).toNat = j by omega] at hr
      have hu : -1074 ≤ uOf l e := by unfold uOf; split <;> omega
      have hlj : l + j ≤ 53 := by unfold uOf at hj; split at hj <;> omega
      have hM : o * 2 ^ j < 9007199254740992 := by
        have a1 : o * 2 ^ j < 2 ^ l * 2 ^ j := Nat.mul_lt_mul_of_pos_right hi (Nat.two_pow_pos j)
        rw [← Nat.pow_add] at a1
        have a2 : 2 ^ (l + j) ≤ 2 ^ 53 := Nat.pow_le_pow_right (by decide) hlj
        omega
      have hM0 : 0 < o * 2 ^ j := Nat.mul_pos (Nat.lt_of_lt_of_le (Nat.two_pow_pos _) lo) (Nat.two_pow_pos j)
      have hM1 : 4503599627370496 ≤ o * 2 ^ j ∨ uOf l e = -1074 := by
        by_cases c : e + (l : Int) - 53 < -1074
        · right; unfold uOf; rw [if_pos c]
        · left
          have hue : uOf l e = e + (l : Int) - 53 := by unfold uOf; rw [if_neg c]
          have h53 : l - 1 + j = 52 := by omega
          have a1 : 2 ^ (l - 1) * 2 ^ j ≤ o * 2 ^ j := Nat.mul_le_mul_right _ lo
          rw [← Nat.pow_add, h53] at a1
          omega
      refine ⟨j, hj, ?_⟩
      generalize o * 2 ^ j = M at *
      generalize uOf l e = u at *
      clear hj hlj
      obtain ⟨q, hq⟩ : ∃ q : Nat, (q : Int) = u + 1074 := ⟨(u + 1074).toNat, by omega⟩
      rw [show (u + 1074).toNat = q by omega] at *
      have hq2 : q ≤ 2045 := by omega
      refine ⟨by omega, by omega, ?_, ?_, hu, by omega, hM, hM1, hr.symm⟩
      · unfold mOf
        rw [← hr]
        rcases hM1 with h4 | h4
        · rw [if_neg (by omega), if_pos (by omega)]; omega
        · have hq0 : q = 0 := by omega
          subst hq0
          split
          · omega
          · rw [if_pos (by omega)]; omega
      · unfold eOf
        rw [← hr]
        rcases hM1 with h4 | h4
        · rw [if_neg (by omega), if_neg (by omega), if_pos (by omega)]; omega
        · have hq0 : q = 0 := by omega
          subst hq0
          rw [if_neg (by omega)]
          split
          · omega
          · rw [if_pos (by omega)]; omega
set_option maxRecDepth 100000 in
/-- What a pattern tells makes it again. -/
theorem join_back {r : Nat} (h : r < 9218868437227405312) : joinP (mOf r) (eOf r) = some r := by
  by_cases c0 : r = 0
  · subst c0; rfl
  have hm0 : 0 < mOf r := by
    unfold mOf
    split
    · omega
    · omega
  have ho := odd_of hm0 (Nat.lt_trans (m_lt r) (by decide))
  unfold joinP
  rw [if_neg (by omega)]
  have hmlt := m_lt r
  have hm : mOf r = mOf r := rfl
  generalize hmm : mOf r = m at ho hmlt hm0 ⊢
  clear hm
  have hm := hmm.symm
  clear hmm
  generalize oOf m = o at *
  generalize tOf m = t at *
  generalize lOf m = l at *
  obtain ⟨eq, _, lo, hi, pos, fit⟩ := ho
  have h1 : l - 1 + t < 53 := by
    apply Nat.lt_of_not_le
    intro hle
    have a1 : 2 ^ (l - 1) * 2 ^ t ≤ o * 2 ^ t := Nat.mul_le_mul_right _ lo
    rw [← Nat.pow_add, ← eq] at a1
    have a2 : 2 ^ 53 ≤ 2 ^ (l - 1 + t) := Nat.pow_le_pow_right (by decide) hle
    omega
  by_cases c : r < 4503599627370496
  · have e1 : eOf r = -1074 := by unfold eOf; rw [if_neg c0, if_pos c]
    have e2 : m = r := by rw [hm]; unfold mOf; rw [if_pos c]
    have hu : uOf l (eOf r + (t : Int)) = -1074 := by unfold uOf; rw [e1]; split <;> omega
    unfold joinO
    rw [hu, e1, if_neg (by omega), if_neg (by omega), show (-1074 + (t : Int) - -1074).toNat = t by omega, ← eq, e2]
    simp
  · have e1 : eOf r = ((r / 4503599627370496 : Nat) : Int) - 1075 := by unfold eOf; rw [if_neg c0, if_neg c, if_pos h]
    have e2 : m = 4503599627370496 + r % 4503599627370496 := by rw [hm]; unfold mOf; rw [if_neg c, if_pos h]
    have h2 : 53 ≤ l + t := by
      apply Nat.le_of_not_lt
      intro hlt
      have a1 : o * 2 ^ t < 2 ^ l * 2 ^ t := Nat.mul_lt_mul_of_pos_right hi (Nat.two_pow_pos t)
      rw [← Nat.pow_add, ← eq] at a1
      have a2 : 2 ^ (l + t) ≤ 2 ^ 52 := Nat.pow_le_pow_right (by decide) (by omega)
      omega
    have hu : uOf l (eOf r + (t : Int)) = eOf r := by
      unfold uOf
      rw [if_neg (by omega)]
      omega
    unfold joinO
    rw [hu, if_neg (by omega), if_neg (by omega), show (eOf r + (t : Int) - eOf r).toNat = t by omega, ← eq, e2, e1]
    congr 1
    omega
/-- The whole number that a pattern is, if there is one, and it is an int64. -/
def wholeA (s : Bool) (V : Nat) : Option Int := if s then (if V ≤ 9223372036854775808 then some (-(V : Int)) else none) else if V < 9223372036854775808 then some (V : Int) else none
def wholeO (s : Bool) (o : Nat) (e : Int) : Option Int := if e < 0 then none else wholeA s (o * 2 ^ e.toNat)
def wholeP (s : Bool) (r : Nat) : Option Int :=
  if r = 0 then some 0 else if 9218868437227405312 ≤ r then none else wholeO s (oOf (mOf r)) (eOf r + (tOf (mOf r) : Int))
/-- A number that goes into a pattern comes back. -/
theorem whole_back {V : Nat} {s : Bool} {p : Nat} (h : joinP V 0 = some p) (hV : V ≤ 9223372036854775808) (hs : s = false → V < 9223372036854775808) : wholeP s p = some (if s then -(V : Int) else (V : Int)) := by
  by_cases c0 : V = 0
  · subst c0
    obtain rfl : 0 = p := Option.some.inj h
    cases s <;> rfl
  have ho := odd_of (m := V) (by omega) (by omega)
  unfold joinP at h
  rw [if_neg c0] at h
  generalize oOf V = o at *
  generalize tOf V = t at *
  generalize lOf V = l at *
  obtain ⟨j, hj, p0, p1, pm, pe, u0, u1, hM, _, _⟩ := join_tells ho.lo ho.hi ho.pos h
  unfold wholeP
  rw [if_neg p0, if_neg (by omega)]
  have hmm : 0 < mOf p := by
    rw [pm]
    exact Nat.mul_pos (Nat.lt_of_lt_of_le (Nat.two_pow_pos _) ho.lo) (Nat.two_pow_pos j)
  have hp := odd_of hmm (by rw [pm]; omega)
  have h1 := hp.eq
  rw [pm] at h1
  rw [pm] at hp
  obtain ⟨e1, e2⟩ := odd_one h1 ho.odd hp.odd
  rw [pm, ← e1, ← e2, pe]
  unfold wholeO
  rw [if_neg (by omega), show (uOf l (0 + (t : Int)) + (j : Int)).toNat = t by omega, ← ho.eq]
  unfold wholeA
  cases s
  · simp [hs rfl]
  · simp [hV]
end Go.Proofs.YtojpfmlmalmlcaaGreatDoor

namespace Go.Proofs.YtojpfmlmalmlcaaGreatDoor
/-- A pattern's number, in units of 2^-1074; that of infinity goes on as if. -/
def vN (p : Nat) : Nat := if p < 4503599627370496 then p else (4503599627370496 + p % 4503599627370496) * 2 ^ (p / 4503599627370496 - 1)
theorem vN_low {p : Nat} (h : p < 4503599627370496) : vN p = p := if_pos h
theorem vN_high {p : Nat} (h : ¬ p < 4503599627370496) : vN p = (4503599627370496 + p % 4503599627370496) * 2 ^ (p / 4503599627370496 - 1) := if_neg h
theorem vN_step (p : Nat) : vN (p + 1) = vN p + 2 ^ (p / 4503599627370496 - 1) := by
  by_cases h : p < 4503599627370496
  · have e : p / 4503599627370496 - 1 = 0 := by omega
    rw [e, vN_low h, Nat.pow_zero]
    by_cases h2 : p + 1 < 4503599627370496
    · rw [vN_low h2]
    · have e1 : p + 1 = 4503599627370496 := by omega
      rw [e1]
      rw [vN_high (by decide)]
  · rw [vN_high h, vN_high (show ¬ p + 1 < 4503599627370496 by omega)]
    by_cases h2 : p % 4503599627370496 = 4503599627370495
    · have e1 : (p + 1) % 4503599627370496 = 0 := by omega
      have e2 : (p + 1) / 4503599627370496 - 1 = p / 4503599627370496 - 1 + 1 := by omega
      rw [e1, e2, h2, Nat.pow_succ]
      generalize 2 ^ (p / 4503599627370496 - 1) = u
      omega
    · have e1 : (p + 1) % 4503599627370496 = p % 4503599627370496 + 1 := by omega
      have e2 : (p + 1) / 4503599627370496 = p / 4503599627370496 := by omega
      rw [e1, e2]
      generalize 2 ^ (p / 4503599627370496 - 1) = u
      rw [← Nat.add_assoc, Nat.add_mul, Nat.one_mul]
theorem vN_up (p : Nat) : vN p < vN (p + 1) := by
  rw [vN_step]
  have := Nat.two_pow_pos (p / 4503599627370496 - 1)
  omega
theorem vN_lt {p q : Nat} (h : p < q) : vN p < vN q := by
  induction q with
  | zero => omega
  | succ q ih =>
    rcases Nat.lt_or_ge p q with h1 | h1
    · exact Nat.lt_trans (ih h1) (vN_up q)
    · have : p = q := by omega
      subst this
      exact vN_up p
theorem vN_le {p q : Nat} (h : p ≤ q) : vN p ≤ vN q := by
  rcases Nat.lt_or_ge p q with h1 | h1
  · exact Nat.le_of_lt (vN_lt h1)
  · have : p = q := by omega
    subst this
    exact Nat.le_refl _
/-- What Split tells is that number. -/
theorem vN_split {p : Nat} (h0 : ¬ p = 0) (h : p < 9218868437227405312) : ∃ k : Nat, (k : Int) = eOf p + 1074 ∧ vN p = mOf p * 2 ^ k ∧ vN p + vN (p + 1) = (2 * mOf p + 1) * 2 ^ k := by
  have key : ∃ k : Nat, (k : Int) = eOf p + 1074 ∧ vN p = mOf p * 2 ^ k ∧ p / 4503599627370496 - 1 = k := by
    by_cases c : p < 4503599627370496
    · refine ⟨0, ?_, ?_, by omega⟩
      · unfold eOf; rw [if_neg h0, if_pos c]; rfl
      · rw [vN_low c]; unfold mOf; rw [if_pos c]; simp
    · refine ⟨p / 4503599627370496 - 1, ?_, ?_, rfl⟩
      · unfold eOf; rw [if_neg h0, if_neg c, if_pos h]; omega
      · rw [vN_high c]; unfold mOf; rw [if_neg c, if_pos h]
  obtain ⟨k, h1, h2, h3⟩ := key
  refine ⟨k, h1, h2, ?_⟩
  rw [vN_step, h3, h2, Nat.add_mul, Nat.one_mul, Nat.mul_assoc 2]
  omega
/-- The pattern p is the nearest to A / B; of two the one whose lowest bit is 0; that of infinity stands for all beyond. -/
def NearIs (A B p : Nat) : Prop :=
  p ≤ 9218868437227405312 ∧ (p = 0 ∨ (vN (p - 1) + vN p) * B < 2 * A ∨ (p % 2 = 0 ∧ (vN (p - 1) + vN p) * B = 2 * A)) ∧
    (p = 9218868437227405312 ∨ 2 * A < (vN p + vN (p + 1)) * B ∨ (p % 2 = 0 ∧ 2 * A = (vN p + vN (p + 1)) * B))
theorem near_mono {A B A' B' p q : Nat} (hB : 0 < B) (hB' : 0 < B') (h : A * B' ≤ A' * B) (hp : NearIs A B p) (hq : NearIs A' B' q) : p ≤ q := by
  apply Nat.le_of_not_lt
  intro hlt
  obtain ⟨p1, p2, _⟩ := hp
  obtain ⟨q1, _, q3⟩ := hq
  have hp2 : (vN (p - 1) + vN p) * B ≤ 2 * A := by omega
  have hq3 : 2 * A' ≤ (vN q + vN (q + 1)) * B' := by omega
  have e1 : vN q ≤ vN (p - 1) := vN_le (by omega)
  have e2 : vN (q + 1) ≤ vN p := vN_le (by omega)
  have s1 : (vN (p - 1) + vN p) * B * B' ≤ 2 * A * B' := Nat.mul_le_mul_right _ hp2
  have s2 : 2 * A' * B ≤ (vN q + vN (q + 1)) * B' * B := Nat.mul_le_mul_right _ hq3
  have s3 : 2 * A * B' ≤ 2 * A' * B := by
    have := Nat.mul_le_mul_left 2 h
    rw [← Nat.mul_assoc, ← Nat.mul_assoc] at this
    exact this
  have s4 : (vN q + vN (q + 1)) * B' * B = (vN q + vN (q + 1)) * B * B' := Nat.mul_right_comm _ _ _
  have s5 : (vN (p - 1) + vN p) * B * B' ≤ (vN q + vN (q + 1)) * B * B' := by omega
  have s6 := Nat.le_of_mul_le_mul_right (Nat.le_of_mul_le_mul_right s5 hB') hB
  have hpq : p = q + 1 := by
    apply Nat.le_antisymm _ hlt
    apply Nat.le_of_not_lt
    intro h2
    have := vN_lt (p := q + 1) (q := p) h2
    omega
  have s7 : vN (p - 1) + vN p = vN q + vN (q + 1) := by omega
  rw [s7] at hp2 s1 p2
  have s8 : (vN q + vN (q + 1)) * B * B' = 2 * A * B' := by omega
  have s9 : 2 * A' * B = (vN q + vN (q + 1)) * B' * B := by omega
  have t1 := Nat.eq_of_mul_eq_mul_right hB' s8
  have t2 := Nat.eq_of_mul_eq_mul_right hB s9
  omega
/-- There is one alone. -/
theorem near_one {A B p q : Nat} (hB : 0 < B) (hp : NearIs A B p) (hq : NearIs A B q) : p = q :=
  Nat.le_antisymm (near_mono hB hB (Nat.le_refl _) hp hq) (near_mono hB hB (Nat.le_refl _) hq hp)
/-- It hangs on the quotient alone. -/
theorem near_same {A B A' B' p : Nat} (hB : 0 < B) (hB' : 0 < B') (h : A * B' = A' * B) (hp : NearIs A B p) : NearIs A' B' p := by
  have lt1 : ∀ X, X * B < 2 * A → X * B' < 2 * A' := by
    intro X hX
    have s1 : X * B * B' < 2 * A * B' := Nat.mul_lt_mul_of_pos_right hX hB'
    have s2 : 2 * A * B' = 2 * A' * B := by rw [Nat.mul_assoc, h, Nat.mul_assoc]
    rw [s2, Nat.mul_right_comm X B B'] at s1
    exact Nat.lt_of_mul_lt_mul_right s1
  have lt2 : ∀ X, 2 * A < X * B → 2 * A' < X * B' := by
    intro X hX
    have s1 : 2 * A * B' < X * B * B' := Nat.mul_lt_mul_of_pos_right hX hB'
    have s2 : 2 * A * B' = 2 * A' * B := by rw [Nat.mul_assoc, h, Nat.mul_assoc]
    rw [s2, Nat.mul_right_comm X B B'] at s1
    exact Nat.lt_of_mul_lt_mul_right s1
  have eq1 : ∀ X, X * B = 2 * A → X * B' = 2 * A' := by
    intro X hX
    have s2 : 2 * A * B' = 2 * A' * B := by rw [Nat.mul_assoc, h, Nat.mul_assoc]
    have s1 : X * B' * B = 2 * A' * B := by rw [Nat.mul_right_comm, hX, s2]
    exact Nat.eq_of_mul_eq_mul_right hB s1
  obtain ⟨p1, p2, p3⟩ := hp
  refine ⟨p1, ?_, ?_⟩
  · rcases p2 with h | h | ⟨h, h2⟩
    · exact .inl h
    · exact .inr (.inl (lt1 _ h))
    · exact .inr (.inr ⟨h, eq1 _ h2⟩)
  · rcases p3 with h | h | ⟨h, h2⟩
    · exact .inl h
    · exact .inr (.inl (lt2 _ h))
    · exact .inr (.inr ⟨h, (eq1 _ h2.symm).symm⟩)
/-- From the greatest pattern that is not above the number. -/
theorem near_lo {A B lo : Nat} (hB : 0 < B) (h0 : lo ≤ 9218868437227405311) (h1 : vN lo * B ≤ A) (h2 : 2 * A < (vN lo + vN (lo + 1)) * B ∨ (lo % 2 = 0 ∧ 2 * A = (vN lo + vN (lo + 1)) * B)) : NearIs A B lo := by
  refine ⟨by omega, ?_, .inr h2⟩
  by_cases c : lo = 0
  · exact .inl c
  · right; left
    have e : vN (lo - 1) < vN lo := vN_lt (by omega)
    have s1 : (vN (lo - 1) + vN lo) * B < (2 * vN lo) * B := Nat.mul_lt_mul_of_pos_right (by omega) hB
    rw [Nat.mul_assoc] at s1
    omega
theorem near_hi {A B lo : Nat} (hB : 0 < B) (h0 : lo ≤ 9218868437227405311) (h1 : lo = 9218868437227405311 ∨ A < vN (lo + 1) * B) (h2 : (vN lo + vN (lo + 1)) * B < 2 * A ∨ (lo % 2 = 1 ∧ (vN lo + vN (lo + 1)) * B = 2 * A)) : NearIs A B (lo + 1) := by
  refine ⟨by omega, ?_, ?_⟩
  · right
    rw [Nat.add_sub_cancel]
    rcases h2 with h2 | ⟨h2, h3⟩
    · exact .inl h2
    · exact .inr ⟨by omega, h3⟩
  · rcases h1 with h1 | h1
    · exact .inl (by omega)
    · right; left
      have e : vN (lo + 1) < vN (lo + 1 + 1) := vN_up _
      have s1 : (2 * vN (lo + 1)) * B < (vN (lo + 1) + vN (lo + 1 + 1)) * B := Nat.mul_lt_mul_of_pos_right (by omega) hB
      rw [Nat.mul_assoc] at s1
      omega
/-- A number that a pattern is. -/
theorem near_exact {A B p : Nat} (hB : 0 < B) (h : p ≤ 9218868437227405311) (hA : A = vN p * B) : NearIs A B p := by
  refine near_lo hB h (by omega) (.inl ?_)
  have e := vN_up p
  have s1 : (2 * vN p) * B < (vN p + vN (p + 1)) * B := Nat.mul_lt_mul_of_pos_right (by omega) hB
  rw [Nat.mul_assoc] at s1
  omega
theorem top_val {r q n : Nat} (hr : r = 0) (hn : n = 52 + q) : (4503599627370496 + r) * 2 ^ q = 2 ^ n := by
  rw [hr, hn, Nat.pow_add, Nat.add_zero]
theorem vN_at {p r q : Nat} (h : ¬ p < 4503599627370496) (hr : p % 4503599627370496 = r) (hq : p / 4503599627370496 - 1 = q) : vN p = (4503599627370496 + r) * 2 ^ q := by
  rw [vN_high h, hr, hq]
theorem vN_top : ∀ n, n = 2098 → vN 9218868437227405312 = 2 ^ n := by
  intro n hn
  obtain ⟨q, hq⟩ : ∃ q, 9218868437227405312 / 4503599627370496 - 1 = q := ⟨_, rfl⟩
  rw [vN_at (by decide) rfl hq]
  exact top_val (by decide) (by omega)
/-- All that is at 2^1024 or beyond. -/
theorem near_beyond {A B n : Nat} (hn : n = 2098) (hB : 0 < B) (h : 2 ^ n * B ≤ A) : NearIs A B 9218868437227405312 := by
  refine near_hi hB (Nat.le_refl _) (.inl rfl) (.inl ?_)
  rw [vN_top n hn]
  have e : vN 9218868437227405311 < 2 ^ n := by rw [← vN_top n hn]; exact vN_up _
  generalize vN 9218868437227405311 = x at *
  generalize 2 ^ n = y at *
  have s1 : (x + y) * B < (2 * y) * B := Nat.mul_lt_mul_of_pos_right (by omega) hB
  rw [Nat.mul_assoc] at s1
  omega
/-- All that is half of the least pattern or less. -/
theorem near_none {A B : Nat} (hB : 0 < B) (h : 2 * A ≤ B) : NearIs A B 0 := by
  refine near_lo hB (by decide) (by rw [vN_low (by decide)]; omega) ?_
  rw [vN_low (by decide), vN_low (by decide)]
  omega
end Go.Proofs.YtojpfmlmalmlcaaGreatDoor

namespace Go.Proofs.YtojpfmlmalmlcaaGreatDoor
open Go.RowKit
/-- A digit's byte, as a number. -/
def dv (c : UInt8) : Nat := c.toNat - 48
def isD12 (c : UInt8) : Prop := 48 ≤ c.toNat ∧ c.toNat ≤ 57
def Dgs (l : List UInt8) : Prop := ∀ c ∈ l, isD12 c
/-- The number that digits tell. -/
def nd : List UInt8 → Nat
  | [] => 0
  | c :: l => dv c * 10 ^ l.length + nd l
theorem nd_append (a b : List UInt8) : nd (a ++ b) = nd a * 10 ^ b.length + nd b := by
  induction a with
  | nil => simp [nd]
  | cons c l ih =>
    simp only [List.cons_append, nd, ih, List.length_append, Nat.pow_add]
    grind
theorem nd_snoc (a : List UInt8) (c : UInt8) : nd (a ++ [c]) = nd a * 10 + dv c := by
  rw [nd_append]; simp [nd]
theorem nd_lt {l : List UInt8} (h : Dgs l) : nd l < 10 ^ l.length := by
  induction l with
  | nil => simp [nd]
  | cons c l ih =>
    have h1 := ih (fun x hx => h x (List.mem_cons_of_mem _ hx))
    have h2 := h c List.mem_cons_self
    simp only [nd, List.length_cons, Nat.pow_succ]
    have h3 : dv c ≤ 9 := by unfold dv; have := h2.1; have := h2.2; omega
    have h4 := Nat.mul_le_mul_right (10 ^ l.length) h3
    generalize 10 ^ l.length = t at *
    generalize dv c * t = u at *
    omega
theorem Dgs.append {a b : List UInt8} (h : Dgs a) (k : Dgs b) : Dgs (a ++ b) := fun x hx => by
  rcases List.mem_append.1 hx with h1 | h1
  · exact h x h1
  · exact k x h1
theorem Dgs.left {a b : List UInt8} (h : Dgs (a ++ b)) : Dgs a := fun x hx => h x (List.mem_append_left _ hx)
theorem Dgs.right {a b : List UInt8} (h : Dgs (a ++ b)) : Dgs b := fun x hx => h x (List.mem_append_right _ hx)
/-- The unit: 2^1074. -/
def uu (n : Nat) : Nat := 2 ^ n
/-- 0.digits times 10^x as a fraction, in units of 2^-1074. -/
def dA (l : List UInt8) (x : Int) : Nat := nd l * 10 ^ (x - (l.length : Int)).toNat * uu 1074
def dB (l : List UInt8) (x : Int) : Nat := 10 ^ ((l.length : Int) - x).toNat
theorem uu_pos (n : Nat) : 0 < uu n := Nat.two_pow_pos n
theorem uu_add (a b : Nat) : uu (a + b) = uu a * uu b := Nat.pow_add 2 a b
theorem uu_step (n : Nat) : uu (n + 1) = 2 * uu n := by unfold uu; rw [Nat.pow_succ, Nat.mul_comm]
theorem ten_pos (n : Nat) : 0 < 10 ^ n := Nat.pow_pos (by decide)
theorem dB_pos (l : List UInt8) (x : Int) : 0 < dB l x := ten_pos _
/-- A nought ahead. -/
theorem dA_ahead (l : List UInt8) (x : Int) : dA (48 :: l) x = dA l (x - 1) ∧ dB (48 :: l) x = dB l (x - 1) := by
  have e0 : nd (48 :: l) = nd l := by simp [nd, dv]
  have e1 : (x - ((48 :: l : List UInt8).length : Int)).toNat = (x - 1 - (l.length : Int)).toNat := by simp only [List.length_cons]; omega
  have e2 : (((48 :: l : List UInt8).length : Int) - x).toNat = ((l.length : Int) - (x - 1)).toNat := by simp only [List.length_cons]; omega
  unfold dA dB
  rw [e0, e1, e2]
  exact ⟨rfl, rfl⟩
/-- A fraction goes on as the same where z noughts stand behind, or x and the length move. -/
theorem cross (n m k : Nat) (U : Nat) {a b c d : Nat} (h : n * 10 ^ k = m) (hk : k + a + d = b + c) : n * 10 ^ b * U * 10 ^ c = m * 10 ^ a * U * 10 ^ d := by
  subst h
  have e : (10 : Nat) ^ k * 10 ^ a * 10 ^ d = 10 ^ b * 10 ^ c := by rw [← Nat.pow_add, ← Nat.pow_add, ← Nat.pow_add, hk]
  calc n * 10 ^ b * U * 10 ^ c = n * U * (10 ^ b * 10 ^ c) := by grind
    _ = n * U * (10 ^ k * 10 ^ a * 10 ^ d) := by rw [e]
    _ = n * 10 ^ k * 10 ^ a * U * 10 ^ d := by grind
/-- A nought behind. -/
theorem dA_behind (l : List UInt8) (x : Int) : dA l x * dB (l ++ [48]) x = dA (l ++ [48]) x * dB l x := by
  have e0 : nd l * 10 ^ 1 = nd (l ++ [48]) := by rw [nd_snoc]; simp [dv]
  unfold dA dB
  refine cross _ _ 1 _ e0 ?_
  simp only [List.length_append, List.length_singleton]
  omega
/-- Digits that neither begin nor end with a nought. -/
structure Trim (l : List UInt8) : Prop where
  dgs : Dgs l
  any : l ≠ []
  front : l.getD 0 0 ≠ 48
  last : l.getLast? ≠ some 48
/-- The last digit, if there is one, is no nought. -/
def Tl (l : List UInt8) : Prop := l.getLast? ≠ some 48
theorem Tl.tail {c : UInt8} {l : List UInt8} (h : Tl (c :: l)) : Tl l := by
  unfold Tl at *
  cases l with
  | nil => simp
  | cons d m => rw [List.getLast?_cons_cons] at h; exact h
theorem nd_pos {l : List UInt8} (hd : Dgs l) (ht : Tl l) (h : l ≠ []) : 0 < nd l := by
  induction l with
  | nil => exact absurd rfl h
  | cons c m ih =>
    cases m with
    | nil =>
      have h1 : c ≠ 48 := by
        intro h2; subst h2; exact ht rfl
      have h2 := hd c List.mem_cons_self
      have h3 : c.toNat ≠ 48 := fun h4 => h1 (UInt8.toNat_inj.1 h4)
      have := h2.1
      simp only [nd, dv, List.length_nil, Nat.pow_zero]
      omega
    | cons d k =>
      have h1 := ih (fun x hx => hd x (List.mem_cons_of_mem _ hx)) ht.tail (by simp)
      simp only [nd] at h1 ⊢
      omega
/-- Texts of digits in the order of texts stand as their numbers do. -/
theorem lex_num : ∀ (a b : List UInt8), Dgs a → Dgs b → Tl a → Tl b → (Op.bytesLess a b = true ↔ nd a * 10 ^ b.length < nd b * 10 ^ a.length) ∧ (a = b ↔ nd a * 10 ^ b.length = nd b * 10 ^ a.length)
  | [], [], _, _, _, _ => by simp [Op.bytesLess, nd]
  | [], d :: b, _, hb, _, tb => by
    have h := nd_pos hb tb (by simp)
    have e : nd ([] : List UInt8) = 0 := rfl
    rw [e]
    simp only [Op.bytesLess, List.length_nil, Nat.pow_zero, Nat.mul_one, Nat.zero_mul]
    exact ⟨by simp [h], ⟨fun h => by simp at h, fun h2 => by omega⟩⟩
  | c :: a, [], ha, _, ta, _ => by
    have h := nd_pos ha ta (by simp)
    have e : nd ([] : List UInt8) = 0 := rfl
    rw [e]
    simp only [Op.bytesLess, List.length_nil, Nat.pow_zero, Nat.mul_one, Nat.zero_mul]
    exact ⟨⟨fun h => by simp at h, fun h2 => by omega⟩, ⟨fun h => by simp at h, fun h2 => by omega⟩⟩
  | c :: a, d :: b, ha, hb, ta, tb => by
    have ha' : Dgs a := fun x hx => ha x (List.mem_cons_of_mem _ hx)
    have hb' : Dgs b := fun x hx => hb x (List.mem_cons_of_mem _ hx)
    obtain ⟨i1, i2⟩ := lex_num a b ha' hb' ta.tail tb.tail
    have hc := ha c List.mem_cons_self
    have hd := hb d List.mem_cons_self
    have la := nd_lt ha'
    have lb := nd_lt hb'
    have pa := ten_pos a.length
    have pb := ten_pos b.length
    have xa : nd a * 10 ^ b.length < 10 ^ a.length * 10 ^ b.length := Nat.mul_lt_mul_of_pos_right la pb
    have xb : nd b * 10 ^ a.length < 10 ^ a.length * 10 ^ b.length := by rw [Nat.mul_comm (10 ^ a.length)]; exact Nat.mul_lt_mul_of_pos_right lb pa
    have eA : nd (c :: a) * 10 ^ (d :: b).length = (dv c * (10 ^ a.length * 10 ^ b.length) + nd a * 10 ^ b.length) * 10 := by
      simp only [nd, List.length_cons, Nat.pow_succ]; grind
    have eB : nd (d :: b) * 10 ^ (c :: a).length = (dv d * (10 ^ a.length * 10 ^ b.length) + nd b * 10 ^ a.length) * 10 := by
      simp only [nd, List.length_cons, Nat.pow_succ]; grind
    rw [eA, eB]
    generalize nd a * 10 ^ b.length = p at *
    generalize nd b * 10 ^ a.length = q at *
    generalize 10 ^ a.length * 10 ^ b.length = t at *
    have hcv : c.toNat = dv c + 48 := by unfold dv; have := hc.1; omega
    have hdv : d.toNat = dv d + 48 := by unfold dv; have := hd.1; omega
    have hlt : (c < d) ↔ dv c < dv d := by rw [UInt8.lt_iff_toNat_lt]; omega
    have heq : (c = d) ↔ dv c = dv d := ⟨fun h => by rw [h], fun h => UInt8.toNat_inj.1 (by omega)⟩
    have hless : Op.bytesLess (c :: a) (d :: b) = true ↔ (dv c < dv d ∨ (dv c = dv d ∧ Op.bytesLess a b = true)) := by
      simp only [Op.bytesLess, Bool.or_eq_true, decide_eq_true_eq, Bool.and_eq_true, beq_iff_eq]
      rw [hlt, heq]
    rw [hless, i1]
    have hcons : (c :: a = d :: b) ↔ (dv c = dv d ∧ p = q) := by
      rw [List.cons.injEq, heq, i2]
    rw [hcons]
    generalize dv c = u at *
    generalize dv d = v at *
    rcases Nat.lt_trichotomy u v with h | h | h
    · have h2 : (u + 1) * t ≤ v * t := Nat.mul_le_mul_right _ h
      rw [Nat.add_mul, Nat.one_mul] at h2
      generalize u * t = ut at *
      generalize v * t = vt at *
      omega
    · subst h
      generalize u * t = ut at *
      omega
    · have h2 : (v + 1) * t ≤ u * t := Nat.mul_le_mul_right _ h
      rw [Nat.add_mul, Nat.one_mul] at h2
      generalize u * t = ut at *
      generalize v * t = vt at *
      omega
/-- What the document's CmpDec answers. -/
def cmpD (a : List UInt8) (x : Int) (b : List UInt8) (y : Int) : Int := if x < y ∨ (x = y ∧ Op.bytesLess a b = true) then -1 else if x = y ∧ a = b then 0 else 1
theorem nd_ge {l : List UInt8} (hd : Dgs l) (hs : l ≠ []) (h : l.getD 0 0 ≠ 48) : 10 ^ (l.length - 1) ≤ nd l := by
  cases l with
  | nil => exact absurd rfl hs
  | cons c m =>
    have h1 : c ≠ 48 := by simpa using h
    have h2 := hd c List.mem_cons_self
    have h3 : c.toNat ≠ 48 := fun h4 => h1 (UInt8.toNat_inj.1 h4)
    have h4 : 1 ≤ dv c := by unfold dv; have := h2.1; omega
    simp only [nd, List.length_cons, Nat.add_sub_cancel]
    have := Nat.mul_le_mul_right (10 ^ m.length) h4
    omega
/-- Smaller by the power alone. -/
theorem dA_far {a b : List UInt8} {x y : Int} (ha : Dgs a) (hb : Trim b) (h : x < y) : dA a x * dB b y < dA b y * dB a x := by
  have h1 := nd_lt ha
  have h2 := nd_ge hb.dgs hb.any hb.front
  have hl : 1 ≤ b.length := by have := List.length_pos_iff.2 hb.any; omega
  unfold dA dB
  have s1 : nd a * 10 ^ (x - (a.length : Int)).toNat * uu 1074 * 10 ^ ((b.length : Int) - y).toNat < 10 ^ a.length * 10 ^ (x - (a.length : Int)).toNat * uu 1074 * 10 ^ ((b.length : Int) - y).toNat :=
    Nat.mul_lt_mul_of_pos_right (Nat.mul_lt_mul_of_pos_right (Nat.mul_lt_mul_of_pos_right h1 (ten_pos _)) (uu_pos _)) (ten_pos _)
  have s2 : 10 ^ (b.length - 1) * 10 ^ (y - (b.length : Int)).toNat * uu 1074 * 10 ^ ((a.length : Int) - x).toNat ≤ nd b * 10 ^ (y - (b.length : Int)).toNat * uu 1074 * 10 ^ ((a.length : Int) - x).toNat :=
    Nat.mul_le_mul_right _ (Nat.mul_le_mul_right _ (Nat.mul_le_mul_right _ h2))
  have s3 : 10 ^ a.length * 10 ^ (x - (a.length : Int)).toNat * uu 1074 * 10 ^ ((b.length : Int) - y).toNat ≤ 10 ^ (b.length - 1) * 10 ^ (y - (b.length : Int)).toNat * uu 1074 * 10 ^ ((a.length : Int) - x).toNat := by
    have e1 : 10 ^ a.length * 10 ^ (x - (a.length : Int)).toNat * uu 1074 * 10 ^ ((b.length : Int) - y).toNat = 10 ^ (a.length + (x - (a.length : Int)).toNat + ((b.length : Int) - y).toNat) * uu 1074 := by
      rw [Nat.pow_add, Nat.pow_add]; exact Nat.mul_right_comm _ _ _
    have e2 : 10 ^ (b.length - 1) * 10 ^ (y - (b.length : Int)).toNat * uu 1074 * 10 ^ ((a.length : Int) - x).toNat = 10 ^ (b.length - 1 + (y - (b.length : Int)).toNat + ((a.length : Int) - x).toNat) * uu 1074 := by
      rw [Nat.pow_add, Nat.pow_add]; exact Nat.mul_right_comm _ _ _
    rw [e1, e2]
    exact Nat.mul_le_mul_right _ (Nat.pow_le_pow_right (by decide) (by omega))
  omega
/-- With one power the numbers stand as the fractions of their digits. -/
theorem dA_alike (a b : List UInt8) (x : Int) : ∃ c : Nat, 0 < c ∧ dA a x * dB b x * 10 ^ (a.length + b.length) = nd a * 10 ^ b.length * c ∧ dA b x * dB a x * 10 ^ (a.length + b.length) = nd b * 10 ^ a.length * c := by
  refine ⟨10 ^ (a.length + (x - (a.length : Int)).toNat + ((b.length : Int) - x).toNat) * uu 1074, Nat.mul_pos (ten_pos _) (uu_pos _), ?_, ?_⟩
  · unfold dA dB
    simp only [Nat.pow_add]
    grind
  · have e : a.length + (x - (a.length : Int)).toNat + ((b.length : Int) - x).toNat = b.length + (x - (b.length : Int)).toNat + ((a.length : Int) - x).toNat := by omega
    rw [e]
    unfold dA dB
    simp only [Nat.pow_add]
    grind
theorem cmpD_num {a b : List UInt8} {x y : Int} (ha : Trim a) (hb : Trim b) :
    (cmpD a x b y = -1 ∧ dA a x * dB b y < dA b y * dB a x) ∨ (cmpD a x b y = 0 ∧ dA a x * dB b y = dA b y * dB a x) ∨ (cmpD a x b y = 1 ∧ dA b y * dB a x < dA a x * dB b y) := by
  unfold cmpD
  by_cases h1 : x < y
  · exact .inl ⟨by rw [if_pos (.inl h1)], dA_far ha.dgs hb h1⟩
  by_cases h2 : y < x
  · exact .inr (.inr ⟨by rw [if_neg (by omega), if_neg (by omega)], dA_far hb.dgs ha h2⟩)
  obtain rfl : x = y := by omega
  obtain ⟨l1, l2⟩ := lex_num a b ha.dgs hb.dgs ha.last hb.last
  obtain ⟨c, hc, e1, e2⟩ := dA_alike a b x
  have pt := ten_pos (a.length + b.length)
  have k1 : nd a * 10 ^ b.length < nd b * 10 ^ a.length → dA a x * dB b x < dA b x * dB a x := fun h => by
    have := Nat.mul_lt_mul_of_pos_right h hc
    rw [← e1, ← e2] at this
    exact Nat.lt_of_mul_lt_mul_right this
  have k2 : nd a * 10 ^ b.length = nd b * 10 ^ a.length → dA a x * dB b x = dA b x * dB a x := fun h => by
    have : dA a x * dB b x * 10 ^ (a.length + b.length) = dA b x * dB a x * 10 ^ (a.length + b.length) := by rw [e1, e2, h]
    exact Nat.eq_of_mul_eq_mul_right pt this
  have k3 : nd b * 10 ^ a.length < nd a * 10 ^ b.length → dA b x * dB a x < dA a x * dB b x := fun h => by
    have := Nat.mul_lt_mul_of_pos_right h hc
    rw [← e1, ← e2] at this
    exact Nat.lt_of_mul_lt_mul_right this
  by_cases h3 : Op.bytesLess a b = true
  · exact .inl ⟨by rw [if_pos (.inr ⟨rfl, h3⟩)], k1 (l1.1 h3)⟩
  · by_cases h4 : a = b
    · exact .inr (.inl ⟨by rw [if_neg (fun h => h.elim h1 (fun k => h3 k.2)), if_pos ⟨rfl, h4⟩], k2 (l2.1 h4)⟩)
    · refine .inr (.inr ⟨by rw [if_neg (fun h => h.elim h1 (fun k => h3 k.2)), if_neg (fun h => h4 h.2)], k3 ?_⟩)
      have n1 : ¬ nd a * 10 ^ b.length < nd b * 10 ^ a.length := fun h => h3 (l1.2 h)
      have n2 : ¬ nd a * 10 ^ b.length = nd b * 10 ^ a.length := fun h => h4 (l2.2 h)
      omega
/-- What Exact tells: digits whose number is M, in units of 2^-1075. -/
structure Fine (l : List UInt8) (x : Int) (M : Nat) : Prop where
  trim : Trim l
  num : 2 * dA l x = M * dB l x
/-- M / 2 held against other digits' number. -/
theorem cmpD_fine {d a : List UInt8} {y x : Int} {M : Nat} (h : Fine d y M) (ha : Trim a) :
    (cmpD d y a x = -1 ∧ M * dB a x < 2 * dA a x) ∨ (cmpD d y a x = 0 ∧ M * dB a x = 2 * dA a x) ∨ (cmpD d y a x = 1 ∧ 2 * dA a x < M * dB a x) := by
  have pd := dB_pos d y
  have key : 2 * (dA d y * dB a x) = M * dB a x * dB d y := by
    rw [← Nat.mul_assoc, h.num]; exact Nat.mul_right_comm _ _ _
  have key2 : 2 * (dA a x * dB d y) = 2 * dA a x * dB d y := (Nat.mul_assoc _ _ _).symm
  rcases cmpD_num (x := y) (y := x) h.trim ha with ⟨h1, h2⟩ | ⟨h1, h2⟩ | ⟨h1, h2⟩
  · refine .inl ⟨h1, Nat.lt_of_mul_lt_mul_right (a := dB d y) ?_⟩
    rw [← key, ← key2]
    omega
  · refine .inr (.inl ⟨h1, Nat.eq_of_mul_eq_mul_right pd ?_⟩)
    rw [← key, ← key2, h2]
  · refine .inr (.inr ⟨h1, Nat.lt_of_mul_lt_mul_right (a := dB d y) ?_⟩)
    rw [← key, ← key2]
    omega
theorem cmpD_fine' {d a : List UInt8} {y x : Int} {M : Nat} (h : Fine d y M) (ha : Trim a) :
    (cmpD a x d y = -1 ∧ 2 * dA a x < M * dB a x) ∨ (cmpD a x d y = 0 ∧ M * dB a x = 2 * dA a x) ∨ (cmpD a x d y = 1 ∧ M * dB a x < 2 * dA a x) := by
  have pd := dB_pos d y
  have key : 2 * (dA d y * dB a x) = M * dB a x * dB d y := by
    rw [← Nat.mul_assoc, h.num]; exact Nat.mul_right_comm _ _ _
  have key2 : 2 * (dA a x * dB d y) = 2 * dA a x * dB d y := (Nat.mul_assoc _ _ _).symm
  rcases cmpD_num (x := x) (y := y) ha h.trim with ⟨h1, h2⟩ | ⟨h1, h2⟩ | ⟨h1, h2⟩
  · refine .inl ⟨h1, Nat.lt_of_mul_lt_mul_right (a := dB d y) ?_⟩
    rw [← key, ← key2]
    omega
  · refine .inr (.inl ⟨h1, Nat.eq_of_mul_eq_mul_right pd ?_⟩)
    rw [← key, ← key2, h2]
  · refine .inr (.inr ⟨h1, Nat.lt_of_mul_lt_mul_right (a := dB d y) ?_⟩)
    rw [← key, ← key2]
    omega
end Go.Proofs.YtojpfmlmalmlcaaGreatDoor

namespace Go.Proofs.YtojpfmlmalmlcaaGreatDoor
open Go.RowKit
theorem in64 {n : Int} (h : -9223372036854775808 ≤ n ∧ n ≤ 9223372036854775807) : wrap64 n = n := by unfold wrap64; omega
theorem results_tmp4 {fn : Func} {t u v x : Tmp} (h : fn.results = #[.tmp t, .tmp u, .tmp v, .tmp x]) (tmps : Array Value) (P : Program) (w : World) :
    (results fn tmps).run P w = .ok (.tuple #[tmps.getD t undef, tmps.getD u undef, tmps.getD v undef, tmps.getD x undef]) w := by
  simp [results, h]
set_option maxHeartbeats 400000 in
theorem split_zero (X A B : Int) (s : Bool) (w : World) (hA : X / 9223372036854775808 = A) (hs : (A == 1) = s) (hB : X / 4503599627370496 = B) (hE : bits .and .u64 B 2047 = 0) (hf : bits .and .u64 X 4503599627370495 = 0) :
    Calls Tryz.prog 13 #[.int .u64 X] w fun e w' => e = .returned (.tuple #[.int .i64 1, .bool s, .int .u64 0, .int .i64 0]) ∧ w' = w := by
  go_enter Tryz.func13, Tryz.ntmps13
  go_wp2_with fail
  (try simp only [Exit.inBlock, Exit.then])
  refine bodyPost_ret (results_tmp4 rfl _ _ _) rfl ?_
  exact ⟨rfl, rfl⟩
set_option maxHeartbeats 400000 in
theorem split_inf (X A B : Int) (s : Bool) (w : World) (hA : X / 9223372036854775808 = A) (hs : (A == 1) = s) (hB : X / 4503599627370496 = B) (hE : bits .and .u64 B 2047 = 2047) (hf : bits .and .u64 X 4503599627370495 = 0) :
    Calls Tryz.prog 13 #[.int .u64 X] w fun e w' => e = .returned (.tuple #[.int .i64 3, .bool s, .int .u64 0, .int .i64 0]) ∧ w' = w := by
  go_enter Tryz.func13, Tryz.ntmps13
  go_wp2_with fail
  (try simp only [Exit.inBlock, Exit.then])
  refine bodyPost_ret (results_tmp4 rfl _ _ _) rfl ?_
  exact ⟨rfl, rfl⟩
set_option maxHeartbeats 400000 in
theorem split_nan (X A B f : Int) (s : Bool) (w : World) (hA : X / 9223372036854775808 = A) (hs : (A == 1) = s) (hB : X / 4503599627370496 = B) (hE : bits .and .u64 B 2047 = 2047) (hf : bits .and .u64 X 4503599627370495 = f) (f0 : (f == 0) = false) :
    Calls Tryz.prog 13 #[.int .u64 X] w fun e w' => e = .returned (.tuple #[.int .i64 4, .bool s, .int .u64 0, .int .i64 0]) ∧ w' = w := by
  go_enter Tryz.func13, Tryz.ntmps13
  go_wp2_with fail
  (try simp only [Exit.inBlock, Exit.then])
  refine bodyPost_ret (results_tmp4 rfl _ _ _) rfl ?_
  exact ⟨rfl, rfl⟩
set_option maxHeartbeats 400000 in
theorem split_low (X A B f : Int) (s : Bool) (w : World) (hA : X / 9223372036854775808 = A) (hs : (A == 1) = s) (hB : X / 4503599627370496 = B) (hE : bits .and .u64 B 2047 = 0) (hf : bits .and .u64 X 4503599627370495 = f) (f0 : (f == 0) = false) :
    Calls Tryz.prog 13 #[.int .u64 X] w fun e w' => e = .returned (.tuple #[.int .i64 2, .bool s, .int .u64 f, .int .i64 (-1074)]) ∧ w' = w := by
  go_enter Tryz.func13, Tryz.ntmps13
  go_wp2_with fail
  (try simp only [Exit.inBlock, Exit.then])
  refine bodyPost_ret (results_tmp4 rfl _ _ _) rfl ?_
  exact ⟨rfl, rfl⟩
set_option maxHeartbeats 400000 in
theorem split_high (X A B E f m e : Int) (s : Bool) (w : World) (hA : X / 9223372036854775808 = A) (hs : (A == 1) = s) (hB : X / 4503599627370496 = B) (hE : bits .and .u64 B 2047 = E) (hf : bits .and .u64 X 4503599627370495 = f)
    (e0 : (E == 0) = false) (e1 : (E == 2047) = false) (e2 : wrap64 E = E) (hm : IntKind.u64.wrap (4503599627370496 + f) = m) (he : wrap64 (E - 1075) = e) :
    Calls Tryz.prog 13 #[.int .u64 X] w fun x w' => x = .returned (.tuple #[.int .i64 2, .bool s, .int .u64 m, .int .i64 e]) ∧ w' = w := by
  go_enter Tryz.func13, Tryz.ntmps13
  go_wp2_with fail
  (try simp only [Exit.inBlock, Exit.then])
  refine bodyPost_ret (results_tmp4 rfl _ _ _) rfl ?_
  exact ⟨by simp [he], rfl⟩
theorem and_2047 (y : Nat) (hy : y < 18446744073709551616) : bits .and .u64 (y : Int) 2047 = ((y % 2048 : Nat) : Int) := by
  have h := bits_and_u64_nat y 2047 hy (by decide)
  rw [show y &&& 2047 = y % 2048 from Nat.and_two_pow_sub_one_eq_mod y 11] at h
  exact h
theorem and_52 (y : Nat) (hy : y < 18446744073709551616) : bits .and .u64 (y : Int) 4503599627370495 = ((y % 4503599627370496 : Nat) : Int) := by
  have h := bits_and_u64_nat y 4503599627370495 hy (by decide)
  rw [show y &&& 4503599627370495 = y % 4503599627370496 from Nat.and_two_pow_sub_one_eq_mod y 52] at h
  exact h
theorem pat_sign (s : Bool) (r : Nat) (hr : r < 9223372036854775808) : ((pat s r : Nat) : Int) / 9223372036854775808 = if s then 1 else 0 := by
  cases s <;> simp [pat] <;> omega
theorem pat_exp (s : Bool) (r : Nat) (hr : r < 9223372036854775808) : pat s r / 4503599627370496 % 2048 = r / 4503599627370496 := by
  cases s <;> simp [pat] <;> omega
theorem pat_frac (s : Bool) (r : Nat) : pat s r % 4503599627370496 = r % 4503599627370496 := by
  cases s <;> simp [pat] <;> omega
theorem tells_zero : kOf 0 = 1 ∧ mOf 0 = 0 ∧ eOf 0 = 0 := ⟨rfl, rfl, rfl⟩
theorem tells_low {r : Nat} (c0 : ¬ r = 0) (c1 : r < 4503599627370496) : kOf r = 2 ∧ mOf r = r ∧ eOf r = -1074 := by
  unfold kOf mOf eOf
  rw [if_neg c0, if_neg c0, if_pos c1, if_pos c1, if_pos (show r < 9218868437227405312 by omega)]
  exact ⟨rfl, rfl, rfl⟩
theorem tells_high {r : Nat} (c1 : ¬ r < 4503599627370496) (c2 : r < 9218868437227405312) : kOf r = 2 ∧ mOf r = 4503599627370496 + r % 4503599627370496 ∧ eOf r = ((r / 4503599627370496 : Nat) : Int) - 1075 := by
  have c0 : ¬ r = 0 := by omega
  unfold kOf mOf eOf
  rw [if_neg c0, if_neg c0, if_neg c1, if_neg c1, if_pos c2, if_pos c2, if_pos c2]
  exact ⟨rfl, rfl, rfl⟩
theorem tells_inf : kOf 9218868437227405312 = 3 ∧ mOf 9218868437227405312 = 0 ∧ eOf 9218868437227405312 = 0 := by decide
theorem tells_nan {r : Nat} (c : 9218868437227405312 < r) : kOf r = 4 ∧ mOf r = 0 ∧ eOf r = 0 := by
  have c0 : ¬ r = 0 := by omega
  have c1 : ¬ r < 4503599627370496 := by omega
  have c2 : ¬ r < 9218868437227405312 := by omega
  have c3 : ¬ r = 9218868437227405312 := by omega
  unfold kOf mOf eOf
  rw [if_neg c0, if_neg c0, if_neg c1, if_neg c1, if_neg c2, if_neg c2, if_neg c2, if_neg c3]
  exact ⟨rfl, rfl, rfl⟩
/-- The document's Split. -/
theorem refSplit_any (s : Bool) (r : Nat) (hr : r < 9223372036854775808) (w : World) :
    Calls Tryz.prog 13 #[.int .u64 ((pat s r : Nat) : Int)] w fun x w' => x = .returned (.tuple #[.int .i64 (kOf r), .bool s, .int .u64 (mOf r : Int), .int .i64 (eOf r)]) ∧ w' = w := by
  have hx := pat_lt (s := s) hr
  have hA : (((pat s r : Nat) : Int) / 9223372036854775808 == 1) = s := by rw [pat_sign s r hr]; cases s <;> rfl
  have h52 := pat_frac s r
  have hE0 := pat_exp s r hr
  generalize pat s r = x at *
  have hB : (x : Int) / 4503599627370496 = ((x / 4503599627370496 : Nat) : Int) := by omega
  have hE := and_2047 (x / 4503599627370496) (by omega)
  rw [hE0] at hE
  have hf := and_52 x hx
  rw [h52] at hf
  clear h52 hE0
  by_cases c1 : r < 4503599627370496
  · rw [show r / 4503599627370496 = 0 by omega] at hE
    rw [show r % 4503599627370496 = r by omega] at hf
    by_cases c2 : r = 0
    · subst c2
      exact split_zero x _ _ s w rfl hA hB hE hf
    · obtain ⟨z1, z2, z3⟩ := tells_low c2 c1
      rw [z1, z2, z3]
      exact split_low x _ _ _ s w rfl hA hB hE hf (by simp; omega)
  · by_cases c2 : r < 9218868437227405312
    · obtain ⟨z1, z2, z3⟩ := tells_high c1 c2
      rw [z1, z2, z3]
      exact split_high x _ _ _ _ _ _ s w rfl hA hB hE hf (by simp only [beq_eq_false_iff_ne]; omega) (by simp only [beq_eq_false_iff_ne]; omega) (in64 (by omega)) (by rw [IntKind.wrap_u64]; omega) (in64 (by omega))
    · rw [show r / 4503599627370496 = 2047 by omega] at hE
      by_cases c3 : r = 9218868437227405312
      · rw [show r % 4503599627370496 = 0 by omega] at hf
        subst c3
        obtain ⟨z1, z2, z3⟩ := tells_inf
        rw [z1, z2, z3]
        exact split_inf x _ _ s w rfl hA hB hE hf
      · obtain ⟨z1, z2, z3⟩ := tells_nan (r := r) (by omega)
        rw [z1, z2, z3]
        exact split_nan x _ _ _ s w rfl hA hB hE hf (by simp only [beq_eq_false_iff_ne]; omega)
end Go.Proofs.YtojpfmlmalmlcaaGreatDoor
