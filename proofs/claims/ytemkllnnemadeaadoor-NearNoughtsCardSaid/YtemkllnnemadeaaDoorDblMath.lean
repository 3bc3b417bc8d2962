/-
  Doubles by their patterns: what a pattern tells, which number has a pattern, which pattern is a whole number: pure; no condition beyond what each lemma asks.
-/
import Derived.Test.YtemkllnnemadeaaDoorBase
import Derived.Lib.TrailingZeros
import Derived.Lib.BitFns
namespace Go.Proofs.YtemkllnnemadeaaDoor
open Go.RowKit

/-- What a pattern without its sign tells: its kind, m, e. -/
def kOf (r : Nat) : Int := if r = 0 then 1 else if r < 9218868437227405312 then 2 else if r = 9218868437227405312 then 3 else 4
def mOf (r : Nat) : Nat := if r < 4503599627370496 then r else if r < 9218868437227405312 then 4503599627370496 + r % 4503599627370496 else 0
def eOf (r : Nat) : Int := if r = 0 then 0 else if r < 4503599627370496 then -1074 else if r < 9218868437227405312 then ((r / 4503599627370496 : Nat) : Int) - 1075 else 0
/-- A pattern with its sign. -/
def pat (s : Bool) (r : Nat) : Nat := if s then 9223372036854775808 + r else r

theorem pat_parts {x : Nat} (h : x < 18446744073709551616) : ∃ s r, r < 9223372036854775808 ∧ x = pat s r := by
  by_cases c : x < 9223372036854775808
  · exact ⟨false, x, c, rfl⟩
  · exact ⟨true, x - 9223372036854775808, by omega, by simp [pat]; omega⟩
theorem pat_lt {s : Bool} {r : Nat} (h : r < 9223372036854775808) : pat s r < 18446744073709551616 := by
  cases s <;> simp [pat] <;> omega
theorem pat_inj {s s' : Bool} {r r' : Nat} (h : r < 9223372036854775808) (h' : r' < 9223372036854775808) (e : pat s r = pat s' r') : s = s' ∧ r = r' := by
  cases s <;> cases s' <;> simp [pat] at e ⊢ <;> omega

theorem m_lt (r : Nat) : mOf r < 9007199254740992 := by
  unfold mOf
  split
  · omega
  · split <;> omega

/-- A number as an odd one, moved up by t places; the odd one has L digits. -/
structure OddOf (m o t L : Nat) : Prop where
  eq : m = o * 2 ^ t
  odd : o % 2 = 1
  lo : 2 ^ (L - 1) ≤ o
  hi : o < 2 ^ L
  pos : 1 ≤ L
  fit : L + t ≤ 64

theorem len_bounds {n : Nat} (h0 : n ≠ 0) (h : n < 2 ^ 64) : 2 ^ (Lib.bitLen n - 1) ≤ n ∧ n < 2 ^ Lib.bitLen n ∧ 1 ≤ Lib.bitLen n := by
  have key : ∀ k n : Nat, n ≠ 0 → n < 2 ^ k → k ≤ 64 → 2 ^ (Lib.bitLen n - 1) ≤ n ∧ n < 2 ^ Lib.bitLen n ∧ 1 ≤ Lib.bitLen n := by
    intro k
    induction k with
    | zero => intro n h0 h; simp at h; omega
    | succ k ih =>
      intro n h0 h hk
      have hn : n < 2 ^ 64 := Nat.lt_of_lt_of_le h (Nat.pow_le_pow_right (by decide) hk)
      have hb := Lib.bitLen_half n h0 hn
      by_cases c : n / 2 = 0
      · have h1 : n = 1 := by omega
        subst h1
        decide
      · obtain ⟨a, b, d⟩ := ih (n / 2) c (by rw [Nat.pow_succ] at h; omega) (by omega)
        rw [hb]
        generalize Lib.bitLen (n / 2) = L at *
        obtain ⟨l, rfl⟩ : ∃ l, L = l + 1 := ⟨L - 1, by omega⟩
        rw [show 1 + (l + 1) - 1 = l + 1 by omega, show 1 + (l + 1) = l + 1 + 1 by omega]
        simp only [Nat.add_sub_cancel] at a
        rw [Nat.pow_succ] at *
        omega
  exact key 64 n h0 h (Nat.le_refl _)

def tOf (m : Nat) : Nat := Lib.ctz 64 m
def oOf (m : Nat) : Nat := m / 2 ^ tOf m
def lOf (m : Nat) : Nat := Lib.bitLen (oOf m)

theorem odd_of {m : Nat} (h0 : 0 < m) (h : m < 18446744073709551616) : OddOf m (oOf m) (tOf m) (lOf m) := by
  obtain ⟨k, hk, ht⟩ := Lib.ctzFrom_spec 64 m h0 h
  have e : tOf m = Lib.ctzFrom 64 m := by simp [tOf, Lib.ctz]; omega
  rw [← e] at hk ht
  unfold lOf
  have ho : oOf m = 2 * k + 1 := by
    unfold oOf
    generalize tOf m = t at *
    rw [hk, Nat.mul_div_cancel_left _ (Nat.two_pow_pos t)]
  generalize tOf m = t at *
  rw [ho]
  have hm : m = (2 * k + 1) * 2 ^ t := by rw [hk, Nat.mul_comm]
  have hle : 2 * k + 1 ≤ m := by rw [hm]; exact Nat.le_mul_of_pos_right _ (Nat.two_pow_pos t)
  obtain ⟨a, b, c⟩ := len_bounds (n := 2 * k + 1) (by omega) (by omega)
  refine ⟨hm, by omega, a, b, c, ?_⟩
  apply Nat.le_of_not_lt
  intro hlt
  have h1 : 2 ^ 64 ≤ 2 ^ (Lib.bitLen (2 * k + 1) - 1 + t) := Nat.pow_le_pow_right (by decide) (by omega)
  have h2 : 2 ^ (Lib.bitLen (2 * k + 1) - 1 + t) ≤ m := by
    rw [Nat.pow_add, hm]
    exact Nat.mul_le_mul_right _ a
  omega

theorem odd_one {o o' a b : Nat} (h : o * 2 ^ a = o' * 2 ^ b) (h1 : o % 2 = 1) (h2 : o' % 2 = 1) : o = o' ∧ a = b := by
  have key : ∀ (o o' a d : Nat), o * 2 ^ a = o' * 2 ^ (a + d) → o % 2 = 1 → d = 0 := by
    intro o o' a d h h1
    cases d with
    | zero => rfl
    | succ d =>
      rw [Nat.pow_add, ← Nat.mul_assoc, Nat.mul_right_comm] at h
      have := Nat.eq_of_mul_eq_mul_right (Nat.two_pow_pos a) h
      rw [Nat.pow_succ, ← Nat.mul_assoc] at this
      omega
  rcases Nat.le_total a b with hab | hab
  · obtain ⟨d, rfl⟩ := Nat.exists_eq_add_of_le hab
    have := key o o' a d h h1
    subst this
    exact ⟨Nat.eq_of_mul_eq_mul_right (Nat.two_pow_pos _) h, rfl⟩
  · obtain ⟨d, rfl⟩ := Nat.exists_eq_add_of_le hab
    have := key o' o b d h.symm h2
    subst this
    exact ⟨Nat.eq_of_mul_eq_mul_right (Nat.two_pow_pos _) h, rfl⟩

/-- Where what Split would tell has its e: 53 digits at most, and not below the least one. -/
def uOf (l : Nat) (e : Int) : Int := if e + (l : Int) - 53 < -1074 then -1074 else e + (l : Int) - 53

/-- The pattern without sign of o times 2^e, o of l digits. -/
def joinO (o l : Nat) (e : Int) : Option Nat :=
  if e < uOf l e then none else if 971 < uOf l e then none else some (o * 2 ^ (e - uOf l e).toNat + (uOf l e + 1074).toNat * 4503599627370496)
def joinP (m : Nat) (e : Int) : Option Nat := if m = 0 then some 0 else joinO (oOf m) (lOf m) (e + (tOf m : Int))

theorem join_far {m : Nat} {e : Int} (h0 : 0 < m) (h : m < 18446744073709551616) (he : e < -1137 ∨ 1023 < e) : joinP m e = none := by
  have ho := odd_of h0 h
  unfold joinP joinO
  rw [if_neg (by omega)]
  have := ho.pos
  have := ho.fit
  generalize lOf m = l at *
  generalize tOf m = t at *
  unfold uOf
  rcases he with he | he
  · rw [if_pos (by split <;> omega)]
  · split
    · rw [if_pos (by omega)]
    · split
      · rfl
      · rw [if_pos (by omega)]

/-- What a pattern that was made tells. -/
theorem join_tells {o l : Nat} {e : Int} {r : Nat} (lo : 2 ^ (l - 1) ≤ o) (hi : o < 2 ^ l) (pos : 1 ≤ l) (h : joinO o l e = some r) :
    ∃ j : Nat, (j : Int) = e - uOf l e ∧ r ≠ 0 ∧ r < 9218868437227405312 ∧ mOf r = o * 2 ^ j ∧ eOf r = uOf l e ∧ -1074 ≤ uOf l e ∧ uOf l e ≤ 971 ∧ o * 2 ^ j < 9007199254740992 ∧ (4503599627370496 ≤ o * 2 ^ j ∨ uOf l e = -1074) ∧
      r = o * 2 ^ j + (uOf l e + 1074).toNat * 4503599627370496 := by
  unfold joinO at h
  split at h
  · cases h
  · rename_i h1
    split at h
    · cases h
    · rename_i h2
      have hr := Option.some.inj h
      clear h
      obtain ⟨j, hj⟩ : ∃ j : Nat, (j : Int) = e - uOf l e := ⟨(e - uOf l e).toNat, by omega⟩
      rw [show (e - uOf l e).toNat = j by omega] at hr
      have hu : -1074 ≤ uOf l e := by unfold uOf; split <;> omega
      have hlj : l + j ≤ 53 := by unfold uOf at hj; split at hj <;> omega
      have hM : o * 2 ^ j < 9007199254740992 := by
        have a1 : o * 2 ^ j < 2 ^ l * 2 ^ j := Nat.mul_lt_mul_of_pos_right hi (Nat.two_pow_pos j)
        rw [← Nat.pow_add] at a1
        have a2 : 2 ^ (l + j) ≤ 2 ^ 53 := Nat.pow_le_pow_right (by decide) hlj
        omega
      have hM0 : 0 < o * 2 ^ j := Nat.mul_pos (Nat.lt_of_lt_of_le (Nat.two_pow_pos _) lo) (Nat.two_pow_pos j)
      have hM1 : 4503599627370496 ≤ o * 2 ^ j ∨ uOf l e = -1074 := by
        by_cases c : e + (l : Int) - 53 < -1074
        · right; unfold uOf; rw [if_pos c]
        · left
          have hue : uOf l e = e + (l : Int) - 53 := by unfold uOf; rw [if_neg c]
          have h53 : l - 1 + j = 52 := by omega
          have a1 : 2 ^ (l - 1) * 2 ^ j ≤ o * 2 ^ j := Nat.mul_le_mul_right _ lo
          rw [← Nat.pow_add, h53] at a1
          omega
      refine ⟨j, hj, ?_⟩
      generalize o * 2 ^ j = M at *
      generalize uOf l e = u at *
      clear hj hlj
      obtain ⟨q, hq⟩ : ∃ q : Nat, (q : Int) = u + 1074 := ⟨(u + 1074).toNat, by omega⟩
      rw [show (u + 1074).toNat = q by omega] at *
      have hq2 : q ≤ 2045 := by omega
      refine ⟨by omega, by omega, ?_, ?_, hu, by omega, hM, hM1, hr.symm⟩
      · unfold mOf
        rw [← hr]
        rcases hM1 with h4 | h4
        · rw [if_neg (by omega), if_pos (by omega)]; omega
        · have hq0 : q = 0 := by omega
          subst hq0
          split
          · omega
          · rw [if_pos (by omega)]; omega
      · unfold eOf
        rw [← hr]
        rcases hM1 with h4 | h4
        · rw [if_neg (by omega), if_neg (by omega), if_pos (by omega)]; omega
        · have hq0 : q = 0 := by omega
          subst hq0
          rw [if_neg (by omega)]
          split
          · omega
          · rw [if_pos (by omega)]; omega

/-- What a pattern tells makes it again. -/
theorem join_back {r : Nat} (h : r < 9218868437227405312) : joinP (mOf r) (eOf r) = some r := by
  by_cases c0 : r = 0
  · subst c0; rfl
  have hm0 : 0 < mOf r := by
    unfold mOf
    split
    · omega
    · omega
  have ho := odd_of hm0 (Nat.lt_trans (m_lt r) (by decide))
  unfold joinP
  rw [if_neg (by omega)]
  have hmlt := m_lt r
  have hm : mOf r = mOf r := rfl
  generalize hmm : mOf r = m at ho hmlt hm0 ⊢
  clear hm
  have hm := hmm.symm
  clear hmm
  generalize oOf m = o at *
  generalize tOf m = t at *
  generalize lOf m = l at *
  obtain ⟨eq, _, lo, hi, pos, fit⟩ := ho
  have h1 : l - 1 + t < 53 := by
    apply Nat.lt_of_not_le
    intro hle
    have a1 : 2 ^ (l - 1) * 2 ^ t ≤ o * 2 ^ t := Nat.mul_le_mul_right _ lo
    rw [← Nat.pow_add, ← eq] at a1
    have a2 : 2 ^ 53 ≤ 2 ^ (l - 1 + t) := Nat.pow_le_pow_right (by decide) hle
    omega
  by_cases c : r < 4503599627370496
  · have e1 : eOf r = -1074 := by unfold eOf; rw [if_neg c0, if_pos c]
    have e2 : m = r := by rw [hm]; unfold mOf; rw [if_pos c]
    have hu : uOf l (eOf r + (t : Int)) = -1074 := by unfold uOf; rw [e1]; split <;> omega
    unfold joinO
    rw [hu, e1, if_neg (by omega), if_neg (by omega), show (-1074 + (t : Int) - -1074).toNat = t by omega, ← eq, e2]
    simp
  · have e1 : eOf r = ((r / 4503599627370496 : Nat) : Int) - 1075 := by unfold eOf; rw [if_neg c0, if_neg c, if_pos h]
    have e2 : m = 4503599627370496 + r % 4503599627370496 := by rw [hm]; unfold mOf; rw [if_neg c, if_pos h]
    have h2 : 53 ≤ l + t := by
      apply Nat.le_of_not_lt
      intro hlt
      have a1 : o * 2 ^ t < 2 ^ l * 2 ^ t := Nat.mul_lt_mul_of_pos_right hi (Nat.two_pow_pos t)
      rw [← Nat.pow_add, ← eq] at a1
      have a2 : 2 ^ (l + t) ≤ 2 ^ 52 := Nat.pow_le_pow_right (by decide) (by omega)
      omega
    have hu : uOf l (eOf r + (t : Int)) = eOf r := by
      unfold uOf
      rw [if_neg (by omega)]
      omega
    unfold joinO
    rw [hu, if_neg (by omega), if_neg (by omega), show (eOf r + (t : Int) - eOf r).toNat = t by omega, ← eq, e2, e1]
    congr 1
    omega

/-- The whole number that a pattern is, if there is one, and it is an int64. -/
def wholeA (s : Bool) (V : Nat) : Option Int := if s then (if V ≤ 9223372036854775808 then some (-(V : Int)) else none) else if V < 9223372036854775808 then some (V : Int) else none
def wholeO (s : Bool) (o : Nat) (e : Int) : Option Int := if e < 0 then none else wholeA s (o * 2 ^ e.toNat)
def wholeP (s : Bool) (r : Nat) : Option Int :=
  if r = 0 then some 0 else if 9218868437227405312 ≤ r then none else wholeO s (oOf (mOf r)) (eOf r + (tOf (mOf r) : Int))

/-- A number that goes into a pattern comes back. -/
theorem whole_back {V : Nat} {s : Bool} {p : Nat} (h : joinP V 0 = some p) (hV : V ≤ 9223372036854775808) (hs : s = false → V < 9223372036854775808) : wholeP s p = some (if s then -(V : Int) else (V : Int)) := by
  by_cases c0 : V = 0
  · subst c0
    obtain rfl : 0 = p := Option.some.inj h
    cases s <;> rfl
  have ho := odd_of (m := V) (by omega) (by omega)
  unfold joinP at h
  rw [if_neg c0] at h
  generalize oOf V = o at *
  generalize tOf V = t at *
  generalize lOf V = l at *
  obtain ⟨j, hj, p0, p1, pm, pe, u0, u1, hM, _, _⟩ := join_tells ho.lo ho.hi ho.pos h
  unfold wholeP
  rw [if_neg p0, if_neg (by omega)]
  have hmm : 0 < mOf p := by
    rw [pm]
    exact Nat.mul_pos (Nat.lt_of_lt_of_le (Nat.two_pow_pos _) ho.lo) (Nat.two_pow_pos j)
  have hp := odd_of hmm (by rw [pm]; omega)
  have h1 := hp.eq
  rw [pm] at h1
  rw [pm] at hp
  obtain ⟨e1, e2⟩ := odd_one h1 ho.odd hp.odd
  rw [pm, ← e1, ← e2, pe]
  unfold wholeO
  rw [if_neg (by omega), show (uOf l (0 + (t : Int)) + (j : Int)).toNat = t by omega, ← ho.eq]
  unfold wholeA
  cases s
  · simp [hs rfl]
  · simp [hV]

end Go.Proofs.YtemkllnnemadeaaDoor
