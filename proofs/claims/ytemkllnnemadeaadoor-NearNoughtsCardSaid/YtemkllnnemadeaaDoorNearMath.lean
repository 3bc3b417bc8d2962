/-
  Which pattern is nearest to a number A / B (in units of 2^-1074): pure; no condition beyond what each lemma asks.
-/
import Derived.Test.YtemkllnnemadeaaDoorDblMath
namespace Go.Proofs.YtemkllnnemadeaaDoor

/-- A pattern's number, in units of 2^-1074; that of infinity goes on as if. -/
def vN (p : Nat) : Nat := if p < 4503599627370496 then p else (4503599627370496 + p % 4503599627370496) * 2 ^ (p / 4503599627370496 - 1)

theorem vN_low {p : Nat} (h : p < 4503599627370496) : vN p = p := if_pos h
theorem vN_high {p : Nat} (h : ¬ p < 4503599627370496) : vN p = (4503599627370496 + p % 4503599627370496) * 2 ^ (p / 4503599627370496 - 1) := if_neg h
theorem vN_step (p : Nat) : vN (p + 1) = vN p + 2 ^ (p / 4503599627370496 - 1) := by
  by_cases h : p < 4503599627370496
  · have e : p / 4503599627370496 - 1 = 0 := by omega
    rw [e, vN_low h, Nat.pow_zero]
    by_cases h2 : p + 1 < 4503599627370496
    · rw [vN_low h2]
    · have e1 : p + 1 = 4503599627370496 := by omega
      rw [e1]
      rw [vN_high (by decide)]
  · rw [vN_high h, vN_high (show ¬ p + 1 < 4503599627370496 by omega)]
    by_cases h2 : p % 4503599627370496 = 4503599627370495
    · have e1 : (p + 1) % 4503599627370496 = 0 := by omega
      have e2 : (p + 1) / 4503599627370496 - 1 = p / 4503599627370496 - 1 + 1 := by omega
      rw [e1, e2, h2, Nat.pow_succ]
      generalize 2 ^ (p / 4503599627370496 - 1) = u
      omega
    · have e1 : (p + 1) % 4503599627370496 = p % 4503599627370496 + 1 := by omega
      have e2 : (p + 1) / 4503599627370496 = p / 4503599627370496 := by omega
      rw [e1, e2]
      generalize 2 ^ (p / 4503599627370496 - 1) = u
      rw [← Nat.add_assoc, Nat.add_mul, Nat.one_mul]
theorem vN_up (p : Nat) : vN p < vN (p + 1) := by
  rw [vN_step]
  have := Nat.two_pow_pos (p / 4503599627370496 - 1)
  omega
theorem vN_lt {p q : Nat} (h : p < q) : vN p < vN q := by
  induction q with
  | zero => omega
  | succ q ih =>
    rcases Nat.lt_or_ge p q with h1 | h1
    · exact Nat.lt_trans (ih h1) (vN_up q)
    · have : p = q := by omega
      subst this
      exact vN_up p
theorem vN_le {p q : Nat} (h : p ≤ q) : vN p ≤ vN q := by
  rcases Nat.lt_or_ge p q with h1 | h1
  · exact Nat.le_of_lt (vN_lt h1)
  · have : p = q := by omega
    subst this
    exact Nat.le_refl _

/-- What Split tells is that number. -/
theorem vN_split {p : Nat} (h0 : ¬ p = 0) (h : p < 9218868437227405312) : ∃ k : Nat, (k : Int) = eOf p + 1074 ∧ vN p = mOf p * 2 ^ k ∧ vN p + vN (p + 1) = (2 * mOf p + 1) * 2 ^ k := by
  have key : ∃ k : Nat, (k : Int) = eOf p + 1074 ∧ vN p = mOf p * 2 ^ k ∧ p / 4503599627370496 - 1 = k := by
    by_cases c : p < 4503599627370496
    · refine ⟨0, ?_, ?_, by omega⟩
      · unfold eOf; rw [if_neg h0, if_pos c]; rfl
      · rw [vN_low c]; unfold mOf; rw [if_pos c]; simp
    · refine ⟨p / 4503599627370496 - 1, ?_, ?_, rfl⟩
      · unfold eOf; rw [if_neg h0, if_neg c, if_pos h]; omega
      · rw [vN_high c]; unfold mOf; rw [if_neg c, if_pos h]
  obtain ⟨k, h1, h2, h3⟩ := key
  refine ⟨k, h1, h2, ?_⟩
  rw [vN_step, h3, h2, Nat.add_mul, Nat.one_mul, Nat.mul_assoc 2]
  omega

/-- The pattern p is the nearest to A / B; of two the one whose lowest bit is 0; that of infinity stands for all beyond. -/
def NearIs (A B p : Nat) : Prop :=
  p ≤ 9218868437227405312 ∧ (p = 0 ∨ (vN (p - 1) + vN p) * B < 2 * A ∨ (p % 2 = 0 ∧ (vN (p - 1) + vN p) * B = 2 * A)) ∧
    (p = 9218868437227405312 ∨ 2 * A < (vN p + vN (p + 1)) * B ∨ (p % 2 = 0 ∧ 2 * A = (vN p + vN (p + 1)) * B))

theorem near_mono {A B A' B' p q : Nat} (hB : 0 < B) (hB' : 0 < B') (h : A * B' ≤ A' * B) (hp : NearIs A B p) (hq : NearIs A' B' q) : p ≤ q := by
  apply Nat.le_of_not_lt
  intro hlt
  obtain ⟨p1, p2, _⟩ := hp
  obtain ⟨q1, _, q3⟩ := hq
  have hp2 : (vN (p - 1) + vN p) * B ≤ 2 * A := by omega
  have hq3 : 2 * A' ≤ (vN q + vN (q + 1)) * B' := by omega
  have e1 : vN q ≤ vN (p - 1) := vN_le (by omega)
  have e2 : vN (q + 1) ≤ vN p := vN_le (by omega)
  have s1 : (vN (p - 1) + vN p) * B * B' ≤ 2 * A * B' := Nat.mul_le_mul_right _ hp2
  have s2 : 2 * A' * B ≤ (vN q + vN (q + 1)) * B' * B := Nat.mul_le_mul_right _ hq3
  have s3 : 2 * A * B' ≤ 2 * A' * B := by
    have := Nat.mul_le_mul_left 2 h
    rw [← Nat.mul_assoc, ← Nat.mul_assoc] at this
    exact this
  have s4 : (vN q + vN (q + 1)) * B' * B = (vN q + vN (q + 1)) * B * B' := Nat.mul_right_comm _ _ _
  have s5 : (vN (p - 1) + vN p) * B * B' ≤ (vN q + vN (q + 1)) * B * B' := by omega
  have s6 := Nat.le_of_mul_le_mul_right (Nat.le_of_mul_le_mul_right s5 hB') hB
  have hpq : p = q + 1 := by
    apply Nat.le_antisymm _ hlt
    apply Nat.le_of_not_lt
    intro h2
    have := vN_lt (p := q + 1) (q := p) h2
    omega
  have s7 : vN (p - 1) + vN p = vN q + vN (q + 1) := by omega
  rw [s7] at hp2 s1 p2
  have s8 : (vN q + vN (q + 1)) * B * B' = 2 * A * B' := by omega
  have s9 : 2 * A' * B = (vN q + vN (q + 1)) * B' * B := by omega
  have t1 := Nat.eq_of_mul_eq_mul_right hB' s8
  have t2 := Nat.eq_of_mul_eq_mul_right hB s9
  omega

/-- There is one alone. -/
theorem near_one {A B p q : Nat} (hB : 0 < B) (hp : NearIs A B p) (hq : NearIs A B q) : p = q :=
  Nat.le_antisymm (near_mono hB hB (Nat.le_refl _) hp hq) (near_mono hB hB (Nat.le_refl _) hq hp)

/-- It hangs on the quotient alone. -/
theorem near_same {A B A' B' p : Nat} (hB : 0 < B) (hB' : 0 < B') (h : A * B' = A' * B) (hp : NearIs A B p) : NearIs A' B' p := by
  have lt1 : ∀ X, X * B < 2 * A → X * B' < 2 * A' := by
    intro X hX
    have s1 : X * B * B' < 2 * A * B' := Nat.mul_lt_mul_of_pos_right hX hB'
    have s2 : 2 * A * B' = 2 * A' * B := by rw [Nat.mul_assoc, h, Nat.mul_assoc]
    rw [s2, Nat.mul_right_comm X B B'] at s1
    exact Nat.lt_of_mul_lt_mul_right s1
  have lt2 : ∀ X, 2 * A < X * B → 2 * A' < X * B' := by
    intro X hX
    have s1 : 2 * A * B' < X * B * B' := Nat.mul_lt_mul_of_pos_right hX hB'
    have s2 : 2 * A * B' = 2 * A' * B := by rw [Nat.mul_assoc, h, Nat.mul_assoc]
    rw [s2, Nat.mul_right_comm X B B'] at s1
    exact Nat.lt_of_mul_lt_mul_right s1
  have eq1 : ∀ X, X * B = 2 * A → X * B' = 2 * A' := by
    intro X hX
    have s2 : 2 * A * B' = 2 * A' * B := by rw [Nat.mul_assoc, h, Nat.mul_assoc]
    have s1 : X * B' * B = 2 * A' * B := by rw [Nat.mul_right_comm, hX, s2]
    exact Nat.eq_of_mul_eq_mul_right hB s1
  obtain ⟨p1, p2, p3⟩ := hp
  refine ⟨p1, ?_, ?_⟩
  · rcases p2 with h | h | ⟨h, h2⟩
    · exact .inl h
    · exact .inr (.inl (lt1 _ h))
    · exact .inr (.inr ⟨h, eq1 _ h2⟩)
  · rcases p3 with h | h | ⟨h, h2⟩
    · exact .inl h
    · exact .inr (.inl (lt2 _ h))
    · exact .inr (.inr ⟨h, (eq1 _ h2.symm).symm⟩)

/-- From the greatest pattern that is not above the number. -/
theorem near_lo {A B lo : Nat} (hB : 0 < B) (h0 : lo ≤ 9218868437227405311) (h1 : vN lo * B ≤ A) (h2 : 2 * A < (vN lo + vN (lo + 1)) * B ∨ (lo % 2 = 0 ∧ 2 * A = (vN lo + vN (lo + 1)) * B)) : NearIs A B lo := by
  refine ⟨by omega, ?_, .inr h2⟩
  by_cases c : lo = 0
  · exact .inl c
  · right; left
    have e : vN (lo - 1) < vN lo := vN_lt (by omega)
    have s1 : (vN (lo - 1) + vN lo) * B < (2 * vN lo) * B := Nat.mul_lt_mul_of_pos_right (by omega) hB
    rw [Nat.mul_assoc] at s1
    omega
theorem near_hi {A B lo : Nat} (hB : 0 < B) (h0 : lo ≤ 9218868437227405311) (h1 : lo = 9218868437227405311 ∨ A < vN (lo + 1) * B) (h2 : (vN lo + vN (lo + 1)) * B < 2 * A ∨ (lo % 2 = 1 ∧ (vN lo + vN (lo + 1)) * B = 2 * A)) : NearIs A B (lo + 1) := by
  refine ⟨by omega, ?_, ?_⟩
  · right
    rw [Nat.add_sub_cancel]
    rcases h2 with h2 | ⟨h2, h3⟩
    · exact .inl h2
    · exact .inr ⟨by omega, h3⟩
  · rcases h1 with h1 | h1
    · exact .inl (by omega)
    · right; left
      have e : vN (lo + 1) < vN (lo + 1 + 1) := vN_up _
      have s1 : (2 * vN (lo + 1)) * B < (vN (lo + 1) + vN (lo + 1 + 1)) * B := Nat.mul_lt_mul_of_pos_right (by omega) hB
      rw [Nat.mul_assoc] at s1
      omega

/-- A number that a pattern is. -/
theorem near_exact {A B p : Nat} (hB : 0 < B) (h : p ≤ 9218868437227405311) (hA : A = vN p * B) : NearIs A B p := by
  refine near_lo hB h (by omega) (.inl ?_)
  have e := vN_up p
  have s1 : (2 * vN p) * B < (vN p + vN (p + 1)) * B := Nat.mul_lt_mul_of_pos_right (by omega) hB
  rw [Nat.mul_assoc] at s1
  omega

theorem top_val {r q n : Nat} (hr : r = 0) (hn : n = 52 + q) : (4503599627370496 + r) * 2 ^ q = 2 ^ n := by
  rw [hr, hn, Nat.pow_add, Nat.add_zero]
theorem vN_at {p r q : Nat} (h : ¬ p < 4503599627370496) (hr : p % 4503599627370496 = r) (hq : p / 4503599627370496 - 1 = q) : vN p = (4503599627370496 + r) * 2 ^ q := by
  rw [vN_high h, hr, hq]
theorem vN_top : ∀ n, n = 2098 → vN 9218868437227405312 = 2 ^ n := by
  intro n hn
  obtain ⟨q, hq⟩ : ∃ q, 9218868437227405312 / 4503599627370496 - 1 = q := ⟨_, rfl⟩
  rw [vN_at (by decide) rfl hq]
  exact top_val (by decide) (by omega)
/-- All that is at 2^1024 or beyond. -/
theorem near_beyond {A B n : Nat} (hn : n = 2098) (hB : 0 < B) (h : 2 ^ n * B ≤ A) : NearIs A B 9218868437227405312 := by
  refine near_hi hB (Nat.le_refl _) (.inl rfl) (.inl ?_)
  rw [vN_top n hn]
  have e : vN 9218868437227405311 < 2 ^ n := by rw [← vN_top n hn]; exact vN_up _
  generalize vN 9218868437227405311 = x at *
  generalize 2 ^ n = y at *
  have s1 : (x + y) * B < (2 * y) * B := Nat.mul_lt_mul_of_pos_right (by omega) hB
  rw [Nat.mul_assoc] at s1
  omega
/-- All that is half of the least pattern or less. -/
theorem near_none {A B : Nat} (hB : 0 < B) (h : 2 * A ≤ B) : NearIs A B 0 := by
  refine near_lo hB (by decide) (by rw [vN_low (by decide)]; omega) ?_
  rw [vN_low (by decide), vN_low (by decide)]
  omega

end Go.Proofs.YtemkllnnemadeaaDoor
