/-
  What a decimal's bits tell, and the bits that parts make; pure.
-/
import Derived.Lib.Hide
namespace Go.Proofs.YtkkoefiennccoaaDoor

/-- The kind: 1 Finite, 2 Inf, 3 NaN. -/
def dK (h : Nat) : Nat := if h / 288230376151711744 % 32 = 31 then 3 else if h / 288230376151711744 % 32 = 30 then 2 else 1
/-- The sign. -/
def dN (h : Nat) : Bool := decide (h / 9223372036854775808 = 1)
/-- The coefficient. -/
def dC (h l : Nat) : Nat :=
  if h / 288230376151711744 % 32 = 31 then 0 else if h / 288230376151711744 % 32 = 30 then 0 else
  if h / 2305843009213693952 % 4 = 3 then 0 else
  if h % 562949953421312 * 18446744073709551616 + l < 10000000000000000000000000000000000 then h % 562949953421312 * 18446744073709551616 + l else 0
/-- The exponent. -/
def dX (h : Nat) : Int :=
  if h / 288230376151711744 % 32 = 31 then 0 else if h / 288230376151711744 % 32 = 30 then 0 else
  if h / 2305843009213693952 % 4 = 3 then ((h / 140737488355328 % 16384 : Nat) : Int) - 6176 else ((h / 562949953421312 % 16384 : Nat) : Int) - 6176

theorem dK_nan {h : Nat} (e : h / 288230376151711744 % 32 = 31) : dK h = 3 ∧ (∀ l, dC h l = 0) ∧ dX h = 0 := by
  unfold dK dC dX
  simp only [if_pos e, implies_true, and_self]
theorem dK_inf {h : Nat} (e : h / 288230376151711744 % 32 = 30) : dK h = 2 ∧ (∀ l, dC h l = 0) ∧ dX h = 0 := by
  have n : ¬ h / 288230376151711744 % 32 = 31 := by omega
  unfold dK dC dX
  simp only [if_neg n, if_pos e, implies_true, and_self]
theorem dK_fin {h : Nat} (n : ¬ h / 288230376151711744 % 32 = 31) (m : ¬ h / 288230376151711744 % 32 = 30) : dK h = 1 ∧
    (h / 2305843009213693952 % 4 = 3 → (∀ l, dC h l = 0) ∧ dX h = ((h / 140737488355328 % 16384 : Nat) : Int) - 6176) ∧
    (¬ h / 2305843009213693952 % 4 = 3 → (∀ l, dC h l = if h % 562949953421312 * 18446744073709551616 + l < 10000000000000000000000000000000000 then h % 562949953421312 * 18446744073709551616 + l else 0) ∧ dX h = ((h / 562949953421312 % 16384 : Nat) : Int) - 6176) := by
  unfold dK dC dX
  simp only [if_neg n, if_neg m]
  refine ⟨trivial, fun e => ?_, fun e => ?_⟩
  · simp only [if_pos e, implies_true, and_self]
  · simp only [if_neg e, implies_true, and_self]
theorem dC_lt (h l : Nat) : dC h l < 10000000000000000000000000000000000 := by
  unfold dC
  split
  · decide
  · split
    · decide
    · split
      · decide
      · split
        · assumption
        · decide
theorem dX_in (h : Nat) : -6176 ≤ dX h ∧ dX h ≤ 6111 := by
  unfold dX
  split
  · omega
  · split
    · omega
    · split <;> omega

/-- The upper half that parts make. -/
def dH (n : Bool) (c : Nat) (x : Int) : Nat := (x + 6176).toNat * 562949953421312 + c / 18446744073709551616 + if n then 9223372036854775808 else 0
/-- Parts that can be joined. -/
def Joins (c : Nat) (x : Int) : Prop := c < 10000000000000000000000000000000000 ∧ -6176 ≤ x ∧ x ≤ 6111
instance (c : Nat) (x : Int) : Decidable (Joins c x) := by unfold Joins; infer_instance

theorem high_lt {c : Nat} (hc : c < 10000000000000000000000000000000000) : c / 18446744073709551616 < 542101086242753 := by omega
theorem dH_lt {n : Bool} {c : Nat} {x : Int} (j : Joins c x) : dH n c x < 18446744073709551616 := by
  obtain ⟨a, b, d⟩ := j
  have := high_lt a
  obtain ⟨k, rfl⟩ : ∃ k : Nat, x = (k : Int) - 6176 := ⟨(x + 6176).toNat, by omega⟩
  unfold dH
  rw [show ((k : Int) - 6176 + 6176).toNat = k by omega]
  cases n <;> simp <;> omega

/-- What is joined is told by its parts. -/
theorem join_back {n : Bool} {c : Nat} {x : Int} (j : Joins c x) : dK (dH n c x) = 1 ∧ dN (dH n c x) = n ∧ dC (dH n c x) (c % 18446744073709551616) = c ∧ dX (dH n c x) = x := by
  obtain ⟨a, b, d⟩ := j
  have hc := high_lt a
  obtain ⟨k, rfl⟩ : ∃ k : Nat, x = (k : Int) - 6176 := ⟨(x + 6176).toNat, by omega⟩
  have hk : k < 12288 := by omega
  obtain ⟨H, hH⟩ : ∃ H, H = dH n c ((k : Int) - 6176) := ⟨_, rfl⟩
  rw [← hH]
  unfold dH at hH
  rw [show ((k : Int) - 6176 + 6176).toNat = k by omega] at hH
  obtain ⟨c1, e1⟩ : ∃ c1, c / 18446744073709551616 = c1 := ⟨_, rfl⟩
  obtain ⟨c0, e0⟩ : ∃ c0, c % 18446744073709551616 = c0 := ⟨_, rfl⟩
  have ec : c = c1 * 18446744073709551616 + c0 := by omega
  rw [e1] at hH hc
  rw [e0]
  have hs : ∃ s, s < 2 ∧ H = k * 562949953421312 + c1 + s * 9223372036854775808 ∧ n = decide (s = 1) := by
    cases n
    · exact ⟨0, by omega, by simpa using hH, rfl⟩
    · exact ⟨1, by omega, by simpa using hH, rfl⟩
  obtain ⟨s, h2, rfl, rfl⟩ := hs
  clear hH
  have q1 : ¬ (k * 562949953421312 + c1 + s * 9223372036854775808) / 288230376151711744 % 32 = 31 := by omega
  have q2 : ¬ (k * 562949953421312 + c1 + s * 9223372036854775808) / 288230376151711744 % 32 = 30 := by omega
  have q3 : ¬ (k * 562949953421312 + c1 + s * 9223372036854775808) / 2305843009213693952 % 4 = 3 := by omega
  have q4 : (k * 562949953421312 + c1 + s * 9223372036854775808) % 562949953421312 = c1 := by omega
  have q5 : (k * 562949953421312 + c1 + s * 9223372036854775808) / 562949953421312 % 16384 = k := by omega
  have q6 : (k * 562949953421312 + c1 + s * 9223372036854775808) / 9223372036854775808 = s := by omega
  obtain ⟨f1, _, f3⟩ := dK_fin q1 q2
  obtain ⟨f4, f5⟩ := f3 q3
  refine ⟨f1, ?_, ?_, ?_⟩
  · unfold dN; rw [q6]
  · rw [f4, q4, ← ec, if_pos a]
  · rw [f5, q5]

/-- Are the bits just what their parts tell? -/
def dP (h l : Nat) : Bool :=
  if dK h = 3 then decide (h = 8935141660703064064 ∧ l = 0) else if dK h = 2 then decide ((h = 8646911284551352320 ∨ h = 17870283321406128128) ∧ l = 0) else
  decide (dH (dN h) (dC h l) (dX h) = h ∧ dC h l % 18446744073709551616 = l)

theorem kind_one {h : Nat} (k : dK h = 1) (l : Nat) : dP h l = decide (dH (dN h) (dC h l) (dX h) = h ∧ dC h l % 18446744073709551616 = l) := by
  unfold dP
  rw [if_neg (by omega), if_neg (by omega)]
theorem join_plain {n : Bool} {c : Nat} {x : Int} (j : Joins c x) : dP (dH n c x) (c % 18446744073709551616) = true := by
  obtain ⟨a, b, d, e⟩ := join_back (n := n) j
  rw [kind_one a, b, d, e]
  simp
theorem split_joins (h l : Nat) : Joins (dC h l) (dX h) := ⟨dC_lt h l, dX_in h⟩
theorem kinds (h : Nat) : dK h = 1 ∨ (dK h = 2 ∨ dK h = 3) ∧ (∀ l, dC h l = 0) ∧ dX h = 0 := by
  by_cases a : h / 288230376151711744 % 32 = 31
  · right; exact ⟨.inr (dK_nan a).1, (dK_nan a).2⟩
  · by_cases b : h / 288230376151711744 % 32 = 30
    · right; exact ⟨.inl (dK_inf b).1, (dK_inf b).2⟩
    · left; exact (dK_fin a b).1

end Go.Proofs.YtkkoefiennccoaaDoor
