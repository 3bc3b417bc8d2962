/-
  Decimals so great or so small that the nearest pattern is known; an exponent brought within bounds: pure. No condition beyond what each lemma asks.
-/
import Derived.Test.YtemkllnnemadeaaDoorFine12
namespace Go.Proofs.YtemkllnnemadeaaDoor
open Go.RowKit

theorem two_ten {a b k : Nat} (ha : a ≤ 13 * k) (hb : 4 * k ≤ b) : 2 ^ a ≤ 10 ^ b := by
  have h1 : 2 ^ a ≤ 2 ^ (13 * k) := Nat.pow_le_pow_right (by decide) ha
  have h2 : (2 : Nat) ^ (13 * k) ≤ 10 ^ (4 * k) := by
    rw [Nat.pow_mul, Nat.pow_mul]
    exact Nat.pow_le_pow_left (by decide) k
  have h3 : 10 ^ (4 * k) ≤ 10 ^ b := Nat.pow_le_pow_right (by decide) hb
  exact Nat.le_trans h1 (Nat.le_trans h2 h3)

theorem uu_ten {a b k : Nat} (ha : a ≤ 13 * k) (hb : 4 * k ≤ b) : uu a ≤ 10 ^ b := two_ten ha hb
theorem uu_split {n a b : Nat} (h : n = a + b) : 2 ^ n = 2 ^ a * uu b := by
  rw [h]
  exact Nat.pow_add 2 a b
/-- Beyond all patterns. -/
theorem far_up {l : List UInt8} {x : Int} (h1 : 10 ^ (l.length - 1) ≤ nd l) (hl : 1 ≤ l.length) (hx : 400 < x) : NearIs (dA l x) (dB l x) 9218868437227405312 := by
  obtain ⟨n, hn⟩ : ∃ n, n = 2098 := ⟨_, rfl⟩
  refine near_beyond hn (dB_pos l x) ?_
  unfold dA dB
  obtain ⟨a, ha⟩ : ∃ a, a = 1024 := ⟨_, rfl⟩
  obtain ⟨b, hb⟩ : ∃ b, b = 400 := ⟨_, rfl⟩
  rw [uu_split (n := n) (a := a) (b := 1074) (by omega)]
  clear hn
  have p1 : 2 ^ a ≤ 10 ^ b := two_ten (k := 79) (by omega) (by omega)
  generalize 2 ^ a = P at *
  have s1 : P * uu 1074 * 10 ^ ((l.length : Int) - x).toNat ≤ 10 ^ b * uu 1074 * 10 ^ ((l.length : Int) - x).toNat := Nat.mul_le_mul_right _ (Nat.mul_le_mul_right _ p1)
  have s2 : 10 ^ b * uu 1074 * 10 ^ ((l.length : Int) - x).toNat = 10 ^ (b + ((l.length : Int) - x).toNat) * uu 1074 := by rw [Nat.pow_add]; exact Nat.mul_right_comm _ _ _
  have s3 : 10 ^ (b + ((l.length : Int) - x).toNat) * uu 1074 ≤ 10 ^ (l.length - 1 + (x - (l.length : Int)).toNat) * uu 1074 := Nat.mul_le_mul_right _ (Nat.pow_le_pow_right (by decide) (by omega))
  have s4 : 10 ^ (l.length - 1 + (x - (l.length : Int)).toNat) * uu 1074 ≤ nd l * 10 ^ (x - (l.length : Int)).toNat * uu 1074 := by
    rw [Nat.pow_add]
    exact Nat.mul_le_mul_right _ (Nat.mul_le_mul_right _ h1)
  rw [s2] at s1
  exact Nat.le_trans s1 (Nat.le_trans s3 s4)

/-- Nearer to nought than to any other. -/
theorem far_dn {l : List UInt8} {x : Int} (hd : Dgs l) (hx : x < -400) : NearIs (dA l x) (dB l x) 0 := by
  refine near_none (dB_pos l x) ?_
  unfold dA dB
  have h1 := Nat.le_of_lt (nd_lt hd)
  have e1 : (x - (l.length : Int)).toNat = 0 := by omega
  rw [e1, Nat.pow_zero, Nat.mul_one]
  have s1 : 2 * (nd l * uu 1074) ≤ 2 * (10 ^ l.length * uu 1074) := Nat.mul_le_mul_left 2 (Nat.mul_le_mul_right _ h1)
  have s2 : 2 * (10 ^ l.length * uu 1074) = 10 ^ l.length * uu 1075 := by rw [show uu 1075 = 2 * uu 1074 from uu_step 1074]; exact Nat.mul_left_comm _ _ _
  obtain ⟨b, hb⟩ : ∃ b, b = 400 := ⟨_, rfl⟩
  have s3 : uu 1075 ≤ 10 ^ b := uu_ten (k := 83) (by decide) (by omega)
  have s4 : 10 ^ l.length * uu 1075 ≤ 10 ^ l.length * 10 ^ b := Nat.mul_le_mul_left _ s3
  rw [← Nat.pow_add] at s4
  have s5 : 10 ^ (l.length + b) ≤ 10 ^ ((l.length : Int) - x).toNat := Nat.pow_le_pow_right (by decide) (by omega)
  rw [s2] at s1
  exact Nat.le_trans s1 (Nat.le_trans s4 s5)

/-- The exponent brought within bounds. -/
def clip (x : Int) : Int := if x < -3000 then -3000 else if 3000 < x then 3000 else x

theorem nd_front {l : List UInt8} (hd : Dgs l) (h0 : nd l ≠ 0) : ∃ k : Nat, k < l.length ∧ 10 ^ (l.length - 1 - k) ≤ nd l := by
  induction l with
  | nil => exact absurd rfl h0
  | cons c m ih =>
    have hm : Dgs m := fun x hx => hd x (List.mem_cons_of_mem _ hx)
    by_cases hc : dv c = 0
    · have e : nd (c :: m) = nd m := by simp [nd, hc]
      rw [e] at h0 ⊢
      obtain ⟨k, hk, h⟩ := ih hm h0
      refine ⟨k + 1, by simp only [List.length_cons]; omega, ?_⟩
      rw [List.length_cons, show m.length + 1 - 1 - (k + 1) = m.length - 1 - k by omega]
      exact h
    · refine ⟨0, by simp, ?_⟩
      rw [List.length_cons, Nat.add_sub_cancel, Nat.sub_zero]
      have h1 : 1 ≤ dv c := by omega
      have := Nat.mul_le_mul_right (10 ^ m.length) h1
      simp only [nd]
      omega

theorem big_up {l : List UInt8} {x : Int} (h0 : nd l ≠ 0) (hl : l.length ≤ 300) (hx : 3000 ≤ x) : NearIs (dA l x) (dB l x) 9218868437227405312 := by
  obtain ⟨n, hn⟩ : ∃ n, n = 2098 := ⟨_, rfl⟩
  refine near_beyond hn (dB_pos l x) ?_
  unfold dA dB
  obtain ⟨a, ha⟩ : ∃ a, a = 1024 := ⟨_, rfl⟩
  obtain ⟨b, hb⟩ : ∃ b, b = 400 := ⟨_, rfl⟩
  rw [uu_split (n := n) (a := a) (b := 1074) (by omega)]
  clear hn
  have p1 : 2 ^ a ≤ 10 ^ b := two_ten (k := 79) (by omega) (by omega)
  generalize 2 ^ a = P at *
  have e2 : ((l.length : Int) - x).toNat = 0 := by omega
  rw [e2, Nat.pow_zero, Nat.mul_one]
  have h1 : 1 ≤ nd l := by omega
  have s1 : 10 ^ b ≤ 10 ^ (x - (l.length : Int)).toNat := Nat.pow_le_pow_right (by decide) (by omega)
  have s2 : 1 * 10 ^ (x - (l.length : Int)).toNat ≤ nd l * 10 ^ (x - (l.length : Int)).toNat := Nat.mul_le_mul_right _ h1
  rw [Nat.one_mul] at s2
  exact Nat.mul_le_mul_right _ (Nat.le_trans p1 (Nat.le_trans s1 s2))

theorem dA_zero {l : List UInt8} (h : nd l = 0) (x : Int) : dA l x = 0 := by unfold dA; rw [h, Nat.zero_mul, Nat.zero_mul]

/-- What is nearest with the exponent within bounds is nearest. -/
theorem near_clip {l : List UInt8} {x : Int} {p : Nat} (hd : Dgs l) (hl : l.length ≤ 300) (h : NearIs (dA l (clip x)) (dB l (clip x)) p) : NearIs (dA l x) (dB l x) p := by
  unfold clip at h
  by_cases h1 : x < -3000
  · rw [if_pos h1] at h
    have e := near_one (dB_pos _ _) h (far_dn hd (by decide))
    rw [e]
    exact far_dn hd (by omega)
  · rw [if_neg h1] at h
    by_cases h2 : 3000 < x
    · rw [if_pos h2] at h
      by_cases h0 : nd l = 0
      · rw [dA_zero h0] at h
        rw [dA_zero h0]
        exact near_same (dB_pos _ _) (dB_pos _ _) (by rw [Nat.zero_mul, Nat.zero_mul]) h
      · have e := near_one (dB_pos _ _) h (big_up h0 hl (by decide))
        rw [e]
        exact big_up h0 hl (by omega)
    · rw [if_neg h2] at h
      exact h

end Go.Proofs.YtemkllnnemadeaaDoor
