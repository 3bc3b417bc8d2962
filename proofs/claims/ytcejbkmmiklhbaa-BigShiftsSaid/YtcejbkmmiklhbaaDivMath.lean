/-
  Division by hand: the guess by the highest digits, one digit of a quotient, what is left; pure. No condition beyond what each lemma asks.
-/
import Derived.Test.YtcejbkmmiklhbaaBigH
namespace Go.Proofs.Ytcejbkmmiklhbaa

/-- A digit, noughts below the lowest one. -/
def dgt (xs : List Nat) (n i : Nat) : Nat := if i + 1 ≤ n then xs.getD (n - 1 - i) 0 else 0
/-- The number of the k highest digits of n. -/
def hi (xs : List Nat) (n : Nat) : Nat → Nat
  | 0 => 0
  | k + 1 => hi xs n k * 65536 + dgt xs n k
theorem dgt_lt {xs : List Nat} (h : Dg xs) (n i : Nat) : dgt xs n i < 65536 := by
  unfold dgt
  split
  · exact h.get _
  · omega
theorem hi_lt {xs : List Nat} (h : Dg xs) (n k : Nat) : hi xs n k < 65536 ^ k := by
  induction k with
  | zero => simp [hi]
  | succ k ih =>
    have h1 := dgt_lt h n k
    rw [hi, Nat.pow_succ]
    generalize 65536 ^ k = p at *
    omega
theorem hi_split {xs : List Nat} {n : Nat} (hn : xs.length = n) : ∀ k, k ≤ n → nv xs = nv (xs.take (n - k)) + 65536 ^ (n - k) * hi xs n k := by
  intro k
  induction k with
  | zero =>
    intro _
    rw [Nat.sub_zero, List.take_of_length_le (by omega), hi]
    simp
  | succ k ih =>
    intro hk
    rw [ih (by omega), show n - k = (n - (k + 1)) + 1 by omega, take_nv' xs (n - (k + 1)), hi, Nat.pow_succ]
    have e : dgt xs n k = xs.getD (n - (k + 1)) 0 := by
      unfold dgt
      rw [if_pos (by omega), show n - 1 - k = n - (k + 1) by omega]
    rw [e]
    generalize 65536 ^ (n - (k + 1)) = p
    grind
/-- The guess is the digit or one more. -/
theorem guess_near {W b P w3 b2 wl bl d : Nat} (hW : W = wl + P * w3) (hb : b = bl + P * b2) (hwl : wl < P) (hbl : bl < P) (hb2 : 65536 ≤ b2) (hd : d = W / b) (hlt : W < 65536 * b) : w3 / b2 = d ∨ w3 / b2 = d + 1 := by
  have hP : 0 < P := by omega
  have hbpos : 0 < b := by
    have : P * 65536 ≤ P * b2 := Nat.mul_le_mul_left P hb2
    omega
  have hd1 : d * b ≤ W := by rw [hd]; exact Nat.div_mul_le_self W b
  have hd2 : W < (d + 1) * b := by
    rw [hd]
    have := Nat.div_add_mod W b
    have h3 := Nat.mod_lt W hbpos
    rw [Nat.add_mul, Nat.one_mul, Nat.mul_comm (W / b) b]
    omega
  have hdB : d < 65536 := by
    rw [hd]
    exact (Nat.div_lt_iff_lt_mul hbpos).2 hlt
  have hlow : d ≤ w3 / b2 := by
    rw [Nat.le_div_iff_mul_le (by omega)]
    rcases Nat.lt_or_ge w3 (d * b2) with h | h
    · exfalso
      have h1 : P * (w3 + 1) ≤ P * (d * b2) := Nat.mul_le_mul_left P h
      have h2 : P * (d * b2) ≤ d * b := by
        rw [hb, Nat.mul_add, Nat.mul_left_comm]
        omega
      rw [Nat.mul_add, Nat.mul_one] at h1
      omega
    · exact h
  have hhigh : w3 / b2 ≤ d + 1 := by
    rcases Nat.lt_or_ge (d + 1) (w3 / b2) with h | h
    · exfalso
      have h1 : (d + 2) * b2 ≤ w3 := Nat.le_trans (Nat.mul_le_mul_right b2 h) (Nat.div_mul_le_self w3 b2)
      have h2 : P * ((d + 2) * b2) ≤ P * w3 := Nat.mul_le_mul_left P h1
      have h3 : (d + 1) * b ≤ (d + 1) * (P * (b2 + 1)) := Nat.mul_le_mul_left _ (by rw [hb, Nat.mul_add, Nat.mul_one]; omega)
      have h4 : (d + 1) * (P * (b2 + 1)) = P * ((d + 1) * b2) + P * (d + 1) := by grind
      have h5 : P * ((d + 2) * b2) = P * ((d + 1) * b2) + P * b2 := by grind
      have h6 : P * (d + 1) ≤ P * b2 := Nat.mul_le_mul_left P (by omega)
      omega
    · exact h
  omega
/-- What is left behind one digit. -/
theorem div_here {W b d : Nat} (hd : d = W / b) : W = d * b + W % b := by
  rw [hd, Nat.mul_comm]
  exact (Nat.div_add_mod W b).symm
theorem top_digit {xs : List Nat} {m : Nat} (hm : 0 < m) (ht : xs.getD (m - 1) 0 ≠ 0) : 65536 ≤ hi xs m 2 := by
  unfold hi hi hi
  have e : dgt xs m 0 = xs.getD (m - 1) 0 := by unfold dgt; rw [if_pos (by omega)]; rfl
  rw [e]
  omega
theorem hi_one {xs : List Nat} (hl : xs.length = 1) : hi xs 1 2 = nv xs * 65536 := by
  obtain ⟨x, rfl⟩ := List.length_eq_one_iff.1 hl
  simp [hi, dgt, nv]
theorem hi_two {xs : List Nat} (hl : xs.length = 2) : hi xs 2 3 = nv xs * 65536 := by
  match xs, hl with
  | [x, y], _ =>
    simp [hi, dgt, nv]
    omega
theorem guess_of {xs ys : List Nat} {m : Nat} (hx : Dg xs) (hy : Dg ys) (hxl : xs.length = m + 1) (hyl : ys.length = m) (hm : 0 < m) (ht : ys.getD (m - 1) 0 ≠ 0) (hlt : nv xs < 65536 * nv ys) {d : Nat} (hd : d = nv xs / nv ys) :
    hi xs (m + 1) 3 / hi ys m 2 = d ∨ hi xs (m + 1) 3 / hi ys m 2 = d + 1 := by
  have htop := top_digit hm ht
  by_cases h1 : m = 1
  · subst h1
    left
    rw [hi_one hyl, hi_two hxl, Nat.mul_div_mul_right _ _ (by omega), hd]
  · have e1 := hi_split hxl 3 (by omega)
    have e2 := hi_split hyl 2 (by omega)
    rw [show m + 1 - 3 = m - 2 by omega] at e1
    have l1 := nv_lt (hx.take (m - 2))
    have l2 := nv_lt (hy.take (m - 2))
    rw [List.length_take, Nat.min_eq_left (by omega)] at l1 l2
    exact guess_near e1 e2 l1 l2 htop hd hlt

/-- A digit of what is left, n times b taken. -/
theorem take_step {Z P c v X Y n x y d e : Int} (h : Z + P * c = X - n * Y) (hv : v = c + (x - n * y)) (hd : d = v % 65536) (he : e = v / 65536) : Z + P * d + P * 65536 * e = (X + P * x) - n * (Y + P * y) := by
  have h1 : v = 65536 * e + d := by omega
  have h2 : P * c + P * x - P * (n * y) = P * (65536 * e) + P * d := by
    rw [← Int.mul_add, ← Int.mul_sub, ← Int.mul_add, ← h1, hv]
    congr 1
    omega
  grind

/-- The digits' numbers behind division. -/
theorem take_end {z : Nat} {C T : Int} {P : Nat} (h : (z : Int) + (P : Int) * C = T) (hz : z < P) (hT : 0 ≤ T) (hT2 : T < P) : C = 0 ∧ (z : Int) = T := by
  have hC : C = 0 := by
    rcases Int.lt_trichotomy C 0 with h1 | h1 | h1
    · exfalso
      have : (P : Int) * C ≤ (P : Int) * (-1) := Int.mul_le_mul_of_nonneg_left (by omega) (by omega)
      omega
    · exact h1
    · exfalso
      have : (P : Int) * 1 ≤ (P : Int) * C := Int.mul_le_mul_of_nonneg_left (by omega) (by omega)
      omega
  subst hC
  exact ⟨rfl, by simpa using h⟩

end Go.Proofs.Ytcejbkmmiklhbaa
