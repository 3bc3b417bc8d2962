/-
  Numbers as digits of 2^32, the lowest one first: sums, differences and products digit by digit; pure mathematics, nothing of the program.
-/
import Derived.Test.YtkkoefiennccoaaDoorWideMath
namespace Go.Proofs.YtkkoefiennccoaaDoor

/-- The number that digits of 2^32 tell. -/
def val : List Nat → Nat
  | [] => 0
  | d :: l => d + 4294967296 * val l
theorem val_append (l : List Nat) (d : Nat) : val (l ++ [d]) = val l + d * 4294967296 ^ l.length := by
  induction l with
  | nil => simp [val]
  | cons x l ih =>
    simp only [List.cons_append, val, ih, List.length_cons, Nat.pow_succ, Nat.mul_add]
    rw [Nat.add_assoc, Nat.mul_comm 4294967296 (d * _), Nat.mul_assoc]
theorem val_set (l : List Nat) (j d : Nat) (h : j < l.length) : val (l.set j d) + l.getD j 0 * 4294967296 ^ j = val l + d * 4294967296 ^ j := by
  induction l generalizing j with
  | nil => simp at h
  | cons x l ih =>
    cases j with
    | zero => simp [val]; omega
    | succ j =>
      have h1 := ih j (by simpa using h)
      simp only [List.set_cons_succ, val, List.getD_cons_succ, Nat.pow_succ, ← Nat.mul_assoc]
      generalize l.getD j 0 * 4294967296 ^ j = p at *
      generalize d * 4294967296 ^ j = q at *
      omega
theorem take_next (l : List Nat) (i : Nat) (h : i < l.length) : l.take (i + 1) = l.take i ++ [l.getD i 0] := by
  rw [List.take_succ_eq_append_getElem h]
  simp [List.getD, h]
theorem take_set_next (l : List Nat) (i d : Nat) (h : i < l.length) : (l.set i d).take (i + 1) = l.take i ++ [d] := by
  rw [take_next _ _ (by simpa using h), List.take_set, List.set_eq_of_length_le (by rw [List.length_take]; omega)]
  simp [List.getD, h]
theorem val_next (l : List Nat) (i : Nat) (h : i < l.length) : val (l.take (i + 1)) = val (l.take i) + l.getD i 0 * 4294967296 ^ i := by
  rw [take_next l i h, val_append, List.length_take, Nat.min_eq_left (by omega)]
theorem val_set_next (l : List Nat) (i d : Nat) (h : i < l.length) : val ((l.set i d).take (i + 1)) = val (l.take i) + d * 4294967296 ^ i := by
  rw [take_set_next l i d h, val_append, List.length_take, Nat.min_eq_left (by omega)]

/-- One digit of a sum. -/
theorem sum_step {O X Y c x y v d c' p : Nat} (h : O + c * p = X + Y) (hv : v = x + y + c) (hd : d = v % 4294967296) (hc : c' = v / 4294967296) : O + d * p + c' * (p * 4294967296) = X + x * p + (Y + y * p) := by
  have e : d + c' * 4294967296 = v := by omega
  have e1 : d * p + c' * (p * 4294967296) = v * p := by
    rw [← e, Nat.add_mul, Nat.mul_comm p, Nat.mul_assoc]
  rw [hv, Nat.add_mul, Nat.add_mul] at e1
  omega
/-- One digit of a difference. -/
theorem dif_step {O X Y c x y v d c' p : Nat} (h : O + Y = X + c * p) (hx : x < 4294967296) (hy : y < 4294967296) (hc1 : c ≤ 1) (hv : v = x + 4294967296 - y - c) (hd : d = v % 4294967296) (hc : c' = 1 - v / 4294967296) :
    O + d * p + (Y + y * p) = X + x * p + c' * (p * 4294967296) := by
  have e : d + y + c = x + c' * 4294967296 := by omega
  have e1 : (d + y + c) * p = (x + c' * 4294967296) * p := by rw [e]
  rw [Nat.add_mul, Nat.add_mul, Nat.add_mul, Nat.mul_assoc, Nat.mul_comm 4294967296 p] at e1
  omega
/-- One digit of a product. -/
theorem mul_step {O O' base X x y c v d c' od p K1 : Nat} (h : O + c * p = base + X * y * K1) (hv : v = x * y + od + c) (hd : d = v % 4294967296) (hc : c' = v / 4294967296) (hO : O' + od * p = O + d * p) (P : Nat) (hP : P * K1 = p) :
    O' + c' * (p * 4294967296) = base + (X + x * P) * y * K1 := by
  have e : d + c' * 4294967296 = v := by omega
  have e1 : d * p + c' * (p * 4294967296) = v * p := by
    rw [← e, Nat.add_mul, Nat.mul_comm p, Nat.mul_assoc]
  rw [hv, Nat.add_mul, Nat.add_mul] at e1
  have e2 : (X + x * P) * y * K1 = X * y * K1 + x * y * p := by
    rw [Nat.add_mul, Nat.add_mul, ← hP, Nat.mul_right_comm x P y, Nat.mul_assoc (x * y) P K1]
  rw [e2]
  omega
theorem digit_bound {x y o c : Nat} (hx : x < 4294967296) (hy : y < 4294967296) (ho : o < 4294967296) (hc : c < 4294967296) : x * y + o + c < 18446744073709551616 ∧ x * y < 18446744073709551616 ∧ x * y + o < 18446744073709551616 := by
  have h : x * y ≤ 4294967295 * 4294967295 := Nat.mul_le_mul (by omega) (by omega)
  omega

/-- The four digits of a number. -/
def limbs (n : Nat) : List Nat := [n % 18446744073709551616 % 4294967296, n % 18446744073709551616 / 4294967296, n / 18446744073709551616 % 4294967296, n / 18446744073709551616 / 4294967296]
theorem limbs_val {n : Nat} : val (limbs n) = n := by
  simp only [limbs, val]
  omega
theorem limbs_lt {n : Nat} (h : n < 340282366920938463463374607431768211456) : ∀ d ∈ limbs n, d < 4294967296 := by
  intro d hd
  simp only [limbs, List.mem_cons, List.not_mem_nil, or_false] at hd
  omega
theorem getD_lt {l : List Nat} {i : Nat} (h : ∀ d ∈ l, d < 4294967296) : l.getD i 0 < 4294967296 := by
  by_cases hi : i < l.length
  · have : l.getD i 0 = l[i] := by simp [List.getD, hi]
    rw [this]
    exact h _ (List.getElem_mem hi)
  · have : l.getD i 0 = 0 := by simp [List.getD, List.getElem?_eq_none (by omega : l.length ≤ i)]
    omega
theorem set_lt {l : List Nat} {i d : Nat} (h : ∀ x ∈ l, x < 4294967296) (hd : d < 4294967296) : ∀ x ∈ l.set i d, x < 4294967296 := by
  intro x hx
  rcases List.mem_or_eq_of_mem_set hx with h1 | h1
  · exact h x h1
  · omega
/-- Four digits of six: the two halves. -/
theorem four_of {o0 o1 o2 o3 n : Nat} (h0 : o0 < 4294967296) (h1 : o1 < 4294967296) (h2 : o2 < 4294967296) (h3 : o3 < 4294967296) (h : val [o0, o1, o2, o3] = n) :
    o3 * 4294967296 + o2 = n / 18446744073709551616 ∧ o1 * 4294967296 + o0 = n % 18446744073709551616 ∧ n < 340282366920938463463374607431768211456 := by
  simp only [val] at h
  omega
theorem six_of {o0 o1 o2 o3 o4 o5 n : Nat} (h0 : o0 < 4294967296) (h1 : o1 < 4294967296) (h2 : o2 < 4294967296) (h3 : o3 < 4294967296) (h : val [o0, o1, o2, o3, o4, o5] = n) :
    o3 * 4294967296 + o2 = n % 340282366920938463463374607431768211456 / 18446744073709551616 ∧ o1 * 4294967296 + o0 = n % 340282366920938463463374607431768211456 % 18446744073709551616 ∧ o5 * 4294967296 + o4 = n / 340282366920938463463374607431768211456 := by
  simp only [val] at h
  omega

end Go.Proofs.YtkkoefiennccoaaDoor
