/-
  Numbers of 128 bits: sums, products, quotients by halves, and their decimal digits; pure mathematics, nothing of the program.
-/
import Derived.Lib.Mul64
import Derived.Lib.BitFns
import Derived.Lib.ItoaNum
namespace Go.Proofs.YtkkoefiennccoaaDoor

/-! ### Sums -/
theorem add_lo (a b : Nat) : (a % 18446744073709551616 + b % 18446744073709551616) % 18446744073709551616 = (a + b) % 340282366920938463463374607431768211456 % 18446744073709551616 := by omega
theorem add_hi {a b : Nat} (_ha : a < 340282366920938463463374607431768211456) (_hb : b < 340282366920938463463374607431768211456) :
    (a / 18446744073709551616 + b / 18446744073709551616 + (a % 18446744073709551616 + b % 18446744073709551616) / 18446744073709551616) % 18446744073709551616 = (a + b) % 340282366920938463463374607431768211456 / 18446744073709551616 := by omega
theorem add_out {a b : Nat} (_ha : a < 340282366920938463463374607431768211456) (_hb : b < 340282366920938463463374607431768211456) :
    (a / 18446744073709551616 + b / 18446744073709551616 + (a % 18446744073709551616 + b % 18446744073709551616) / 18446744073709551616) / 18446744073709551616 = (a + b) / 340282366920938463463374607431768211456 := by omega
/-- The difference modulo 2^128. -/
def subW (a b : Nat) : Nat := (a + 340282366920938463463374607431768211456 - b) % 340282366920938463463374607431768211456
theorem sub_lo {a b : Nat} (ha : a < 340282366920938463463374607431768211456) (hb : b < 340282366920938463463374607431768211456) :
    (a % 18446744073709551616 + 18446744073709551616 - b % 18446744073709551616) % 18446744073709551616 = subW a b % 18446744073709551616 := by unfold subW; omega
theorem sub_hi {a b c : Nat} (ha : a < 340282366920938463463374607431768211456) (hb : b < 340282366920938463463374607431768211456) (hc : c = if a % 18446744073709551616 < b % 18446744073709551616 then 1 else 0) :
    (a / 18446744073709551616 + 18446744073709551616 - b / 18446744073709551616 - c) % 18446744073709551616 = subW a b / 18446744073709551616 := by
  unfold subW
  split at hc <;> subst hc <;> omega
theorem sub_out {a b c : Nat} (_ha : a < 340282366920938463463374607431768211456) (_hb : b < 340282366920938463463374607431768211456) (hc : c = if a % 18446744073709551616 < b % 18446744073709551616 then 1 else 0) :
    (a / 18446744073709551616 < b / 18446744073709551616 + c) ↔ a < b := by
  split at hc <;> subst hc <;> omega

/-! ### Products -/
theorem times_split (a b : Nat) : a * b = a / 18446744073709551616 * b * 18446744073709551616 + a % 18446744073709551616 * b := by
  have h := Nat.div_add_mod a 18446744073709551616
  calc a * b = (18446744073709551616 * (a / 18446744073709551616) + a % 18446744073709551616) * b := by rw [h]
    _ = _ := by rw [Nat.add_mul, Nat.mul_assoc, Nat.mul_comm 18446744073709551616]
theorem prod_lt {x y : Nat} (hx : x < 18446744073709551616) (hy : y < 18446744073709551616) : x * y < 340282366920938463463374607431768211456 ∧ x * y / 18446744073709551616 < 18446744073709551616 := by
  have h : x * y ≤ 18446744073709551615 * 18446744073709551615 := Nat.mul_le_mul (by omega) (by omega)
  exact ⟨by omega, by omega⟩
theorem times_parts {a b : Nat} (ha : a < 340282366920938463463374607431768211456) (hb : b < 18446744073709551616) :
    (a % 18446744073709551616 * b) % 18446744073709551616 = a * b % 340282366920938463463374607431768211456 % 18446744073709551616 ∧
    (a % 18446744073709551616 * b / 18446744073709551616 + a / 18446744073709551616 * b % 18446744073709551616) % 18446744073709551616 = a * b % 340282366920938463463374607431768211456 / 18446744073709551616 ∧
    a / 18446744073709551616 * b / 18446744073709551616 + (a % 18446744073709551616 * b / 18446744073709551616 + a / 18446744073709551616 * b % 18446744073709551616) / 18446744073709551616 = a * b / 340282366920938463463374607431768211456 := by
  have e := times_split a b
  have h1 := (prod_lt (x := a % 18446744073709551616) (y := b) (by omega) hb).1
  have h2 := (prod_lt (x := a / 18446744073709551616) (y := b) (by omega) hb).1
  rw [e]
  generalize a % 18446744073709551616 * b = p at *
  generalize a / 18446744073709551616 * b = q at *
  refine ⟨by omega, by omega, by omega⟩
theorem times_over {a b : Nat} (ha : a < 340282366920938463463374607431768211456) (hb : b < 18446744073709551616) : a * b / 340282366920938463463374607431768211456 < 18446744073709551616 := by
  have h : a * b ≤ 340282366920938463463374607431768211455 * 18446744073709551615 := Nat.mul_le_mul (by omega) (by omega)
  omega

/-! ### A quotient of one digit, as Knuth has it: u < y, y's highest bit is set, d is the next digit -/
section
variable {u y d q : Nat}
theorem digit_lt (hu : u < y) (hd : d < 4294967296) : (u * 4294967296 + d) / y < 4294967296 := by
  have : u * 4294967296 + d < 4294967296 * y := by omega
  exact Nat.div_lt_of_lt_mul (by omega)
/-- The two digits of the divisor: what a guess times it is. -/
theorem guess_mul (g : Nat) : g * y = g * (y / 4294967296) * 4294967296 + g * (y % 4294967296) := by
  have h := Nat.div_add_mod y 4294967296
  calc g * y = g * (4294967296 * (y / 4294967296) + y % 4294967296) := by rw [h]
    _ = _ := by rw [Nat.mul_add, Nat.mul_comm 4294967296, ← Nat.mul_assoc]
/-- What holds whenever a guess is looked at. -/
def Guess (u y d g r : Nat) : Prop := g * (y / 4294967296) + r = u ∧ (u * 4294967296 + d) / y ≤ g ∧ g ≤ 4294967297 ∧ r < 4294967296
theorem guess_first (hy : 9223372036854775808 ≤ y) (hyt : y < 18446744073709551616) (hu : u < y) (hd : d < 4294967296) :
    Guess u y d (u / (y / 4294967296)) (u - u / (y / 4294967296) * (y / 4294967296)) := by
  have hn : 2147483648 ≤ y / 4294967296 := by omega
  unfold Guess
  have hub : u < y / 4294967296 * 4294967296 + 4294967296 := by omega
  have hm := Nat.div_add_mod u (y / 4294967296)
  have hr : u % (y / 4294967296) < y / 4294967296 := Nat.mod_lt _ (by omega)
  have hn' : y / 4294967296 < 4294967296 := by omega
  have hgm := fun g => guess_mul (y := y) g
  generalize y / 4294967296 = n at *
  have e : u / n * n = n * (u / n) := Nat.mul_comm _ _
  generalize hgg : u / n = g at *
  refine ⟨by omega, ?_, ?_, by omega⟩
  · have hlt : u < n * (g + 1) := by rw [Nat.mul_add]; omega
    have h2 : u * 4294967296 + d < (g + 1) * y := by
      have h3 : (u + 1) * 4294967296 ≤ n * (g + 1) * 4294967296 := Nat.mul_le_mul_right _ hlt
      have h4 := hgm (g + 1)
      have h5 : (g + 1) * n = n * (g + 1) := Nat.mul_comm _ _
      omega
    have := Nat.div_lt_of_lt_mul (show u * 4294967296 + d < y * (g + 1) by rw [Nat.mul_comm y]; exact h2)
    omega
  · rcases Nat.lt_or_ge 4294967297 g with h | h
    · have : n * 4294967298 ≤ n * g := Nat.mul_le_mul_left _ h
      omega
    · exact h
theorem guess_high {g r : Nat} (_h : Guess u y d g r) (hu : u < y) (hd : d < 4294967296) (hg : 4294967296 ≤ g) : (u * 4294967296 + d) / y ≤ g - 1 ∧ 1 ≤ g := by
  have := digit_lt hu hd
  omega
theorem more_aux {u d r p s m : Nat} (h1 : p + r = u) (hm : m = p * 4294967296 + s) (ht : r * 4294967296 + d < s) : u * 4294967296 + d < m := Decidable.byContradiction fun _H => by omega
theorem less_aux {k g : Nat} (h : k < g) : k ≤ g - 1 ∧ 1 ≤ g := by omega
theorem guess_more {g r : Nat} (h : Guess u y d g r) (_hu : u < y) (ht : r * 4294967296 + d < g * (y % 4294967296)) : (u * 4294967296 + d) / y ≤ g - 1 ∧ 1 ≤ g := by
  obtain ⟨h1, h2, h3, h4⟩ := h
  have hm := guess_mul (y := y) g
  have e : y * g = g * y := Nat.mul_comm y g
  have h5 : u * 4294967296 + d < y * g := Nat.lt_of_lt_of_eq (more_aux h1 hm ht) e.symm
  have h6 := Nat.div_lt_of_lt_mul h5
  exact less_aux h6
/-- One less: the guess is looked at again, or it is the digit. -/
theorem guess_next {g r : Nat} (h : Guess u y d g r) (hl : (u * 4294967296 + d) / y ≤ g - 1) (h1 : 1 ≤ g) (hr : r + y / 4294967296 < 4294967296) : Guess u y d (g - 1) (r + y / 4294967296) := by
  obtain ⟨a, b, c, e⟩ := h
  refine ⟨?_, hl, by omega, hr⟩
  obtain ⟨k, rfl⟩ : ∃ k, g = k + 1 := ⟨g - 1, by omega⟩
  rw [Nat.add_mul] at a
  simp only [Nat.add_sub_cancel]
  omega
theorem guess_stop {g r : Nat} (h : Guess u y d g r) (hy : 0 < y) (hl : (u * 4294967296 + d) / y ≤ g - 1) (h1 : 1 ≤ g) (hr : 4294967296 ≤ r + y / 4294967296) : g - 1 = (u * 4294967296 + d) / y := by
  obtain ⟨a, b, c, e⟩ := h
  obtain ⟨k, rfl⟩ : ∃ k, g = k + 1 := ⟨g - 1, by omega⟩
  rw [Nat.add_mul] at a
  simp only [Nat.add_sub_cancel] at *
  have hm := guess_mul (y := y) k
  have h5 : k * (y % 4294967296) ≤ 4294967296 * 4294967295 := Nat.mul_le_mul (by omega) (by omega)
  have h6 : k * y ≤ u * 4294967296 + d := by
    rw [hm]
    omega
  have := (Nat.le_div_iff_mul_le hy).2 h6
  omega
theorem guess_good {g r : Nat} (h : Guess u y d g r) (hy : 0 < y) (ht : ¬ r * 4294967296 + d < g * (y % 4294967296)) : g = (u * 4294967296 + d) / y := by
  obtain ⟨a, b, c, e⟩ := h
  have hm := guess_mul (y := y) g
  have h6 : g * y ≤ u * 4294967296 + d := by
    rw [hm, ← a]
    omega
  have := (Nat.le_div_iff_mul_le hy).2 h6
  omega
theorem digit_rest (u y d : Nat) : u * 4294967296 + d = (u * 4294967296 + d) / y * y + (u * 4294967296 + d) % y := (Nat.div_add_mod' _ _).symm
end

theorem two_aux {n u d e r p k : Nat} (hn : n = u * 18446744073709551616 + d * 4294967296 + e) (h : u * 4294967296 + d = p + r) (e1 : k = p * 4294967296) : n = r * 4294967296 + e + k := Decidable.byContradiction fun _H => by omega
theorem moved_aux {H L M x : Nat} (h1 : M * 18446744073709551616 + x = L) : (H + M) * 18446744073709551616 + x = H * 18446744073709551616 + L := Decidable.byContradiction fun _H => by omega
theorem div_of {n m k b : Nat} (hb : 0 < b) (e : n = m + k * b) : n / b = k + m / b ∧ n % b = m % b := by
  subst e
  exact ⟨by rw [Nat.add_mul_div_right _ _ hb, Nat.add_comm], by rw [Nat.add_mul_mod_self_right]⟩
/-- Two digits, one behind the other. -/
theorem two_digits {u y d e n : Nat} (hy : 0 < y) (hn : n = u * 18446744073709551616 + d * 4294967296 + e) :
    n / y = (u * 4294967296 + d) / y * 4294967296 + ((u * 4294967296 + d) % y * 4294967296 + e) / y ∧
    n % y = ((u * 4294967296 + d) % y * 4294967296 + e) % y := by
  exact div_of hy (two_aux hn (digit_rest u y d) (Nat.mul_right_comm _ _ _))

/-- The quotient of both halves, the upper one first. -/
theorem div_halves {n b : Nat} (hb : 0 < b) :
    n / b = n / 18446744073709551616 / b * 18446744073709551616 + (n / 18446744073709551616 % b * 18446744073709551616 + n % 18446744073709551616) / b ∧
    n % b = (n / 18446744073709551616 % b * 18446744073709551616 + n % 18446744073709551616) % b := by
  have h1 := Nat.div_add_mod' n 18446744073709551616
  have h2 := Nat.div_add_mod' (n / 18446744073709551616) b
  generalize n / 18446744073709551616 = h at *
  generalize n % 18446744073709551616 = l at *
  generalize h / b = q at *
  generalize h % b = r at *
  refine div_of hb ?_
  have e1 : q * 18446744073709551616 * b = q * b * 18446744073709551616 := Nat.mul_right_comm _ _ _
  generalize q * 18446744073709551616 * b = k at *
  generalize q * b = p at *
  omega
theorem quo_lt {r l b : Nat} (hr : r < b) (hl : l < 18446744073709551616) : (r * 18446744073709551616 + l) / b < 18446744073709551616 := by
  refine Nat.div_lt_of_lt_mul ?_
  have : (r + 1) * 18446744073709551616 ≤ b * 18446744073709551616 := Nat.mul_le_mul_right _ hr
  omega

/-! ### What Div64 moves -/
theorem norm_of {y : Nat} (hy : y ≠ 0) (hyt : y < 18446744073709551616) : Lib.bitLen y ≤ 64 ∧ 1 ≤ Lib.bitLen y ∧ 9223372036854775808 ≤ y * 2 ^ (64 - Lib.bitLen y) ∧ y * 2 ^ (64 - Lib.bitLen y) < 18446744073709551616 := by
  have hL : Lib.bitLen y ≤ 64 := Lib.bitLen_le y 64 (Nat.le_refl _) hyt
  obtain ⟨a, b, c⟩ := Lib.bitLenAux_bounds 64 y hyt hy
  unfold Lib.bitLen at *
  generalize Lib.bitLenAux 64 y = L at *
  refine ⟨hL, a, ?_, ?_⟩
  · have : 2 ^ (L - 1) * 2 ^ (64 - L) ≤ y * 2 ^ (64 - L) := Nat.mul_le_mul_right _ b
    rw [← Nat.pow_add, show L - 1 + (64 - L) = 63 by omega] at this
    exact this
  · have : y * 2 ^ (64 - L) < 2 ^ L * 2 ^ (64 - L) := Nat.mul_lt_mul_of_pos_right c (Nat.two_pow_pos _)
    rw [← Nat.pow_add, show L + (64 - L) = 64 by omega] at this
    exact this
/-- The number, moved up by s, in two halves. -/
theorem moved {h l s : Nat} (hs : s ≤ 64) : (h * 2 ^ s + l / 2 ^ (64 - s)) * 18446744073709551616 + l * 2 ^ s % 18446744073709551616 = (h * 18446744073709551616 + l) * 2 ^ s := by
  have hp : 2 ^ (64 - s) * 2 ^ s = 18446744073709551616 := by rw [← Nat.pow_add, show 64 - s + s = 64 by omega]
  have e1 : l * 2 ^ s / 18446744073709551616 = l / 2 ^ (64 - s) := by
    rw [← hp, Nat.mul_div_mul_right _ _ (Nat.two_pow_pos s)]
  have h1 := Nat.div_add_mod' (l * 2 ^ s) 18446744073709551616
  rw [e1] at h1
  have e2 : (h * 18446744073709551616 + l) * 2 ^ s = h * 2 ^ s * 18446744073709551616 + l * 2 ^ s := by rw [Nat.add_mul, Nat.mul_right_comm]
  exact Eq.trans (moved_aux h1) e2.symm
theorem moved_lt {h l s y : Nat} (hh : h < y) (hl : l < 18446744073709551616) (hs : s ≤ 64) : h * 2 ^ s + l / 2 ^ (64 - s) < y * 2 ^ s := by
  have hp : 2 ^ (64 - s) * 2 ^ s = 18446744073709551616 := by rw [← Nat.pow_add, show 64 - s + s = 64 by omega]
  have h1 : l / 2 ^ (64 - s) < 2 ^ s := Nat.div_lt_of_lt_mul (by rw [hp]; exact hl)
  have h2 : (h + 1) * 2 ^ s ≤ y * 2 ^ s := Nat.mul_le_mul_right _ hh
  rw [Nat.add_mul] at h2
  omega

/-! ### Decimal digits -/
/-- The digits of a number, none of 0. -/
def ds (n : Nat) : List UInt8 := if _h : n = 0 then [] else ds (n / 10) ++ [UInt8.ofNat (48 + n % 10)]
theorem ds_zero : ds 0 = [] := by unfold ds; rfl
theorem ds_pos {n : Nat} (h : n ≠ 0) : ds n = ds (n / 10) ++ [UInt8.ofNat (48 + n % 10)] := by rw [ds, dif_neg h]
/-- The decimal digits of a number. -/
def dec (n : Nat) : List UInt8 := if n = 0 then [48] else ds n
theorem dec_zero : dec 0 = [48] := rfl
theorem dec_pos {n : Nat} (h : n ≠ 0) : dec n = ds n := if_neg h
theorem dec_step (n : Nat) : dec n = ds (n / 10) ++ [UInt8.ofNat (48 + n % 10)] := by
  by_cases h : n = 0
  · subst h; simp [dec, ds_zero]
  · rw [dec_pos h, ds_pos h]
theorem ds_length (k : Nat) : ∀ n, n < 10 ^ k → (ds n).length ≤ k := by
  induction k with
  | zero => intro n h; obtain rfl : n = 0 := by simpa using h
            simp [ds_zero]
  | succ k ih =>
    intro n h
    by_cases h0 : n = 0
    · subst h0; simp [ds_zero]
    · rw [ds_pos h0]
      have := ih (n / 10) (by rw [Nat.pow_succ] at h; omega)
      simp; omega
theorem ds_nil {n : Nat} (h : ds n = []) : n = 0 := by
  by_cases h0 : n = 0
  · exact h0
  · rw [ds_pos h0] at h; simp at h
/-- A digit's byte. -/
theorem dig_toNat {k : Nat} (h : k < 10) : (UInt8.ofNat (48 + k)).toNat = 48 + k := by
  rw [UInt8.toNat_ofNat']; omega

/-- The number that digits tell, from v on; none beyond 2^128 or at a byte that is no digit. -/
def rd (v : Nat) : List UInt8 → Option Nat
  | [] => some v
  | c :: l => if c.toNat < 48 ∨ 57 < c.toNat then none else if 340282366920938463463374607431768211456 ≤ v * 10 + (c.toNat - 48) then none else rd (v * 10 + (c.toNat - 48)) l
theorem rd_append (l m : List UInt8) : ∀ v, rd v (l ++ m) = (rd v l).bind fun x => rd x m := by
  induction l with
  | nil => intro v; rfl
  | cons c l ih =>
    intro v
    simp only [List.cons_append, rd]
    split
    · rfl
    · split
      · rfl
      · exact ih _
theorem rd_ds (n : Nat) : n < 340282366920938463463374607431768211456 → rd 0 (ds n) = some n := by
  induction n using Nat.strongRecOn with
  | ind n ih =>
    intro hn
    by_cases h0 : n = 0
    · subst h0; rw [ds_zero]; rfl
    · rw [ds_pos h0, rd_append, ih (n / 10) (by omega) (by omega)]
      show rd (n / 10) [_] = _
      rw [rd, dig_toNat (by omega), if_neg (by omega), if_neg (by omega), rd]
      congr 1
      omega
theorem rd_dec {n : Nat} (hn : n < 340282366920938463463374607431768211456) : rd 0 (dec n) = some n := by
  by_cases h0 : n = 0
  · subst h0; decide
  · rw [dec_pos h0]; exact rd_ds n hn
theorem rd_lt (l : List UInt8) : ∀ v x, v < 340282366920938463463374607431768211456 → rd v l = some x → x < 340282366920938463463374607431768211456 := by
  induction l with
  | nil => intro v x hv h; simp only [rd, Option.some.injEq] at h; omega
  | cons c l ih =>
    intro v x hv h
    simp only [rd] at h
    split at h
    · cases h
    · split at h
      · cases h
      · exact ih _ x (by omega) h
theorem rd_ge (l : List UInt8) : ∀ v x, rd v l = some x → v ≤ x := by
  induction l with
  | nil => intro v x h; simp only [rd, Option.some.injEq] at h; omega
  | cons c l ih =>
    intro v x h
    simp only [rd] at h
    split at h
    · cases h
    · split at h
      · cases h
      · have := ih _ x h; omega
/-- Read behind digits of a number that is not 0, it is those digits and these. -/
theorem ds_rd (l : List UInt8) : ∀ v x, v ≠ 0 → rd v l = some x → ds x = ds v ++ l := by
  induction l with
  | nil => intro v x hv h; simp only [rd, Option.some.injEq] at h; subst h; simp
  | cons c l ih =>
    intro v x hv h
    simp only [rd] at h
    split at h
    · cases h
    · split at h
      · cases h
      · rename_i h1 h2
        rw [ih _ x (by omega) h, ds_pos (by omega), show (v * 10 + (c.toNat - 48)) / 10 = v by omega, show 48 + (v * 10 + (c.toNat - 48)) % 10 = c.toNat by omega]
        simp
theorem ds_front (n : Nat) : n ≠ 0 → (ds n).getD 0 0 ≠ 48 := by
  induction n using Nat.strongRecOn with
  | ind n ih =>
    intro h0 h
    rw [ds_pos h0] at h
    by_cases h1 : n / 10 = 0
    · rw [h1, ds_zero] at h
      simp only [List.nil_append, List.getD_cons_zero] at h
      have := congrArg UInt8.toNat h
      rw [dig_toNat (by omega)] at this
      simp at this
      omega
    · refine ih (n / 10) (by omega) h1 ?_
      have hp : 0 < (ds (n / 10)).length := List.length_pos_iff.2 fun e => h1 (ds_nil e)
      rw [← h]
      simp [List.getD, hp]
/-- What Parse reads. -/
def parseW (s : List UInt8) : Option Nat := if s = [] ∨ 39 < s.length ∨ (s.getD 0 0 = 48 ∧ 1 < s.length) then none else rd 0 s
theorem parse_dec {n : Nat} (hn : n < 340282366920938463463374607431768211456) : parseW (dec n) = some n ∧ (dec n).length ≤ 39 := by
  have hl : (dec n).length ≤ 39 := by
    by_cases h0 : n = 0
    · subst h0; decide
    · rw [dec_pos h0]; exact ds_length 39 n (by omega)
  refine ⟨?_, hl⟩
  unfold parseW
  rw [if_neg, rd_dec hn]
  rintro (h | h | ⟨h, h'⟩)
  · by_cases h0 : n = 0
    · subst h0; cases h
    · rw [dec_pos h0] at h; exact h0 (ds_nil h)
  · omega
  · by_cases h0 : n = 0
    · subst h0; simp [dec] at h'
    · rw [dec_pos h0] at h h'
      exact absurd h (ds_front n h0)
/-- What Parse reads, told again, is what was read: so it is with the document's Parse. -/
theorem parse_again (s : List UInt8) (hs : s.length ≤ 39) : parseW s = (rd 0 s).bind fun x => if dec x = s then some x else none := by
  unfold parseW
  cases hr : rd 0 s with
  | none => split <;> rfl
  | some x =>
    have hx := rd_lt s 0 x (by omega) hr
    show _ = if dec x = s then some x else none
    split
    · rename_i h
      rw [if_neg]
      intro e
      have := (parse_dec hx).1
      rw [e] at this
      unfold parseW at this
      rw [if_pos h] at this
      cases this
    · rename_i h
      rw [if_pos]
      cases s with
      | nil => exact absurd (.inl rfl) h
      | cons c l =>
        by_cases hc : c.toNat = 48
        · have hc' : c = 48 := UInt8.toNat_inj.1 hc
          have hl : l = [] := by
            cases l with
            | nil => rfl
            | cons d l => exact absurd (.inr (.inr ⟨by simp [hc'], by simp⟩)) h
          subst hl
          subst hc'
          have : x = 0 := by
            have h2 : rd 0 [48] = some 0 := by decide
            rw [h2] at hr
            exact (Option.some.inj hr).symm
          subst this
          rfl
        · simp only [rd] at hr
          split at hr
          · cases hr
          · split at hr
            · cases hr
            · rename_i h1 h2
              have h3 := ds_rd l _ x (by omega) hr
              have h4 := rd_ge l _ x hr
              rw [dec_pos (by omega), h3, ds_pos (by omega), show (0 * 10 + (c.toNat - 48)) / 10 = 0 by omega, ds_zero, show 48 + (0 * 10 + (c.toNat - 48)) % 10 = c.toNat by omega]
              simp

end Go.Proofs.YtkkoefiennccoaaDoor
