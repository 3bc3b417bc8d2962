/-
  Plain facts on numbers and their bytes: the number that bytes are, the lowest first and the highest first, and the bytes that a number has; nothing of any program.
-/
import Derived.WalkKit
import Derived.Lib.Hide
namespace Go.Proofs.Ytfmkccimpmjmiaa
open Go.RowKit

/-- The number that bytes are, the lowest one first. -/
def leNat : List UInt8 → Nat
  | [] => 0
  | b :: r => b.toNat + 256 * leNat r
/-- The number that bytes are, the highest one first. -/
def beNat (l : List UInt8) : Nat := l.foldl (fun v b => v * 256 + b.toNat) 0

theorem leNat_append (a b : List UInt8) : leNat (a ++ b) = leNat a + 256 ^ a.length * leNat b := by
  induction a with
  | nil => simp [leNat]
  | cons x r ih => simp [leNat, ih, Nat.pow_succ]; rw [Nat.mul_add, ← Nat.mul_assoc, Nat.mul_comm (256 ^ r.length) 256, Nat.add_assoc, Nat.mul_assoc]
theorem leNat_lt (a : List UInt8) : leNat a < 256 ^ a.length := by
  induction a with
  | nil => simp [leNat]
  | cons x r ih =>
    have := x.toNat_lt
    simp only [leNat, List.length_cons, Nat.pow_succ]
    omega
theorem beNat_append (a : List UInt8) (b : UInt8) : beNat (a ++ [b]) = beNat a * 256 + b.toNat := by simp [beNat]
theorem beNat_eq (l : List UInt8) : beNat l = leNat l.reverse := by
  suffices h : ∀ r : List UInt8, beNat r.reverse = leNat r by simpa using h l.reverse
  intro r
  induction r with
  | nil => rfl
  | cons x r ih => rw [List.reverse_cons, beNat_append, ih, leNat]; omega
theorem take_succ_getD (l : List UInt8) (j : Nat) (h : j < l.length) : l.take (j + 1) = l.take j ++ [l.getD j 0] := by
  rw [List.take_succ_eq_append_getElem h]
  simp [List.getD, h]
theorem pow_256 (j : Nat) : (256 : Nat) ^ j = 2 ^ (8 * j) := by rw [Nat.pow_mul]
theorem leNat_take_lt (l : List UInt8) (j : Nat) (h : j ≤ 8) : leNat (l.take j) < 18446744073709551616 := by
  have h1 := leNat_lt (l.take j)
  have h2 : (l.take j).length ≤ 8 := by simp; omega
  have h3 : (256 : Nat) ^ (l.take j).length ≤ 256 ^ 8 := Nat.pow_le_pow_right (by omega) h2
  omega
theorem beNat_take_lt (l : List UInt8) (j : Nat) (h : j ≤ 8) : beNat (l.take j) < 18446744073709551616 := by
  rw [beNat_eq]
  have h1 := leNat_lt (l.take j).reverse
  have h2 : (l.take j).reverse.length ≤ 8 := by simp; omega
  have h3 : (256 : Nat) ^ (l.take j).reverse.length ≤ 256 ^ 8 := Nat.pow_le_pow_right (by omega) h2
  omega
theorem or_low (a x j : Nat) (ha : a < 256 ^ j) (hx : x < 256) (hj : j < 8) : bits .or .u64 (a : Int) (IntKind.u64.wrap ((x : Int) * 2 ^ (8 * j))) = ((a + 256 ^ j * x : Nat) : Int) := by
  have e : ((x : Int) * 2 ^ (8 * j)) = ((2 ^ (8 * j) * x : Nat) : Int) := by rw [Int.natCast_mul, Int.natCast_pow, Int.mul_comm]; rfl
  have h1 : (2 : Nat) ^ (8 * j) ≤ 2 ^ 56 := Nat.pow_le_pow_right (by omega) (by omega)
  have h2 : 2 ^ (8 * j) * x ≤ 2 ^ 56 * 255 := Nat.mul_le_mul h1 (by omega)
  rw [pow_256] at ha ⊢
  have h3 : a < 2 ^ 56 := by omega
  rw [e, IntKind.wrap_u64, show ((2 ^ (8 * j) * x : Nat) : Int) % 18446744073709551616 = ((2 ^ (8 * j) * x : Nat) : Int) by omega, u64_or_nat a _ (by omega) (by omega), Nat.or_comm, ← Nat.two_pow_add_eq_or_of_lt ha, Nat.add_comm]
theorem or_high (v x : Nat) (hv : v < 72057594037927936) (hx : x < 256) : bits .or .u64 (IntKind.u64.wrap ((v : Int) * 256)) (x : Int) = ((v * 256 + x : Nat) : Int) := by
  rw [IntKind.wrap_u64, show ((v : Int) * 256) % 18446744073709551616 = ((2 ^ 8 * v : Nat) : Int) by omega, u64_or_nat _ _ (by omega) (by omega), ← Nat.two_pow_add_eq_or_of_lt (i := 8) (by omega)]
  omega
theorem beNat_take_small (l : List UInt8) (j : Nat) (h : j < 8) : beNat (l.take j) < 72057594037927936 := by
  rw [beNat_eq]
  have h1 := leNat_lt (l.take j).reverse
  have h2 : (l.take j).reverse.length ≤ 7 := by simp; omega
  have h3 : (256 : Nat) ^ (l.take j).reverse.length ≤ 256 ^ 7 := Nat.pow_le_pow_right (by omega) h2
  omega
/-- A whole number modulo 256, as a byte. -/
def byteInt (n : Int) : UInt8 := UInt8.ofNat (n % 256).toNat
theorem byteInt_toNat (n : Int) : ((byteInt n).toNat : Int) = n % 256 := by
  have h1 := Int.emod_nonneg n (show (256 : Int) ≠ 0 by omega)
  have h2 := Int.emod_lt_of_pos n (show (0 : Int) < 256 by omega)
  simp [byteInt]
  omega
theorem wrap_byteInt (n : Int) : IntKind.u8.wrap n = ((byteInt n).toNat : Int) := by rw [byteInt_toNat, IntKind.wrap_u8]
/-- Byte number j of a number, the lowest one first. -/
def byteAt (v j : Nat) : UInt8 := UInt8.ofNat (v / 256 ^ j % 256)
theorem byteAt_toNat (v j : Nat) : (byteAt v j).toNat = v / 256 ^ j % 256 := by simp [byteAt]
/-- The n lowest bytes of a number, the lowest one first. -/
def leBytes (v : Nat) : Nat → List UInt8
  | 0 => []
  | n + 1 => leBytes v n ++ [byteAt v n]
theorem leBytes_length (v n : Nat) : (leBytes v n).length = n := by
  induction n with
  | zero => rfl
  | succ n ih => simp [leBytes, ih]
theorem leNat_leBytes (v n : Nat) : leNat (leBytes v n) = v % 256 ^ n := by
  induction n with
  | zero => simp [leBytes, leNat, Nat.mod_one]
  | succ n ih =>
    rw [leBytes, leNat_append, ih, leBytes_length]
    simp only [leNat, byteAt_toNat, Nat.mul_zero, Nat.add_zero]
    rw [Nat.pow_succ, Nat.mod_mul]
theorem leBytes_getD (v n i : Nat) (h : i < n) : (leBytes v n).getD i 0 = byteAt v i := by
  induction n with
  | zero => omega
  | succ n ih =>
    by_cases hi : i < n
    · rw [← ih hi]
      simp [leBytes, List.getD, List.getElem?_append, leBytes_length, hi]
    · have : i = n := by omega
      subst this
      simp [leBytes, List.getD, leBytes_length]
theorem byteAt_int (v j : Nat) : (v : Int) / 2 ^ (8 * j) % 256 = ((byteAt v j).toNat : Int) := by
  rw [byteAt_toNat, pow_256]
  simp
/-- The first j of a number's n lowest bytes, the highest one first. -/
def beTo (v n : Nat) : Nat → List UInt8
  | 0 => []
  | j + 1 => beTo v n j ++ [byteAt v (n - 1 - j)]
theorem beTo_length (v n j : Nat) : (beTo v n j).length = j := by
  induction j with
  | zero => rfl
  | succ j ih => simp [beTo, ih]
theorem beTo_getD (v n j i : Nat) (h : i < j) : (beTo v n j)[i]? = some (byteAt v (n - 1 - i)) := by
  induction j with
  | zero => omega
  | succ j ih =>
    by_cases hi : i < j
    · rw [← ih hi]
      simp [beTo, List.getElem?_append, beTo_length, hi]
    · have : i = j := by omega
      subst this
      simp [beTo, beTo_length]
theorem beTo_all (v n : Nat) : beTo v n n = (leBytes v n).reverse := by
  apply List.ext_getElem?
  intro i
  by_cases h : i < n
  · rw [beTo_getD v n n i h, List.getElem?_reverse (by rw [leBytes_length]; exact h), leBytes_length]
    have := leBytes_getD v n (n - 1 - i) (by omega)
    rw [← this]
    simp [List.getD, leBytes_length, show n - 1 - i < n by omega]
  · rw [List.getElem?_eq_none (by rw [beTo_length]; omega), List.getElem?_eq_none (by rw [List.length_reverse, leBytes_length]; omega)]
theorem beNat_beTo (v n : Nat) : beNat (beTo v n n) = v % 256 ^ n := by rw [beTo_all, beNat_eq, List.reverse_reverse, leNat_leBytes]
end Go.Proofs.Ytfmkccimpmjmiaa
