/-
  Decimal digits of a number, and the number that digits tell, however great; pure. No condition beyond what each lemma asks.
-/
import Derived.Test.YtcejbkmmiklhbaaBase
namespace Go.Proofs.Ytcejbkmmiklhbaa

/-- The digits of a number, none of 0. -/
def ds (n : Nat) : List UInt8 := if _h : n = 0 then [] else ds (n / 10) ++ [UInt8.ofNat (48 + n % 10)]
theorem ds_zero : ds 0 = [] := by unfold ds; rfl
theorem ds_pos {n : Nat} (h : n ≠ 0) : ds n = ds (n / 10) ++ [UInt8.ofNat (48 + n % 10)] := by rw [ds, dif_neg h]
/-- The decimal digits of a number. -/
def dec (n : Nat) : List UInt8 := if n = 0 then [48] else ds n
theorem dec_zero : dec 0 = [48] := rfl
theorem dec_pos {n : Nat} (h : n ≠ 0) : dec n = ds n := if_neg h
theorem dec_step (n : Nat) : dec n = ds (n / 10) ++ [UInt8.ofNat (48 + n % 10)] := by
  by_cases h : n = 0
  · subst h; simp [dec, ds_zero]
  · rw [dec_pos h, ds_pos h]
theorem ds_nil {n : Nat} (h : ds n = []) : n = 0 := by
  by_cases h0 : n = 0
  · exact h0
  · rw [ds_pos h0] at h; simp at h
/-- A digit's byte. -/
theorem dig_toNat {k : Nat} (h : k < 10) : (UInt8.ofNat (48 + k)).toNat = 48 + k := by
  rw [UInt8.toNat_ofNat']; omega


/-- The number that digits tell, from v on; none at a byte that is no digit. -/
def rd (v : Nat) : List UInt8 → Option Nat
  | [] => some v
  | c :: l => if c.toNat < 48 ∨ 57 < c.toNat then none else rd (v * 10 + (c.toNat - 48)) l
theorem rd_append (l m : List UInt8) : ∀ v, rd v (l ++ m) = (rd v l).bind fun x => rd x m := by
  induction l with
  | nil => intro v; rfl
  | cons c l ih =>
    intro v
    simp only [List.cons_append, rd]
    split
    · rfl
    · exact ih _
theorem rd_ds (n : Nat) : rd 0 (ds n) = some n := by
  induction n using Nat.strongRecOn with
  | ind n ih =>
    by_cases h0 : n = 0
    · subst h0; rw [ds_zero]; rfl
    · rw [ds_pos h0, rd_append, ih (n / 10) (by omega)]
      show rd (n / 10) [_] = _
      rw [rd, dig_toNat (by omega), if_neg (by omega), rd]
      congr 1
      omega
theorem rd_dec (n : Nat) : rd 0 (dec n) = some n := by
  by_cases h0 : n = 0
  · subst h0; decide
  · rw [dec_pos h0]; exact rd_ds n
theorem rd_ge (l : List UInt8) : ∀ v x, rd v l = some x → v * 10 ^ l.length ≤ x := by
  induction l with
  | nil => intro v x h; simp only [rd, Option.some.injEq] at h; simp; omega
  | cons c l ih =>
    intro v x h
    simp only [rd] at h
    split at h
    · cases h
    · have h1 := ih _ x h
      rw [List.length_cons, Nat.pow_succ]
      refine Nat.le_trans ?_ h1
      rw [Nat.mul_comm (10 ^ l.length) 10, ← Nat.mul_assoc]
      exact Nat.mul_le_mul_right _ (by omega)
theorem ds_front (n : Nat) : n ≠ 0 → (ds n).getD 0 0 ≠ 48 := by
  induction n using Nat.strongRecOn with
  | ind n ih =>
    intro h0
    rw [ds_pos h0]
    by_cases h1 : n / 10 = 0
    · rw [h1, ds_zero]
      intro h
      simp only [List.nil_append, List.getD_cons_zero] at h
      have := congrArg UInt8.toNat h
      rw [dig_toNat (by omega)] at this
      have e : (48 : UInt8).toNat = 48 := rfl
      omega
    · have h2 := ih _ (by omega) h1
      have h3 : ds (n / 10) ≠ [] := fun h => h1 (ds_nil h)
      cases hd : ds (n / 10) with
      | nil => exact absurd hd h3
      | cons x r => rw [hd] at h2; simpa using h2

end Go.Proofs.Ytcejbkmmiklhbaa
