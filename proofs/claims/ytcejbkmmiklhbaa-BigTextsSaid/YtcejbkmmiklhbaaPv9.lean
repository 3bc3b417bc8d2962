/-
  What number a text tells (P9.2): pure. No condition beyond what each lemma asks.
-/
import Derived.Test.YtcejbkmmiklhbaaBigH
namespace Go.Proofs.Ytcejbkmmiklhbaa

/-- What Parse answers. -/
def pv (L : List UInt8) : Option Nat := if L = [] ∨ 1234 < L.length ∨ ((L.getD 0 0).toNat = 48 ∧ 1 < L.length) then none else (rd 0 L).bind fun x => if x < top then some x else none

theorem rd_lt (l : List UInt8) : ∀ v x, rd v l = some x → x < (v + 1) * 10 ^ l.length := by
  induction l with
  | nil => intro v x h; simp only [rd, Option.some.injEq] at h; simp; omega
  | cons c l ih =>
    intro v x h
    simp only [rd] at h
    split at h
    · cases h
    · next hc =>
      have h1 := ih _ x h
      rw [List.length_cons, Nat.pow_succ]
      refine Nat.lt_of_lt_of_le h1 ?_
      rw [Nat.mul_comm (10 ^ l.length) 10, ← Nat.mul_assoc]
      exact Nat.mul_le_mul_right _ (by omega)
theorem pow_room (k : Nat) : 10 ^ k ≤ 65536 ^ k := Nat.pow_le_pow_left (by omega) k
theorem rd_len {l : List UInt8} {x : Nat} (h : rd 0 l = some x) : (dg x).length ≤ l.length := by
  have h1 := rd_lt l 0 x h
  rw [Nat.zero_add, Nat.one_mul] at h1
  exact (dg_len x _).2 (Nat.lt_of_lt_of_le h1 (pow_room _))
theorem rd_take {L : List UInt8} {i x : Nat} (h : i < L.length) (hx : rd 0 (L.take i) = some x) : rd 0 (L.take (i + 1)) = if (L.getD i 0).toNat < 48 ∨ 57 < (L.getD i 0).toNat then none else some (x * 10 + ((L.getD i 0).toNat - 48)) := by
  have e : L.take (i + 1) = L.take i ++ [L.getD i 0] := by
    rw [List.take_add_one]
    simp [List.getD, h]
  rw [e, rd_append, hx]
  rfl
theorem rd_cut {L : List UInt8} {i : Nat} (h : rd 0 (L.take i) = none) : rd 0 L = none := by
  have e : L = L.take i ++ L.drop i := (List.take_append_drop i L).symm
  rw [e, rd_append, h]
  rfl
theorem pow_ten {a b : Nat} (h : a ≤ b) : 10 ^ a ≤ 10 ^ b := Nat.pow_le_pow_right (by omega) h
theorem rd_great {L : List UInt8} {x : Nat} (hl : 1234 < L.length) (h0 : (L.getD 0 0).toNat ≠ 48) (h : rd 0 L = some x) : top ≤ x := by
  cases L with
  | nil => simp at hl
  | cons c l =>
    simp only [rd] at h
    split at h
    · cases h
    · next hc =>
      have h1 := rd_ge l _ x h
      have h2 : (c.toNat ≠ 48) := h0
      have h3 : 1 ≤ 0 * 10 + (c.toNat - 48) := by omega
      have hl2 : 1234 ≤ l.length := by rw [List.length_cons] at hl; omega
      have h4 := pow_ten hl2
      refine Nat.le_trans top_ten (Nat.le_trans h4 (Nat.le_trans ?_ h1))
      exact Nat.le_mul_of_pos_left _ h3
/-- With 1300 in place of 1234 it is the same. -/
theorem pv_more (L : List UInt8) : pv L = if L = [] ∨ 1300 < L.length ∨ ((L.getD 0 0).toNat = 48 ∧ 1 < L.length) then none else (rd 0 L).bind fun x => if x < top then some x else none := by
  unfold pv
  by_cases h1 : L = [] ∨ 1300 < L.length ∨ ((L.getD 0 0).toNat = 48 ∧ 1 < L.length)
  · rw [if_pos h1, if_pos]
    rcases h1 with h | h | h
    · exact .inl h
    · exact .inr (.inl (by omega))
    · exact .inr (.inr h)
  · rw [if_neg h1]
    by_cases h2 : 1234 < L.length
    · rw [if_pos (.inr (.inl h2))]
      cases hr : rd 0 L with
      | none => rfl
      | some x =>
        have h3 := rd_great h2 (fun h => h1 (.inr (.inr ⟨h, by omega⟩))) hr
        show none = if x < top then some x else none
        rw [if_neg (by omega)]
    · rw [if_neg]
      intro h
      rcases h with h | h | h
      · exact h1 (.inl h)
      · exact h2 h
      · exact h1 (.inr (.inr h))
theorem dec_some (a : Nat) : dec a ≠ [] := by
  by_cases h : a = 0
  · subst h; decide
  · rw [dec_pos h]; exact fun h2 => h (ds_nil h2)
theorem dec_front {a : Nat} (h : a ≠ 0) : ((dec a).getD 0 0).toNat ≠ 48 := by
  rw [dec_pos h]
  have h1 := ds_front a h
  intro h2
  exact h1 (UInt8.toNat_inj.1 h2)
theorem dec_len {a : Nat} (h : a < top) : (dec a).length ≤ 1234 := by
  by_cases h0 : a = 0
  · subst h0; decide
  · rcases Nat.lt_or_ge 1234 (dec a).length with h1 | h1
    · exact absurd h (Nat.not_lt.2 (rd_great h1 (dec_front h0) (rd_dec a)))
    · exact h1
theorem pv_dec {a : Nat} (h : a < top) : pv (dec a) = some a := by
  unfold pv
  rw [if_neg, rd_dec]
  · show (if a < top then some a else none) = some a
    rw [if_pos h]
  · intro h1
    rcases h1 with h1 | h1 | ⟨h1, h2⟩
    · exact dec_some a h1
    · exact absurd (dec_len h) (by omega)
    · by_cases h0 : a = 0
      · subst h0
        rw [dec_zero] at h2
        simp at h2
      · exact dec_front h0 h1
/-- The digits of ten times a number and one more, where there is no carry. -/
theorem ten_low {x v n : Nat} {ys : List Nat} (hy : Dg ys) (hl : ys.length = n) (hx : (dg x).length = n) (hv : nv ys = v) (hle : x ≤ v) : dg v = ys := by
  rw [← hv]
  refine dg_ge hy ?_
  rcases Nat.eq_zero_or_pos ys.length with h | h
  · exact .inl h
  · right
    rw [hv]
    exact Nat.le_trans (nv_dg_ge (by omega)) hle
theorem ten_high {v n q : Nat} {ys : List Nat} (hy : Dg ys) (hl : ys.length = n) (hq : q < 65536) (h0 : q ≠ 0) (hv : nv ys + 65536 ^ n * q = v) : dg v = ys ++ [q] := by
  have e : nv (ys ++ [q]) = v := by rw [nv_snoc, hl]; exact hv
  rw [← e]
  refine dg_nv (hy.append (Dg.one hq)) (.inr ?_)
  simpa [List.getD] using h0

end Go.Proofs.Ytcejbkmmiklhbaa
