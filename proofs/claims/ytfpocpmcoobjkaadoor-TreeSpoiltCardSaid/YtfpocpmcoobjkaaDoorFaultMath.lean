/-
  Reasons as texts, as plain mathematics: names, digits, places; no program in it, no condition beyond what each lemma asks.
-/
import Derived.Test.YtfpocpmcoobjkaaDoorBase
import Derived.Lib.ItoaNum
import Derived.Lib.IndexMore
namespace Go.Proofs.YtfpocpmcoobjkaaDoor
open Go.Lib (decDigits)

/-! ### Names -/
def names : List (List UInt8) := [[79, 75], [69, 65, 82, 71], [69, 83, 72, 79, 82, 84], [69, 70, 79, 82, 77], [69, 84, 69, 88, 84], [69, 75, 73, 78, 68], [69, 76, 69, 78], [69, 77, 79, 82, 69], [69, 68, 69, 69, 80], [69, 83, 73, 90, 69], [69, 78, 85, 77], [69, 87, 82, 65, 80], [69, 77, 65, 80]]
def nameAt (i : Nat) : List UInt8 := names.getD i []
def nameOf (e : Int) : List UInt8 := if 0 ≤ e ∧ e < 13 then nameAt e.toNat else []
def codeAt (s : List UInt8) (k : Nat) : Option Nat := if k < 13 then (if nameAt k = s then some k else codeAt s (k + 1)) else none
termination_by 13 - k
def codeOf (s : List UInt8) : Option Nat := codeAt s 0

theorem names_length : names.length = 13 := rfl
theorem nameAt_ne_fin : ∀ i : Fin 13, nameAt i.val ≠ [] := by decide
theorem nameAt_ne {i : Nat} (h : i < 13) : nameAt i ≠ [] := nameAt_ne_fin ⟨i, h⟩
theorem nameAt_at_fin : ∀ i : Fin 13, (64 : UInt8) ∉ nameAt i.val := by decide
theorem nameAt_at {i : Nat} (h : i < 13) : (64 : UInt8) ∉ nameAt i := nameAt_at_fin ⟨i, h⟩
theorem nameAt_inj_fin : ∀ i j : Fin 13, nameAt i.val = nameAt j.val → i = j := by decide
theorem nameAt_inj {i j : Nat} (hi : i < 13) (hj : j < 13) (h : nameAt i = nameAt j) : i = j := by
  have := nameAt_inj_fin ⟨i, hi⟩ ⟨j, hj⟩ h
  simpa using this
theorem nameAt_le_fin : ∀ i : Fin 13, (nameAt i.val).length ≤ 6 := by decide
theorem nameAt_le (i : Nat) : (nameAt i).length ≤ 6 := by
  by_cases h : i < 13
  · exact nameAt_le_fin ⟨i, h⟩
  · rw [nameAt, List.getD_eq_getElem?_getD, List.getElem?_eq_none (by rw [names_length]; omega)]
    simp
theorem nameOf_le (e : Int) : (nameOf e).length ≤ 6 := by
  unfold nameOf
  split
  · exact nameAt_le _
  · simp
theorem nameOf_some {e : Int} (h0 : 0 ≤ e) (h1 : e < 13) : nameOf e = nameAt e.toNat := if_pos ⟨h0, h1⟩
theorem nameOf_none {e : Int} (h : e < 0 ∨ 13 ≤ e) : nameOf e = [] := if_neg (by omega)
theorem nameOf_ne {e : Int} (h : nameOf e ≠ []) : 0 ≤ e ∧ e < 13 := by
  unfold nameOf at h
  split at h
  · assumption
  · exact absurd rfl h

theorem codeAt_step {s : List UInt8} {k : Nat} (h : k < 13) : codeAt s k = if nameAt k = s then some k else codeAt s (k + 1) := by
  rw [codeAt, if_pos h]
theorem codeAt_end {s : List UInt8} {k : Nat} (h : 13 ≤ k) : codeAt s k = none := by
  rw [codeAt, if_neg (by omega)]
theorem codeAt_some {s : List UInt8} : ∀ (m k : Nat), 13 - k = m → ∀ {e : Nat}, codeAt s k = some e → e < 13 ∧ nameAt e = s
  | 0, k, hm, e, h => by rw [codeAt_end (by omega)] at h; cases h
  | m + 1, k, hm, e, h => by
    rw [codeAt_step (by omega)] at h
    split at h
    · cases h
      exact ⟨by omega, by assumption⟩
    · exact codeAt_some m (k + 1) (by omega) h
theorem codeOf_some {s : List UInt8} {e : Nat} (h : codeOf s = some e) : e < 13 ∧ nameAt e = s := codeAt_some 13 0 rfl h
theorem codeAt_back {e : Nat} (he : e < 13) : ∀ (m k : Nat), 13 - k = m → k ≤ e → codeAt (nameAt e) k = some e
  | 0, k, hm, hk => by omega
  | m + 1, k, hm, hk => by
    rw [codeAt_step (by omega)]
    by_cases h : nameAt k = nameAt e
    · rw [if_pos h, nameAt_inj (by omega) he h]
    · rw [if_neg h]
      exact codeAt_back he m (k + 1) (by omega) (by
        rcases Nat.lt_or_ge k e with hl | hg
        · exact hl
        · obtain rfl : k = e := by omega
          exact absurd rfl h)
theorem codeOf_back {e : Nat} (he : e < 13) : codeOf (nameAt e) = some e := codeAt_back he 13 0 rfl (by omega)
theorem codeOf_nil : codeOf [] = none := by
  cases h : codeOf [] with
  | none => rfl
  | some e =>
    obtain ⟨h1, h2⟩ := codeOf_some h
    exact absurd h2 (nameAt_ne h1)

/-! ### Numbers -/
def top : Nat := 9223372036854775807
def fold (v : Nat) : List UInt8 → Option Nat
  | [] => some v
  | c :: l => if c.toNat < 48 ∨ 57 < c.toNat then none else if (top - (c.toNat - 48)) / 10 < v then none else fold (v * 10 + (c.toNat - 48)) l
def numOf (s : List UInt8) : Option Nat := if s = [] ∨ (s.getD 0 0 = 48 ∧ 1 < s.length) then none else fold 0 s

theorem fold_append (a b : List UInt8) : ∀ v, fold v (a ++ b) = (fold v a).bind fun u => fold u b := by
  induction a with
  | nil => intro v; rfl
  | cons c a ih =>
    intro v
    simp only [List.cons_append, fold]
    split
    · rfl
    · split
      · rfl
      · exact ih _
theorem fold_bound : ∀ (l : List UInt8) (v r : Nat), v ≤ top → fold v l = some r → r ≤ top ∧ v * 10 ^ l.length ≤ r
  | [], v, r, hv, h => by
    simp only [fold, Option.some.injEq] at h
    subst h
    exact ⟨hv, by simp⟩
  | c :: l, v, r, hv, h => by
    simp only [fold] at h
    split at h
    · cases h
    · split at h
      · cases h
      · have h1 : v * 10 + (c.toNat - 48) ≤ top := by unfold top at *; omega
        obtain ⟨h2, h3⟩ := fold_bound l _ r h1 h
        refine ⟨h2, Nat.le_trans ?_ h3⟩
        rw [List.length_cons, Nat.pow_succ, Nat.mul_comm (10 ^ l.length) 10, ← Nat.mul_assoc]
        exact Nat.mul_le_mul_right _ (by omega)
theorem fold_top {l : List UInt8} {r : Nat} (h : fold 0 l = some r) : r ≤ top := (fold_bound l 0 r (by unfold top; omega) h).1
theorem numOf_top {l : List UInt8} {r : Nat} (h : numOf l = some r) : r ≤ top := by
  unfold numOf at h
  split at h
  · cases h
  · exact fold_top h
theorem numOf_nil : numOf [] = none := rfl
theorem numOf_long {s : List UInt8} (h : 20 < s.length) : numOf s = none := by
  unfold numOf
  split
  · rfl
  · rename_i hn
    cases hf : fold 0 s with
    | none => rfl
    | some r =>
      exfalso
      cases s with
      | nil => simp at h
      | cons c l =>
        have hc : c ≠ 48 := fun e => hn (.inr ⟨by simp [e], by simp at h ⊢; omega⟩)
        have hc' : c.toNat ≠ 48 := fun e => hc (UInt8.toNat_inj.1 e)
        simp only [fold] at hf
        split at hf
        · cases hf
        · split at hf
          · cases hf
          · obtain ⟨h2, h3⟩ := fold_bound l _ r (by unfold top; omega) hf
            have h4 : 10 ^ 20 ≤ 10 ^ l.length := Nat.pow_le_pow_right (by decide) (by simp at h; omega)
            have h5 : 1 * 10 ^ l.length ≤ (0 * 10 + (c.toNat - 48)) * 10 ^ l.length := Nat.mul_le_mul_right _ (by omega)
            unfold top at h2
            omega
theorem digit_of {d : Nat} (h : d < 10) : (UInt8.ofNat (48 + d)).toNat = 48 + d := by
  rw [UInt8.toNat_ofNat', Nat.mod_eq_of_lt (by omega)]
theorem fold_one {v d : Nat} (hd : d < 10) (hv : v * 10 + d ≤ top) : fold v [UInt8.ofNat (48 + d)] = some (v * 10 + d) := by
  simp only [fold]
  rw [digit_of hd, if_neg (by omega), if_neg (by unfold top at *; omega)]
  simp
theorem fold_dec (u : Nat) : u ≤ top → fold 0 (decDigits u) = some u := by
  induction u using Nat.strongRecOn with
  | _ u ih =>
    intro hu
    by_cases h : u < 10
    · rw [decDigits, dif_pos h, fold_one h (by omega)]
      simp
    · rw [decDigits, dif_neg h, fold_append, ih (u / 10) (by omega) (by omega)]
      simp only [Option.bind_some]
      rw [fold_one (by omega) (by omega)]
      congr 1
      omega
theorem dec_ne (u : Nat) : decDigits u ≠ [] := by
  rw [decDigits]
  split <;> simp
theorem dec_head (u : Nat) : 1 ≤ u → (decDigits u).getD 0 0 ≠ 48 := by
  induction u using Nat.strongRecOn with
  | _ u ih =>
    intro hu
    by_cases h : u < 10
    · rw [decDigits, dif_pos h]
      intro e
      have := congrArg UInt8.toNat e
      simp only [List.getD_cons_zero, digit_of h] at this
      have e48 : (48 : UInt8).toNat = 48 := rfl
      omega
    · rw [decDigits, dif_neg h]
      have := ih (u / 10) (by omega) (by omega)
      cases hd : decDigits (u / 10) with
      | nil => exact absurd hd (dec_ne _)
      | cons c l => rw [hd] at this; simpa using this
theorem numOf_dec {u : Nat} (hu : u ≤ top) : numOf (decDigits u) = some u := by
  unfold numOf
  rw [if_neg, fold_dec u hu]
  rintro (h | ⟨h1, h2⟩)
  · exact dec_ne u h
  · by_cases h : u < 10
    · rw [decDigits, dif_pos h] at h2
      simp at h2
    · exact dec_head u (by omega) h1
theorem dec_step {v d : Nat} (hv : 1 ≤ v) (hd : d < 10) : decDigits (v * 10 + d) = decDigits v ++ [UInt8.ofNat (48 + d)] := by
  rw [decDigits, dif_neg (by omega), show (v * 10 + d) / 10 = v by omega, show (v * 10 + d) % 10 = d by omega]
theorem byte_digit {c : UInt8} (h : ¬ (c.toNat < 48 ∨ 57 < c.toNat)) : UInt8.ofNat (48 + (c.toNat - 48)) = c := by
  rw [show 48 + (c.toNat - 48) = c.toNat by omega, UInt8.ofNat_toNat]
theorem fold_back : ∀ (l : List UInt8) (v r : Nat), 1 ≤ v → fold v l = some r → decDigits r = decDigits v ++ l
  | [], v, r, hv, h => by
    simp only [fold, Option.some.injEq] at h
    subst h
    simp
  | c :: l, v, r, hv, h => by
    simp only [fold] at h
    split at h
    · cases h
    · rename_i hc
      split at h
      · cases h
      · rw [fold_back l _ r (by omega) h, dec_step hv (by omega), byte_digit hc]
        simp
theorem numOf_back {s : List UInt8} {r : Nat} (h : numOf s = some r) : decDigits r = s := by
  unfold numOf at h
  split at h
  · cases h
  · rename_i hn
    cases s with
    | nil => exact absurd (.inl rfl) hn
    | cons c l =>
      simp only [fold] at h
      split at h
      · cases h
      · rename_i hc
        split at h
        · cases h
        · have hd : decDigits (c.toNat - 48) = [c] := by
            rw [decDigits, dif_pos (by omega), byte_digit hc]
          by_cases hl : l = []
          · subst hl
            simp only [fold, Option.some.injEq] at h
            subst h
            rw [show 0 * 10 + (c.toNat - 48) = c.toNat - 48 by omega, hd]
          · have hc2 : c ≠ 48 := fun e => hn (.inr ⟨by simp [e], by
              cases l with
              | nil => exact absurd rfl hl
              | cons => simp⟩)
            have hc' : c.toNat ≠ 48 := fun e => hc2 (UInt8.toNat_inj.1 e)
            rw [fold_back l _ r (by omega) h, show 0 * 10 + (c.toNat - 48) = c.toNat - 48 by omega, hd]
            rfl
theorem dec_bytes (u : Nat) : ∀ c ∈ decDigits u, 48 ≤ c.toNat ∧ c.toNat ≤ 57 := by
  induction u using Nat.strongRecOn with
  | _ u ih =>
    intro c hc
    by_cases h : u < 10
    · rw [decDigits, dif_pos h] at hc
      simp only [List.mem_singleton] at hc
      rw [hc, digit_of h]
      omega
    · rw [decDigits, dif_neg h, List.mem_append, List.mem_singleton] at hc
      rcases hc with hc | hc
      · exact ih (u / 10) (by omega) c hc
      · rw [hc, digit_of (by omega)]
        omega
theorem dec_slash (u : Nat) : (47 : UInt8) ∉ decDigits u := fun h => by
  have := (dec_bytes u _ h).1
  have e : (47 : UInt8).toNat = 47 := rfl
  omega
theorem dec_length_aux : ∀ (k u : Nat), u < 10 ^ (k + 1) → (decDigits u).length ≤ k + 1
  | 0, u, h => by
    rw [decDigits, dif_pos (by simpa using h)]
    simp
  | k + 1, u, h => by
    by_cases h10 : u < 10
    · rw [decDigits, dif_pos h10]
      simp
    · rw [decDigits, dif_neg h10]
      rw [Nat.pow_succ] at h
      have := dec_length_aux k (u / 10) (by omega)
      simp only [List.length_append, List.length_cons, List.length_nil]
      omega
theorem dec_length {u : Nat} (h : u < 18446744073709551616) : (decDigits u).length ≤ 20 := dec_length_aux 19 u (by
  have : (18446744073709551616 : Nat) ≤ 10 ^ (19 + 1) := by decide
  omega)

/-! ### Cuts -/
def cutAt (c : UInt8) : List UInt8 → List UInt8 × List UInt8 × Bool
  | [] => ([], [], false)
  | x :: l => if x = c then ([], l, true) else (x :: (cutAt c l).1, (cutAt c l).2.1, (cutAt c l).2.2)
theorem cut_eq (c : UInt8) (s : List UInt8) : Lib.cut s [c] = cutAt c s := by
  induction s with
  | nil => rfl
  | cons x l ih =>
    have hg := Lib.index_ge l [c]
    simp only [cutAt]
    rw [← ih]
    simp only [Lib.cut, Lib.index, List.isPrefixOf, Bool.and_true, List.length_cons, List.length_nil]
    by_cases h : x = c
    · subst h
      simp
    · have hb : (c == x) = false := by simpa using fun e : c = x => h e.symm
      simp only [hb, Bool.false_eq_true, if_false, h]
      by_cases h1 : Lib.index l [c] = -1
      · simp [h1]
      · have h2 : (Lib.index l [c] == -1) = false := by simpa using h1
        have h3 : 0 ≤ Lib.index l [c] := by omega
        simp only [h2, Bool.false_eq_true, if_false]
        rw [if_pos (by omega), if_pos h3]
        have h4 : (Lib.index l [c] + 1).toNat = (Lib.index l [c]).toNat + 1 := by omega
        rw [h4]
        simp
theorem cutAt_miss {c : UInt8} {s : List UInt8} (h : (cutAt c s).2.2 = false) : (cutAt c s).1 = s ∧ (cutAt c s).2.1 = [] ∧ c ∉ s := by
  induction s with
  | nil => exact ⟨rfl, rfl, by simp⟩
  | cons x l ih =>
    simp only [cutAt] at h ⊢
    split at h
    · cases h
    · rename_i hx
      obtain ⟨h1, h2, h3⟩ := ih h
      rw [if_neg hx]
      refine ⟨by simp [h1], h2, ?_⟩
      simp only [List.mem_cons, not_or]
      exact ⟨fun e => hx e.symm, h3⟩
theorem cutAt_hit {c : UInt8} {s : List UInt8} (h : (cutAt c s).2.2 = true) : s = (cutAt c s).1 ++ c :: (cutAt c s).2.1 ∧ c ∉ (cutAt c s).1 := by
  induction s with
  | nil => cases h
  | cons x l ih =>
    simp only [cutAt] at h ⊢
    split at h
    · rename_i hx
      rw [if_pos hx]
      exact ⟨by simp [hx], by simp⟩
    · rename_i hx
      obtain ⟨h1, h2⟩ := ih h
      rw [if_neg hx]
      refine ⟨by simp only [List.cons_append]; rw [← h1], ?_⟩
      simp only [List.mem_cons, not_or]
      exact ⟨fun e => hx e.symm, h2⟩
theorem cutAt_of {c : UInt8} {a b : List UInt8} (h : c ∉ a) : cutAt c (a ++ c :: b) = (a, b, true) := by
  induction a with
  | nil => simp [cutAt]
  | cons x l ih =>
    simp only [List.mem_cons, not_or] at h
    simp only [List.cons_append, cutAt]
    rw [if_neg (fun e => h.1 e.symm), ih h.2]
theorem cutAt_none {c : UInt8} {a : List UInt8} (h : c ∉ a) : cutAt c a = (a, [], false) := by
  induction a with
  | nil => rfl
  | cons x l ih =>
    simp only [List.mem_cons, not_or] at h
    simp only [cutAt]
    rw [if_neg (fun e => h.1 e.symm), ih h.2]
theorem cutAt_le (c : UInt8) (s : List UInt8) : (cutAt c s).1.length ≤ s.length ∧ (cutAt c s).2.1.length ≤ s.length := by
  induction s with
  | nil => exact ⟨Nat.le_refl _, Nat.le_refl _⟩
  | cons x l ih =>
    simp only [cutAt]
    split
    · simp
    · simp only [List.length_cons]
      omega
theorem cutAt_lt {c : UInt8} {s : List UInt8} (h : (cutAt c s).2.2 = true) : (cutAt c s).2.1.length < s.length := by
  have := congrArg List.length (cutAt_hit h).1
  simp at this
  omega

/-- All pieces between the signs c. -/
def split (c : UInt8) : List UInt8 → List (List UInt8)
  | [] => [[]]
  | x :: l => if x = c then [] :: split c l else match split c l with | [] => [[x]] | p :: ps => (x :: p) :: ps
theorem split_ne (c : UInt8) (s : List UInt8) : split c s ≠ [] := by
  cases s with
  | nil => simp [split]
  | cons x l =>
    simp only [split]
    split
    · simp
    · split <;> simp
theorem split_cons {c x : UInt8} {l p : List UInt8} {ps : List (List UInt8)} (h : x ≠ c) (hs : split c l = p :: ps) : split c (x :: l) = (x :: p) :: ps := by
  simp only [split]
  rw [if_neg h, hs]
theorem split_one {c : UInt8} {a : List UInt8} (h : c ∉ a) : split c a = [a] := by
  induction a with
  | nil => rfl
  | cons x l ih =>
    simp only [List.mem_cons, not_or] at h
    exact split_cons (fun e => h.1 e.symm) (ih h.2)
theorem split_two {c : UInt8} {a b : List UInt8} (h : c ∉ a) : split c (a ++ c :: b) = a :: split c b := by
  induction a with
  | nil => simp [split]
  | cons x l ih =>
    simp only [List.mem_cons, not_or] at h
    exact split_cons (fun e => h.1 e.symm) (ih h.2)
theorem split_cut (c : UInt8) (s : List UInt8) : split c s = (cutAt c s).1 :: if (cutAt c s).2.2 then split c (cutAt c s).2.1 else [] := by
  cases h : (cutAt c s).2.2 with
  | false =>
    obtain ⟨h1, _, h3⟩ := cutAt_miss h
    rw [split_one h3, h1]
    rfl
  | true =>
    obtain ⟨h1, h2⟩ := cutAt_hit h
    conv => lhs; rw [h1]
    rw [split_two h2]
    rfl
def join (c : UInt8) : List (List UInt8) → List UInt8
  | [] => []
  | p :: ps => p ++ (ps.map (c :: ·)).flatten
theorem join_split (c : UInt8) (s : List UInt8) : join c (split c s) = s := by
  induction s with
  | nil => rfl
  | cons x l ih =>
    by_cases h : x = c
    · subst h
      simp only [split, if_pos]
      cases hs : split x l with
      | nil => exact absurd hs (split_ne _ _)
      | cons p ps =>
        rw [hs] at ih
        simp only [join] at ih
        simp [join, ← ih]
    · cases hs : split c l with
      | nil => exact absurd hs (split_ne _ _)
      | cons p ps =>
        rw [split_cons h hs]
        rw [hs] at ih
        simp only [join] at ih
        simp [join, ← ih]

/-! ### Reasons -/
def nums : List (List UInt8) → Option (List Nat)
  | [] => some []
  | p :: ps => match numOf p, nums ps with
    | some n, some l => some (n :: l)
    | _, _ => none
def parseOf (s : List UInt8) : Option (Nat × Nat × List Nat) :=
  match codeOf (cutAt 64 s).1, nums (split 47 (cutAt 64 s).2.1) with
  | some e, some (a :: p) => some (e, a, p)
  | _, _ => none
def tailOf (p : List Int) : List UInt8 := (p.map fun n => 47 :: decDigits n.toNat).flatten
def textOf (e a : Int) (p : List Int) : List UInt8 :=
  if nameOf e = [] ∨ a < 0 ∨ ∃ n ∈ p, n < 0 then [] else nameOf e ++ 64 :: (decDigits a.toNat ++ tailOf p)

theorem nums_cons_none {q : List UInt8} {ps : List (List UInt8)} (h : numOf q = none) : nums (q :: ps) = none := by
  simp [nums, h]
theorem nums_append (a b : List (List UInt8)) : nums (a ++ b) = (nums a).bind fun l => (nums b).map (l ++ ·) := by
  induction a with
  | nil => cases h : nums b <;> simp [nums, h]
  | cons q a ih =>
    simp only [List.cons_append, nums]
    rw [ih]
    cases numOf q <;> cases nums a <;> cases nums b <;> simp
theorem nums_dec (p : List Int) (h : ∀ n ∈ p, 0 ≤ n ∧ n ≤ (top : Int)) : nums (p.map fun n => decDigits n.toNat) = some (p.map Int.toNat) := by
  induction p with
  | nil => rfl
  | cons n p ih =>
    have h1 := h n (by simp)
    simp only [List.map_cons, nums]
    rw [numOf_dec (by omega), ih (fun m hm => h m (by simp [hm]))]
theorem nums_back : ∀ {ps : List (List UInt8)} {l : List Nat}, nums ps = some l → ps = l.map decDigits ∧ ∀ n ∈ l, n ≤ top
  | [], l, h => by
    simp only [nums, Option.some.injEq] at h
    subst h
    exact ⟨rfl, by simp⟩
  | q :: ps, l, h => by
    simp only [nums] at h
    split at h
    · rename_i n l' h1 h2
      cases h
      obtain ⟨h3, h4⟩ := nums_back h2
      refine ⟨by rw [List.map_cons, numOf_back h1, ← h3], ?_⟩
      intro m hm
      rcases List.mem_cons.1 hm with rfl | hm
      · exact numOf_top h1
      · exact h4 m hm
    · cases h
theorem parseOf_nil : parseOf [] = none := by
  unfold parseOf
  simp only [cutAt]
  rw [codeOf_nil]
theorem parseOf_miss {s : List UInt8} (h : (cutAt 64 s).2.2 = false) : parseOf s = none := by
  unfold parseOf
  rw [(cutAt_miss h).2.1]
  simp only [split, nums, numOf_nil]
  cases codeOf (cutAt 64 s).1 <;> rfl
theorem textOf_empty {e a : Int} {p : List Int} (h : nameOf e = [] ∨ a < 0 ∨ ∃ n ∈ p, n < 0) : textOf e a p = [] := if_pos h
theorem textOf_full {e a : Int} {p : List Int} (h1 : nameOf e ≠ []) (h2 : 0 ≤ a) (h3 : ∀ n ∈ p, 0 ≤ n) : textOf e a p = nameOf e ++ 64 :: (decDigits a.toNat ++ tailOf p) := if_neg (by
  rintro (h | h | ⟨n, hn, h⟩)
  · exact h1 h
  · omega
  · have := h3 n hn; omega)
theorem textOf_ne {e a : Int} {p : List Int} (h : textOf e a p ≠ []) : nameOf e ≠ [] ∧ 0 ≤ a ∧ ∀ n ∈ p, 0 ≤ n := by
  unfold textOf at h
  split at h
  · exact absurd rfl h
  · rename_i hn
    refine ⟨fun e => hn (.inl e), by have := fun e => hn (.inr (.inl e)); omega, fun n hm => ?_⟩
    rcases Int.lt_or_le n 0 with hl | hg
    · exact absurd (.inr (.inr ⟨n, hm, hl⟩)) hn
    · exact hg
theorem split_digits (a : Nat) (p : List Int) : split 47 (decDigits a ++ tailOf p) = decDigits a :: p.map fun n => decDigits n.toNat := by
  induction p generalizing a with
  | nil =>
    simp only [tailOf, List.map_nil, List.flatten_nil, List.append_nil]
    exact split_one (dec_slash _)
  | cons n p ih =>
    have : decDigits a ++ tailOf (n :: p) = decDigits a ++ 47 :: (decDigits n.toNat ++ tailOf p) := by simp [tailOf]
    rw [this, split_two (dec_slash _), ih]
    simp
/-- A reason that has a text is read as it was. -/
theorem parse_text {e a : Int} {p : List Int} (hne : textOf e a p ≠ []) (ha : a ≤ (top : Int)) (hp : ∀ n ∈ p, n ≤ (top : Int)) : parseOf (textOf e a p) = some (e.toNat, a.toNat, p.map Int.toNat) := by
  obtain ⟨h1, h2, h3⟩ := textOf_ne hne
  obtain ⟨h4, h5⟩ := nameOf_ne h1
  rw [textOf_full h1 h2 h3, nameOf_some h4 h5]
  unfold parseOf
  rw [cutAt_of (nameAt_at (by omega))]
  simp only
  rw [codeOf_back (by omega), split_digits]
  simp only [nums]
  rw [numOf_dec (by omega), nums_dec p (fun n hn => ⟨h3 n hn, hp n hn⟩)]
theorem parseOf_some {s : List UInt8} {e a : Nat} {p : List Nat} (h : parseOf s = some (e, a, p)) : e < 13 ∧ a ≤ top ∧ (∀ n ∈ p, n ≤ top) ∧ s = nameAt e ++ 64 :: (decDigits a ++ tailOf (p.map fun n : Nat => (n : Int))) := by
  cases hc : (cutAt 64 s).2.2 with
  | false => rw [parseOf_miss hc] at h; cases h
  | true =>
    obtain ⟨h1, _⟩ := cutAt_hit hc
    unfold parseOf at h
    split at h
    · rename_i e' a' p' h2 h3
      cases h
      obtain ⟨h4, h5⟩ := codeOf_some h2
      obtain ⟨h6, h7⟩ := nums_back h3
      refine ⟨h4, h7 _ (by simp), fun n hn => h7 n (by simp [hn]), ?_⟩
      have h8 := join_split 47 (cutAt 64 s).2.1
      rw [h6] at h8
      conv => lhs; rw [h1]
      rw [h5, ← h8]
      simp [join, tailOf, Function.comp_def]
    · cases h
/-- What is read tells the text again. -/
theorem text_parse {s : List UInt8} {e a : Nat} {p : List Nat} (h : parseOf s = some (e, a, p)) : textOf (e : Int) (a : Int) (p.map fun n : Nat => (n : Int)) = s := by
  obtain ⟨h1, h2, h3, h4⟩ := parseOf_some h
  have hn : nameOf (e : Int) = nameAt e := by rw [nameOf_some (by omega) (by omega)]; simp
  rw [textOf_full (by rw [hn]; exact nameAt_ne h1) (by omega) (by
    intro n hn
    obtain ⟨m, _, rfl⟩ := List.mem_map.1 hn
    omega), hn, h4]
  simp
theorem tailOf_length {p : List Int} (hp : ∀ n ∈ p, n ≤ (top : Int)) : (tailOf p).length ≤ 21 * p.length := by
  induction p with
  | nil => simp [tailOf]
  | cons n p ih =>
    have h1 := ih (fun m hm => hp m (by simp [hm]))
    have h2 := dec_length (u := n.toNat) (by have := hp n (by simp); unfold top at this; omega)
    have h3 : tailOf (n :: p) = 47 :: (decDigits n.toNat ++ tailOf p) := by simp [tailOf]
    rw [h3]
    simp only [List.length_cons, List.length_append]
    omega
theorem textOf_length {e a : Int} {p : List Int} (ha : a ≤ (top : Int)) (hp : ∀ n ∈ p, n ≤ (top : Int)) : (textOf e a p).length ≤ 27 + 21 * p.length := by
  unfold textOf
  split
  · simp
  · have h1 := nameOf_le e
    have h2 := dec_length (u := a.toNat) (by unfold top at ha; omega)
    have h3 := tailOf_length hp
    simp only [List.length_append, List.length_cons]
    omega

end Go.Proofs.YtfpocpmcoobjkaaDoor
