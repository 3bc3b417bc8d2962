/-
  Reasons as texts, as plain mathematics: names, digits, places; no program in it, no condition beyond what each lemma asks.
  Whole numbers as text, as plain mathematics: the number whose digits a text is, up to a greatest one; the number whose text a text is; no program in it, no condition beyond what each lemma asks.
  Numbers of JSON, as plain mathematics: by cuts (as the program does), by runs of digits (as the document does), that both are one, and what stands behind a number; no program in it, no condition beyond what each lemma asks.
-/
import Derived.Test.YtojpfmlmalmlcaaGreatDoorBase
import Derived.Lib.ItoaNum
import Derived.Lib.IndexMore
import Derived.Lib.ParseIntBTie
import Derived.Lib.IndexAny
namespace Go.Proofs.YtojpfmlmalmlcaaGreatDoor
open Go.Lib (decDigits)
/-! ### Names -/
def names : List (List UInt8) := [[79, 75], [69, 65, 82, 71], [69, 83, 72, 79, 82, 84], [69, 70, 79, 82, 77], [69, 84, 69, 88, 84], [69, 75, 73, 78, 68], [69, 76, 69, 78], [69, 77, 79, 82, 69], [69, 68, 69, 69, 80], [69, 83, 73, 90, 69], [69, 78, 85, 77], [69, 87, 82, 65, 80], [69, 77, 65, 80]]
def nameAt (i : Nat) : List UInt8 := names.getD i []
def nameOf (e : Int) : List UInt8 := if 0 ≤ e ∧ e < 13 then nameAt e.toNat else []
def codeAt (s : List UInt8) (k : Nat) : Option Nat := if k < 13 then (if nameAt k = s then some k else codeAt s (k + 1)) else none
termination_by 13 - k
def codeOf (s : List UInt8) : Option Nat := codeAt s 0
theorem names_length : names.length = 13 := rfl
theorem nameAt_ne_fin : ∀ i : Fin 13, nameAt i.val ≠ [] := by decide
theorem nameAt_ne {i : Nat} (h : i < 13) : nameAt i ≠ [] := nameAt_ne_fin ⟨i, h⟩
theorem nameAt_at_fin : ∀ i : Fin 13, (64 : UInt8) ∉ nameAt i.val := by decide
theorem nameAt_at {i : Nat} (h : i < 13) : (64 : UInt8) ∉ nameAt i := nameAt_at_fin ⟨i, h⟩
theorem nameAt_inj_fin : ∀ i j : Fin 13, nameAt i.val = nameAt j.val → i = j := by decide
theorem nameAt_inj {i j : Nat} (hi : i < 13) (hj : j < 13) (h : nameAt i = nameAt j) : i = j := by
  have := nameAt_inj_fin ⟨i, hi⟩ ⟨j, hj⟩ h
  simpa using this
theorem nameAt_le_fin : ∀ i : Fin 13, (nameAt i.val).length ≤ 6 := by decide
theorem nameAt_le (i : Nat) : (nameAt i).length ≤ 6 := by
  by_cases h : i < 13
  · exact nameAt_le_fin ⟨i, h⟩
  · rw [nameAt, List.getD_eq_getElem?_getD, List.getElem?_eq_none (by rw [names_length]; omega)]
    simp
theorem nameOf_le (e : Int) : (nameOf e).length ≤ 6 := by
  unfold nameOf
  split
  · exact nameAt_le _
  · simp
theorem nameOf_some {e : Int} (h0 : 0 ≤ e) (h1 : e < 13) : nameOf e = nameAt e.toNat := if_pos ⟨h0, h1⟩
theorem nameOf_none {e : Int} (h : e < 0 ∨ 13 ≤ e) : nameOf e = [] := if_neg (by omega)
theorem nameOf_ne {e : Int} (h : nameOf e ≠ []) : 0 ≤ e ∧ e < 13 := by
  unfold nameOf at h
  split at h
  · assumption
  · exact absurd rfl h
theorem codeAt_step {s : List UInt8} {k : Nat} (h : k < 13) : codeAt s k = if nameAt k = s then some k else codeAt s (k + 1) := by
  rw [codeAt, if_pos h]
theorem codeAt_end {s : List UInt8} {k : Nat} (h : 13 ≤ k) : codeAt s k = none := by
  rw [codeAt, if_neg (by omega)]
theorem codeAt_some {s : List UInt8} : ∀ (m k : Nat), 13 - k = m → ∀ {e : Nat}, codeAt s k = some e → e < 13 ∧ nameAt e = s
  | 0, k, hm, e, h => by rw [codeAt_end (by omega)] at h; cases h
  | m + 1, k, hm, e, h => by
    rw [codeAt_step (by omega)] at h
    split at h
    · cases h
      exact ⟨by omega, by assumption⟩
    · exact codeAt_some m (k + 1) (by omega) h
theorem codeOf_some {s : List UInt8} {e : Nat} (h : codeOf s = some e) : e < 13 ∧ nameAt e = s := codeAt_some 13 0 rfl h
theorem codeAt_back {e : Nat} (he : e < 13) : ∀ (m k : Nat), 13 - k = m → k ≤ e → codeAt (nameAt e) k = some e
  | 0, k, hm, hk => by omega
  | m + 1, k, hm, hk => by
    rw [codeAt_step (by omega)]
    by_cases h : nameAt k = nameAt e
    · rw [if_pos h, nameAt_inj (by omega) he h]
    · rw [if_neg h]
      exact codeAt_back he m (k + 1) (by omega) (by
        rcases Nat.lt_or_ge k e with hl | hg
        · exact hl
        · obtain rfl : k = e := by omega
          exact absurd rfl h)
theorem codeOf_back {e : Nat} (he : e < 13) : codeOf (nameAt e) = some e := codeAt_back he 13 0 rfl (by omega)
theorem codeOf_nil : codeOf [] = none := by
  cases h : codeOf [] with
  | none => rfl
  | some e =>
    obtain ⟨h1, h2⟩ := codeOf_some h
    exact absurd h2 (nameAt_ne h1)
/-! ### Numbers -/
def top : Nat := 9223372036854775807
def fold (v : Nat) : List UInt8 → Option Nat
  | [] => some v
  | c :: l => if c.toNat < 48 ∨ 57 < c.toNat then none else if (top - (c.toNat - 48)) / 10 < v then none else fold (v * 10 + (c.toNat - 48)) l
def numOf (s : List UInt8) : Option Nat := if s = [] ∨ (s.getD 0 0 = 48 ∧ 1 < s.length) then none else fold 0 s
theorem fold_append (a b : List UInt8) : ∀ v, fold v (a ++ b) = (fold v a).bind fun u => fold u b := by
  induction a with
  | nil => intro v; rfl
  | cons c a ih =>
    intro v
    simp only [List.cons_append, fold]
    split
    · rfl
    · split
      · rfl
      · exact ih _
theorem fold_bound : ∀ (l : List UInt8) (v r : Nat), v ≤ top → fold v l = some r → r ≤ top ∧ v * 10 ^ l.length ≤ r
  | [], v, r, hv, h => by
    simp only [fold, Option.some.injEq] at h
    subst h
    exact ⟨hv, by simp⟩
  | c :: l, v, r, hv, h => by
    simp only [fold] at h
    split at h
    · cases h
    · split at h
      · cases h
      · have h1 : v * 10 + (c.toNat - 48) ≤ top := by unfold top at *; omega
        obtain ⟨h2, h3⟩ := fold_bound l _ r h1 h
        refine ⟨h2, Nat.le_trans ?_ h3⟩
        rw [List.length_cons, Nat.pow_succ, Nat.mul_comm (10 ^ l.length) 10, ← Nat.mul_assoc]
        exact Nat.mul_le_mul_right _ (by omega)
theorem fold_top {l : List UInt8} {r : Nat} (h : fold 0 l = some r) : r ≤ top := (fold_bound l 0 r (by unfold top; omega) h).1
theorem numOf_top {l : List UInt8} {r : Nat} (h : numOf l = some r) : r ≤ top := by
  unfold numOf at h
  split at h
  · cases h
  · exact fold_top h
theorem numOf_nil : numOf [] = none := rfl
theorem numOf_long {s : List UInt8} (h : 20 < s.length) : numOf s = none := by
  unfold numOf
  split
  · rfl
  · rename_i hn
    cases hf : fold 0 s with
    | none => rfl
    | some r =>
      exfalso
      cases s with
      | nil => simp at h
      | cons c l =>
        have hc : c ≠ 48 := fun e => hn (.inr ⟨by simp [e], by simp at h ⊢; omega⟩)
        have hc' : c.toNat ≠ 48 := fun e => hc (UInt8.toNat_inj.1 e)
        simp only [fold] at hf
        split at hf
        · cases hf
        · split at hf
          · cases hf
          · obtain ⟨h2, h3⟩ := fold_bound l _ r (by unfold top; omega) hf
            have h4 : 10 ^ 20 ≤ 10 ^ l.length := Nat.pow_le_pow_right (by decide) (by simp at h; omega)
            have h5 : 1 * 10 ^ l.length ≤ (0 * 10 + (c.toNat - 48)) * 10 ^ l.length := Nat.mul_le_mul_right _ (by omega)
            unfold top at h2
            omega
theorem digit_of {d : Nat} (h : d < 10) : (UInt8.ofNat (48 + d)).toNat = 48 + d := by
  rw [UInt8.toNat_ofNat', Nat.mod_eq_of_lt (by omega)]
theorem fold_one {v d : Nat} (hd : d < 10) (hv : v * 10 + d ≤ top) : fold v [UInt8.ofNat (48 + d)] = some (v * 10 + d) := by
  simp only [fold]
  rw [digit_of hd, if_neg (by omega), if_neg (by unfold top at *; omega)]
  simp
set_option maxRecDepth 100000 in
theorem fold_dec (u : Nat) : u ≤ top → fold 0 (decDigits u) = some u := by
  induction u using Nat.strongRecOn with
  | _ u ih =>
    intro hu
    by_cases h : u < 10
    · rw [decDigits, dif_pos h, fold_one h (by omega)]
      simp
    · rw [decDigits, dif_neg h, fold_append, ih (u / 10) (by omega) (by omega)]
      simp only [Option.bind_some]
      rw [fold_one (by omega) (by omega)]
      congr 1
      omega
theorem dec_ne (u : Nat) : decDigits u ≠ [] := by
  rw [decDigits]
  split <;> simp
theorem dec_head (u : Nat) : 1 ≤ u → (decDigits u).getD 0 0 ≠ 48 := by
  induction u using Nat.strongRecOn with
  | _ u ih =>
    intro hu
    by_cases h : u < 10
    · rw [decDigits, dif_pos h]
      intro e
      have := congrArg UInt8.toNat e
      simp only [List.getD_cons_zero, digit_of h] at this
      have e48 : (48 : UInt8).toNat = 48 := rfl
      omega
    · rw [decDigits, dif_neg h]
      have := ih (u / 10) (by omega) (by omega)
      cases hd : decDigits (u / 10) with
      | nil => exact absurd hd (dec_ne _)
      | cons c l => rw [hd] at this; simpa using this
theorem numOf_dec {u : Nat} (hu : u ≤ top) : numOf (decDigits u) = some u := by
  unfold numOf
  rw [if_neg, fold_dec u hu]
  rintro (h | ⟨h1, h2⟩)
  · exact dec_ne u h
  · by_cases h : u < 10
    · rw [decDigits, dif_pos h] at h2
      simp at h2
    · exact dec_head u (by omega) h1
theorem dec_step {v d : Nat} (hv : 1 ≤ v) (hd : d < 10) : decDigits (v * 10 + d) = decDigits v ++ [UInt8.ofNat (48 + d)] := by
  rw [decDigits, dif_neg (by omega), show (v * 10 + d) / 10 = v by omega, show (v * 10 + d) % 10 = d by omega]
theorem byte_digit {c : UInt8} (h : ¬ (c.toNat < 48 ∨ 57 < c.toNat)) : UInt8.ofNat (48 + (c.toNat - 48)) = c := by
  rw [show 48 + (c.toNat - 48) = c.toNat by omega, UInt8.ofNat_toNat]
theorem fold_back : ∀ (l : List UInt8) (v r : Nat), 1 ≤ v → fold v l = some r → decDigits r = decDigits v ++ l
  | [], v, r, hv, h => by
    simp only [fold, Option.some.injEq] at h
    subst h
    simp
  | c :: l, v, r, hv, h => by
    simp only [fold] at h
    split at h
    · cases h
    · rename_i hc
      split at h
      · cases h
      · rw [fold_back l _ r (by omega) h, dec_step hv (by omega), byte_digit hc]
        simp
theorem numOf_back {s : List UInt8} {r : Nat} (h : numOf s = some r) : decDigits r = s := by
  unfold numOf at h
  split at h
  · cases h
  · rename_i hn
    cases s with
    | nil => exact absurd (.inl rfl) hn
    | cons c l =>
      simp only [fold] at h
      split at h
      · cases h
      · rename_i hc
        split at h
        · cases h
        · have hd : decDigits (c.toNat - 48) = [c] := by
            rw [decDigits, dif_pos (by omega), byte_digit hc]
          by_cases hl : l = []
          · subst hl
            simp only [fold, Option.some.injEq] at h
            subst h
            rw [show 0 * 10 + (c.toNat - 48) = c.toNat - 48 by omega, hd]
          · have hc2 : c ≠ 48 := fun e => hn (.inr ⟨by simp [e], by
              cases l with
              | nil => exact absurd rfl hl
              | cons => simp⟩)
            have hc' : c.toNat ≠ 48 := fun e => hc2 (UInt8.toNat_inj.1 e)
            rw [fold_back l _ r (by omega) h, show 0 * 10 + (c.toNat - 48) = c.toNat - 48 by omega, hd]
            rfl
theorem dec_bytes (u : Nat) : ∀ c ∈ decDigits u, 48 ≤ c.toNat ∧ c.toNat ≤ 57 := by
  induction u using Nat.strongRecOn with
  | _ u ih =>
    intro c hc
    by_cases h : u < 10
    · rw [decDigits, dif_pos h] at hc
      simp only [List.mem_singleton] at hc
      rw [hc, digit_of h]
      omega
    · rw [decDigits, dif_neg h, List.mem_append, List.mem_singleton] at hc
      rcases hc with hc | hc
      · exact ih (u / 10) (by omega) c hc
      · rw [hc, digit_of (by omega)]
        omega
theorem dec_slash (u : Nat) : (47 : UInt8) ∉ decDigits u := fun h => by
  have := (dec_bytes u _ h).1
  have e : (47 : UInt8).toNat = 47 := rfl
  omega
theorem dec_length_aux : ∀ (k u : Nat), u < 10 ^ (k + 1) → (decDigits u).length ≤ k + 1
  | 0, u, h => by
    rw [decDigits, dif_pos (by simpa using h)]
    simp
  | k + 1, u, h => by
    by_cases h10 : u < 10
    · rw [decDigits, dif_pos h10]
      simp
    · rw [decDigits, dif_neg h10]
      rw [Nat.pow_succ] at h
      have := dec_length_aux k (u / 10) (by omega)
      simp only [List.length_append, List.length_cons, List.length_nil]
      omega
theorem dec_length {u : Nat} (h : u < 18446744073709551616) : (decDigits u).length ≤ 20 := dec_length_aux 19 u (by
  have : (18446744073709551616 : Nat) ≤ 10 ^ (19 + 1) := by decide
  omega)
/-! ### Cuts -/
def cutAt (c : UInt8) : List UInt8 → List UInt8 × List UInt8 × Bool
  | [] => ([], [], false)
  | x :: l => if x = c then ([], l, true) else (x :: (cutAt c l).1, (cutAt c l).2.1, (cutAt c l).2.2)
theorem cut_eq (c : UInt8) (s : List UInt8) : Lib.cut s [c] = cutAt c s := by
  induction s with
  | nil => rfl
  | cons x l ih =>
    have hg := Lib.index_ge l [c]
    simp only [cutAt]
    rw [← ih]
    simp only [Lib.cut, Lib.index, List.isPrefixOf, Bool.and_true, List.length_cons, List.length_nil]
    by_cases h : x = c
    · subst h
      simp
    · have hb : (c == x) = false := by simpa using fun e : c = x => h e.symm
      simp only [hb, Bool.false_eq_true, if_false, h]
      by_cases h1 : Lib.index l [c] = -1
      · simp [h1]
      · have h2 : (Lib.index l [c] == -1) = false := by simpa using h1
        have h3 : 0 ≤ Lib.index l [c] := by omega
        simp only [h2, Bool.false_eq_true, if_false]
        rw [if_pos (by omega), if_pos h3]
        have h4 : (Lib.index l [c] + 1).toNat = (Lib.index l [c]).toNat + 1 := by omega
        rw [h4]
        simp
theorem cutAt_miss {c : UInt8} {s : List UInt8} (h : (cutAt c s).2.2 = false) : (cutAt c s).1 = s ∧ (cutAt c s).2.1 = [] ∧ c ∉ s := by
  induction s with
  | nil => exact ⟨rfl, rfl, by simp⟩
  | cons x l ih =>
    simp only [cutAt] at h ⊢
    split at h
    · cases h
    · rename_i hx
      obtain ⟨h1, h2, h3⟩ := ih h
      rw [if_neg hx]
      refine ⟨by simp [h1], h2, ?_⟩
      simp only [List.mem_cons, not_or]
      exact ⟨fun e => hx e.symm, h3⟩
theorem cutAt_hit {c : UInt8} {s : List UInt8} (h : (cutAt c s).2.2 = true) : s = (cutAt c s).1 ++ c :: (cutAt c s).2.1 ∧ c ∉ (cutAt c s).1 := by
  induction s with
  | nil => cases h
  | cons x l ih =>
    simp only [cutAt] at h ⊢
    split at h
    · rename_i hx
      rw [if_pos hx]
      exact ⟨by simp [hx], by simp⟩
    · rename_i hx
      obtain ⟨h1, h2⟩ := ih h
      rw [if_neg hx]
      refine ⟨by simp only [List.cons_append]; rw [← h1], ?_⟩
      simp only [List.mem_cons, not_or]
      exact ⟨fun e => hx e.symm, h2⟩
theorem cutAt_of {c : UInt8} {a b : List UInt8} (h : c ∉ a) : cutAt c (a ++ c :: b) = (a, b, true) := by
  induction a with
  | nil => simp [cutAt]
  | cons x l ih =>
    simp only [List.mem_cons, not_or] at h
    simp only [List.cons_append, cutAt]
    rw [if_neg (fun e => h.1 e.symm), ih h.2]
theorem cutAt_none {c : UInt8} {a : List UInt8} (h : c ∉ a) : cutAt c a = (a, [], false) := by
  induction a with
  | nil => rfl
  | cons x l ih =>
    simp only [List.mem_cons, not_or] at h
    simp only [cutAt]
    rw [if_neg (fun e => h.1 e.symm), ih h.2]
theorem cutAt_le (c : UInt8) (s : List UInt8) : (cutAt c s).1.length ≤ s.length ∧ (cutAt c s).2.1.length ≤ s.length := by
  induction s with
  | nil => exact ⟨Nat.le_refl _, Nat.le_refl _⟩
  | cons x l ih =>
    simp only [cutAt]
    split
    · simp
    · simp only [List.length_cons]
      omega
theorem cutAt_lt {c : UInt8} {s : List UInt8} (h : (cutAt c s).2.2 = true) : (cutAt c s).2.1.length < s.length := by
  have := congrArg List.length (cutAt_hit h).1
  simp at this
  omega
/-- All pieces between the signs c. -/
def split (c : UInt8) : List UInt8 → List (List UInt8)
  | [] => [[]]
  | x :: l => if x = c then [] :: split c l else match split c l with | [] => [[x]] | p :: ps => (x :: p) :: ps
theorem split_ne (c : UInt8) (s : List UInt8) : split c s ≠ [] := by
  cases s with
  | nil => simp [split]
  | cons x l =>
    simp only [split]
    split
    · simp
    · split <;> simp
theorem split_cons {c x : UInt8} {l p : List UInt8} {ps : List (List UInt8)} (h : x ≠ c) (hs : split c l = p :: ps) : split c (x :: l) = (x :: p) :: ps := by
  simp only [split]
  rw [if_neg h, hs]
theorem split_one {c : UInt8} {a : List UInt8} (h : c ∉ a) : split c a = [a] := by
  induction a with
  | nil => rfl
  | cons x l ih =>
    simp only [List.mem_cons, not_or] at h
    exact split_cons (fun e => h.1 e.symm) (ih h.2)
theorem split_two {c : UInt8} {a b : List UInt8} (h : c ∉ a) : split c (a ++ c :: b) = a :: split c b := by
  induction a with
  | nil => simp [split]
  | cons x l ih =>
    simp only [List.mem_cons, not_or] at h
    exact split_cons (fun e => h.1 e.symm) (ih h.2)
theorem split_cut (c : UInt8) (s : List UInt8) : split c s = (cutAt c s).1 :: if (cutAt c s).2.2 then split c (cutAt c s).2.1 else [] := by
  cases h : (cutAt c s).2.2 with
  | false =>
    obtain ⟨h1, _, h3⟩ := cutAt_miss h
    rw [split_one h3, h1]
    rfl
  | true =>
    obtain ⟨h1, h2⟩ := cutAt_hit h
    conv => lhs; rw [h1]
    rw [split_two h2]
    rfl
def join (c : UInt8) : List (List UInt8) → List UInt8
  | [] => []
  | p :: ps => p ++ (ps.map (c :: ·)).flatten
theorem join_split (c : UInt8) (s : List UInt8) : join c (split c s) = s := by
  induction s with
  | nil => rfl
  | cons x l ih =>
    by_cases h : x = c
    · subst h
      simp only [split, if_pos]
      cases hs : split x l with
      | nil => exact absurd hs (split_ne _ _)
      | cons p ps =>
        rw [hs] at ih
        simp only [join] at ih
        simp [join, ← ih]
    · cases hs : split c l with
      | nil => exact absurd hs (split_ne _ _)
      | cons p ps =>
        rw [split_cons h hs]
        rw [hs] at ih
        simp only [join] at ih
        simp [join, ← ih]
/-! ### Reasons -/
def nums : List (List UInt8) → Option (List Nat)
  | [] => some []
  | p :: ps => match numOf p, nums ps with
    | some n, some l => some (n :: l)
    | _, _ => none
def parseOf (s : List UInt8) : Option (Nat × Nat × List Nat) :=
  match codeOf (cutAt 64 s).1, nums (split 47 (cutAt 64 s).2.1) with
  | some e, some (a :: p) => some (e, a, p)
  | _, _ => none
def tailOf (p : List Int) : List UInt8 := (p.map fun n => 47 :: decDigits n.toNat).flatten
def textOf (e a : Int) (p : List Int) : List UInt8 :=
  if nameOf e = [] ∨ a < 0 ∨ ∃ n ∈ p, n < 0 then [] else nameOf e ++ 64 :: (decDigits a.toNat ++ tailOf p)
theorem nums_cons_none {q : List UInt8} {ps : List (List UInt8)} (h : numOf q = none) : nums (q :: ps) = none := by
  simp [nums, h]
theorem nums_append (a b : List (List UInt8)) : nums (a ++ b) = (nums a).bind fun l => (nums b).map (l ++ ·) := by
  induction a with
  | nil => cases h : nums b <;> simp [nums, h]
  | cons q a ih =>
    simp only [List.cons_append, nums]
    rw [ih]
    cases numOf q <;> cases nums a <;> cases nums b <;> simp
theorem nums_dec (p : List Int) (h : ∀ n ∈ p, 0 ≤ n ∧ n ≤ (top : Int)) : nums (p.map fun n => decDigits n.toNat) = some (p.map Int.toNat) := by
  induction p with
  | nil => rfl
  | cons n p ih =>
    have h1 := h n (by simp)
    simp only [List.map_cons, nums]
    rw [numOf_dec (by omega), ih (fun m hm => h m (by simp [hm]))]
theorem nums_back : ∀ {ps : List (List UInt8)} {l : List Nat}, nums ps = some l → ps = l.map decDigits ∧ ∀ n ∈ l, n ≤ top
  | [], l, h => by
    simp only [nums, Option.some.injEq] at h
    subst h
    exact ⟨rfl, by simp⟩
  | q :: ps, l, h => by
    simp only [nums] at h
    split at h
    · rename_i n l' h1 h2
      cases h
      obtain ⟨h3, h4⟩ := nums_back h2
      refine ⟨by rw [List.map_cons, numOf_back h1, ← h3], ?_⟩
      intro m hm
      rcases List.mem_cons.1 hm with rfl | hm
      · exact numOf_top h1
      · exact h4 m hm
    · cases h
theorem parseOf_nil : parseOf [] = none := by
  unfold parseOf
  simp only [cutAt]
  rw [codeOf_nil]
theorem parseOf_miss {s : List UInt8} (h : (cutAt 64 s).2.2 = false) : parseOf s = none := by
  unfold parseOf
  rw [(cutAt_miss h).2.1]
  simp only [split, nums, numOf_nil]
  cases codeOf (cutAt 64 s).1 <;> rfl
theorem textOf_empty {e a : Int} {p : List Int} (h : nameOf e = [] ∨ a < 0 ∨ ∃ n ∈ p, n < 0) : textOf e a p = [] := if_pos h
theorem textOf_full {e a : Int} {p : List Int} (h1 : nameOf e ≠ []) (h2 : 0 ≤ a) (h3 : ∀ n ∈ p, 0 ≤ n) : textOf e a p = nameOf e ++ 64 :: (decDigits a.toNat ++ tailOf p) := if_neg (by
  rintro (h | h | ⟨n, hn, h⟩)
  · exact h1 h
  · omega
  · have := h3 n hn; omega)
theorem textOf_ne {e a : Int} {p : List Int} (h : textOf e a p ≠ []) : nameOf e ≠ [] ∧ 0 ≤ a ∧ ∀ n ∈ p, 0 ≤ n := by
  unfold textOf at h
  split at h
  · exact absurd rfl h
  · rename_i hn
    refine ⟨fun e => hn (.inl e), by have := fun e => hn (.inr (.inl e)); omega, fun n hm => ?_⟩
    rcases Int.lt_or_le n 0 with hl | hg
    · exact absurd (.inr (.inr ⟨n, hm, hl⟩)) hn
    · exact hg
theorem split_digits (a : Nat) (p : List Int) : split 47 (decDigits a ++ tailOf p) = decDigits a :: p.map fun n => decDigits n.toNat := by
  induction p generalizing a with
  | nil =>
    simp only [tailOf, List.map_nil, List.flatten_nil, List.append_nil]
    exact split_one (dec_slash _)
  | cons n p ih =>
    have : decDigits a ++ tailOf (n :: p) = decDigits a ++ 47 :: (decDigits n.toNat ++ tailOf p) := by simp [tailOf]
    rw [this, split_two (dec_slash _), ih]
    simp
/-- A reason that has a text is read as it was. -/
theorem parse_text {e a : Int} {p : List Int} (hne : textOf e a p ≠ []) (ha : a ≤ (top : Int)) (hp : ∀ n ∈ p, n ≤ (top : Int)) : parseOf (textOf e a p) = some (e.toNat, a.toNat, p.map Int.toNat) := by
  obtain ⟨h1, h2, h3⟩ := textOf_ne hne
  obtain ⟨h4, h5⟩ := nameOf_ne h1
  rw [textOf_full h1 h2 h3, nameOf_some h4 h5]
  unfold parseOf
  rw [cutAt_of (nameAt_at (by omega))]
  simp only
  rw [codeOf_back (by omega), split_digits]
  simp only [nums]
  rw [numOf_dec (by omega), nums_dec p (fun n hn => ⟨h3 n hn, hp n hn⟩)]
theorem parseOf_some {s : List UInt8} {e a : Nat} {p : List Nat} (h : parseOf s = some (e, a, p)) : e < 13 ∧ a ≤ top ∧ (∀ n ∈ p, n ≤ top) ∧ s = nameAt e ++ 64 :: (decDigits a ++ tailOf (p.map fun n : Nat => (n : Int))) := by
  cases hc : (cutAt 64 s).2.2 with
  | false => rw [parseOf_miss hc] at h; cases h
  | true =>
    obtain ⟨h1, _⟩ := cutAt_hit hc
    unfold parseOf at h
    split at h
    · rename_i e' a' p' h2 h3
      cases h
      obtain ⟨h4, h5⟩ := codeOf_some h2
      obtain ⟨h6, h7⟩ := nums_back h3
      refine ⟨h4, h7 _ (by simp), fun n hn => h7 n (by simp [hn]), ?_⟩
      have h8 := join_split 47 (cutAt 64 s).2.1
      rw [h6] at h8
      conv => lhs; rw [h1]
      rw [h5, ← h8]
      simp [join, tailOf, Function.comp_def]
    · cases h
/-- What is read tells the text again. -/
theorem text_parse {s : List UInt8} {e a : Nat} {p : List Nat} (h : parseOf s = some (e, a, p)) : textOf (e : Int) (a : Int) (p.map fun n : Nat => (n : Int)) = s := by
  obtain ⟨h1, h2, h3, h4⟩ := parseOf_some h
  have hn : nameOf (e : Int) = nameAt e := by rw [nameOf_some (by omega) (by omega)]; simp
  rw [textOf_full (by rw [hn]; exact nameAt_ne h1) (by omega) (by
    intro n hn
    obtain ⟨m, _, rfl⟩ := List.mem_map.1 hn
    omega), hn, h4]
  simp
theorem tailOf_length {p : List Int} (hp : ∀ n ∈ p, n ≤ (top : Int)) : (tailOf p).length ≤ 21 * p.length := by
  induction p with
  | nil => simp [tailOf]
  | cons n p ih =>
    have h1 := ih (fun m hm => hp m (by simp [hm]))
    have h2 := dec_length (u := n.toNat) (by have := hp n (by simp); unfold top at this; omega)
    have h3 : tailOf (n :: p) = 47 :: (decDigits n.toNat ++ tailOf p) := by simp [tailOf]
    rw [h3]
    simp only [List.length_cons, List.length_append]
    omega
theorem textOf_length {e a : Int} {p : List Int} (ha : a ≤ (top : Int)) (hp : ∀ n ∈ p, n ≤ (top : Int)) : (textOf e a p).length ≤ 27 + 21 * p.length := by
  unfold textOf
  split
  · simp
  · have h1 := nameOf_le e
    have h2 := dec_length (u := a.toNat) (by unfold top at ha; omega)
    have h3 := tailOf_length hp
    simp only [List.length_append, List.length_cons]
    omega
end Go.Proofs.YtojpfmlmalmlcaaGreatDoor

namespace Go.Proofs.YtojpfmlmalmlcaaGreatDoor
open Go.Lib (decDigits itoa)
/-! ### A row of digits, up to a greatest number -/
def foldM (M v : Nat) : List UInt8 → Option Nat
  | [] => some v
  | c :: l => if c.toNat < 48 ∨ 57 < c.toNat then none else if (M - (c.toNat - 48)) / 10 < v then none else foldM M (v * 10 + (c.toNat - 48)) l
def numM (M : Nat) (s : List UInt8) : Option Nat := if s = [] ∨ 20 < s.length ∨ (s.getD 0 0 = 48 ∧ 1 < s.length) then none else foldM M 0 s
theorem foldM_append (M : Nat) (a b : List UInt8) : ∀ v, foldM M v (a ++ b) = (foldM M v a).bind fun u => foldM M u b := by
  induction a with
  | nil => intro v; rfl
  | cons c a ih =>
    intro v
    simp only [List.cons_append, foldM]
    split
    · rfl
    · split
      · rfl
      · exact ih _
theorem foldM_le {M : Nat} (hM : 9 ≤ M) : ∀ (l : List UInt8) (v r : Nat), v ≤ M → foldM M v l = some r → r ≤ M
  | [], v, r, hv, h => by
    simp only [foldM, Option.some.injEq] at h
    omega
  | c :: l, v, r, hv, h => by
    simp only [foldM] at h
    split at h
    · cases h
    · split at h
      · cases h
      · exact foldM_le hM l _ r (by omega) h
theorem foldM_one {M v d : Nat} (hd : d < 10) (hv : v * 10 + d ≤ M) : foldM M v [UInt8.ofNat (48 + d)] = some (v * 10 + d) := by
  simp only [foldM]
  rw [digit_of hd, if_neg (by omega), if_neg (by omega)]
  simp
set_option maxRecDepth 100000 in
theorem foldM_dec (M u : Nat) : u ≤ M → foldM M 0 (decDigits u) = some u := by
  induction u using Nat.strongRecOn with
  | _ u ih =>
    intro hu
    by_cases h : u < 10
    · rw [decDigits, dif_pos h, foldM_one h (by omega)]
      simp
    · rw [decDigits, dif_neg h, foldM_append, ih (u / 10) (by omega) (by omega)]
      simp only [Option.bind_some]
      rw [foldM_one (by omega) (by omega)]
      congr 1
      omega
theorem dec_inj {u v : Nat} (h : decDigits u = decDigits v) : u = v := by
  have h1 := foldM_dec (u + v) u (by omega)
  rw [h, foldM_dec (u + v) v (by omega)] at h1
  exact (Option.some.inj h1).symm
theorem foldM_back {M : Nat} : ∀ (l : List UInt8) (v r : Nat), 1 ≤ v → foldM M v l = some r → decDigits r = decDigits v ++ l
  | [], v, r, hv, h => by
    simp only [foldM, Option.some.injEq] at h
    subst h
    simp
  | c :: l, v, r, hv, h => by
    simp only [foldM] at h
    split at h
    · cases h
    · rename_i hc
      split at h
      · cases h
      · rw [foldM_back l _ r (by omega) h, dec_step hv (by omega), byte_digit hc]
        simp
theorem numM_dec {M u : Nat} (hu : u ≤ M) (h64 : u < 18446744073709551616) : numM M (decDigits u) = some u := by
  unfold numM
  rw [if_neg, foldM_dec M u hu]
  rintro (h | h | ⟨h1, h2⟩)
  · exact dec_ne u h
  · have := dec_length h64
    omega
  · by_cases h : u < 10
    · rw [decDigits, dif_pos h] at h2
      simp at h2
    · exact dec_head u (by omega) h1
theorem numM_le {M : Nat} (hM : 9 ≤ M) {s : List UInt8} {r : Nat} (h : numM M s = some r) : r ≤ M := by
  unfold numM at h
  split at h
  · cases h
  · exact foldM_le hM s 0 r (by omega) h
theorem numM_back {M : Nat} {s : List UInt8} {r : Nat} (h : numM M s = some r) : decDigits r = s := by
  unfold numM at h
  split at h
  · cases h
  · rename_i hn
    cases s with
    | nil => exact absurd (.inl rfl) hn
    | cons c l =>
      simp only [foldM] at h
      split at h
      · cases h
      · rename_i hc
        split at h
        · cases h
        · have hd : decDigits (c.toNat - 48) = [c] := by
            rw [decDigits, dif_pos (by omega), byte_digit hc]
          by_cases hl : l = []
          · subst hl
            simp only [foldM, Option.some.injEq] at h
            subst h
            rw [show 0 * 10 + (c.toNat - 48) = c.toNat - 48 by omega, hd]
          · have hc2 : c ≠ 48 := fun e => hn (.inr (.inr ⟨by simp [e], by
              cases l with
              | nil => exact absurd rfl hl
              | cons => simp⟩))
            have hc' : c.toNat ≠ 48 := fun e => hc2 (UInt8.toNat_inj.1 e)
            rw [foldM_back l _ r (by omega) h, show 0 * 10 + (c.toNat - 48) = c.toNat - 48 by omega, hd]
            rfl
/-! ### The text of a whole number -/
def lowest : Int := -9223372036854775808
def highest : Int := 9223372036854775807
theorem itoa_neg {v : Int} (h : v < 0) : itoa v = 45 :: decDigits v.natAbs := if_pos h
theorem itoa_pos {v : Int} (h : ¬ v < 0) : itoa v = decDigits v.toNat := if_neg h
theorem dec_front (u : Nat) : (decDigits u).getD 0 0 ≠ 45 := by
  cases h : decDigits u with
  | nil => exact absurd h (dec_ne u)
  | cons c l =>
    have h1 := (dec_bytes u c (by rw [h]; simp)).1
    intro e
    simp only [List.getD_cons_zero] at e
    rw [e] at h1
    exact absurd h1 (by decide)
theorem itoa_inj {v w : Int} (h : itoa v = itoa w) : v = w := by
  by_cases hv : v < 0
  · by_cases hw : w < 0
    · rw [itoa_neg hv, itoa_neg hw] at h
      have := dec_inj (List.cons.inj h).2
      omega
    · rw [itoa_neg hv, itoa_pos hw] at h
      exact absurd (by rw [← h]; rfl) (dec_front w.toNat)
  · by_cases hw : w < 0
    · rw [itoa_pos hv, itoa_neg hw] at h
      exact absurd (by rw [h]; rfl) (dec_front v.toNat)
    · rw [itoa_pos hv, itoa_pos hw] at h
      have := dec_inj h
      omega
theorem itoa_le {v : Int} (h0 : lowest ≤ v) (h1 : v ≤ highest) : (itoa v).length ≤ 20 := by
  unfold lowest at h0
  unfold highest at h1
  have hp : 9223372036854775809 ≤ 10 ^ (18 + 1) := by decide
  by_cases hv : v < 0
  · rw [itoa_neg hv, List.length_cons]
    have := dec_length_aux 18 v.natAbs (by omega)
    omega
  · rw [itoa_pos hv]
    have := dec_length_aux 18 v.toNat (by omega)
    omega
/-- The document's: the number whose text s is. -/
def refP (s : List UInt8) : Option Int :=
  if s ≠ [] ∧ s.getD 0 0 = 45 then (match numM 9223372036854775808 (s.drop 1) with | some u => if u = 0 then none else some (-(u : Int)) | none => none)
  else (numM 9223372036854775807 s).map fun u => (u : Int)
set_option maxRecDepth 100000 in
theorem refP_iff (s : List UInt8) (v : Int) : refP s = some v ↔ itoa v = s ∧ lowest ≤ v ∧ v ≤ highest := by
  unfold lowest highest
  constructor
  · intro h
    unfold refP at h
    split at h
    · rename_i hs
      cases hn : numM 9223372036854775808 (s.drop 1) with
      | none => rw [hn] at h; cases h
      | some u =>
        rw [hn] at h
        simp only at h
        split at h
        · cases h
        · rename_i hu
          have hb := numM_back hn
          have hl := numM_le (by decide) hn
          obtain rfl := Option.some.inj h
          refine ⟨?_, by omega, by omega⟩
          rw [itoa_neg (by omega), show (-(u : Int)).natAbs = u by omega, hb]
          cases s with
          | nil => exact absurd rfl hs.1
          | cons c l =>
            have := hs.2
            simp only [List.getD_cons_zero] at this
            rw [this]
            rfl
    · cases hn : numM 9223372036854775807 s with
      | none => rw [hn] at h; cases h
      | some u =>
        rw [hn] at h
        have hb := numM_back hn
        have hl := numM_le (by decide) hn
        have hv : (u : Int) = v := Option.some.inj h
        subst hv
        refine ⟨?_, by omega, by omega⟩
        rw [itoa_pos (by omega), Int.toNat_natCast, hb]
  · rintro ⟨h, h0, h1⟩
    subst h
    unfold refP
    by_cases hv : v < 0
    · rw [itoa_neg hv, if_pos ⟨by simp, rfl⟩, List.drop_succ_cons, List.drop_zero, numM_dec (by omega) (by omega)]
      show (if v.natAbs = 0 then none else some (-(v.natAbs : Int))) = some v
      rw [if_neg (by omega)]
      congr 1
      omega
    · rw [itoa_pos hv, if_neg (fun h => dec_front _ h.2), numM_dec (by omega) (by omega)]
      show some ((v.toNat : Nat) : Int) = some v
      congr 1
      omega
theorem num_end (e : Lib.NumEnd Int) : (∃ v, e = .ok v) ∨ ∀ v, e ≠ .ok v := by
  cases e
  · exact .inl ⟨_, rfl⟩
  · exact .inr fun v h => by cases h
  · exact .inr fun v h => by cases h
/-- The program's: by the library, and only if it tells s again. -/
def pOf (s : List UInt8) : Option Int := if 20 < s.length then none else match Lib.parseIntB 64 s with | .ok v => if itoa v = s then some v else none | _ => none
theorem parse_append {M : Nat} : ∀ (a b : List UInt8) (acc v : Nat), Lib.parseUintM M acc a = .ok v → Lib.parseUintM M acc (a ++ b) = Lib.parseUintM M v b
  | [], b, acc, v, h => by
    simp only [Lib.parseUintM, Lib.NumEnd.ok.injEq] at h
    subst h
    rfl
  | c :: r, b, acc, v, h => by
    simp only [Lib.parseUintM, List.cons_append] at h ⊢
    split at h
    · rename_i hc
      rw [if_pos hc]
      split at h
      · cases h
      · rename_i h1
        rw [if_neg h1]
        split at h
        · cases h
        · rename_i h2
          rw [if_neg h2]
          exact parse_append r b _ v h
    · cases h
theorem parse_one {M v d : Nat} (hd : d < 10) (h1 : v < 1844674407370955162) (h2 : v * 10 + d ≤ M) : Lib.parseUintM M v [UInt8.ofNat (48 + d)] = .ok (v * 10 + d) := by
  simp only [Lib.parseUintM]
  rw [digit_of hd, if_pos (by omega), if_neg (by omega), if_neg (by omega)]
  simp
set_option maxRecDepth 100000 in
theorem parse_dec (M u : Nat) : u ≤ M → u < 18446744073709551616 → Lib.parseUintM M 0 (decDigits u) = .ok u := by
  induction u using Nat.strongRecOn with
  | _ u ih =>
    intro hu h64
    by_cases h : u < 10
    · rw [decDigits, dif_pos h, parse_one h (by omega) (by omega)]
      simp
    · rw [decDigits, dif_neg h, parse_append _ _ _ _ (ih (u / 10) (by omega) (by omega) (by omega)), parse_one (by omega) (by omega) (by omega)]
      congr 1
      omega
theorem parseB_dec {u : Nat} (h : u < 18446744073709551616) : Lib.parseUintB 64 (decDigits u) = .ok u := by
  unfold Lib.parseUintB
  rw [if_neg (dec_ne u)]
  exact parse_dec _ u (by have : (2 : Nat) ^ 64 - 1 = 18446744073709551615 := by decide
                          omega) h
set_option maxRecDepth 100000 in
theorem parseInt_itoa {v : Int} (h0 : lowest ≤ v) (h1 : v ≤ highest) : Lib.parseIntB 64 (itoa v) = .ok v := by
  unfold lowest at h0
  unfold highest at h1
  have h63 : (2 : Nat) ^ (64 - 1) = 9223372036854775808 := by decide
  by_cases hv : v < 0
  · rw [itoa_neg hv, Lib.parseIntB_minus, parseB_dec (by omega), h63]
    simp only [Lib.signedC]
    rw [if_neg (by omega)]
    congr 1
    omega
  · have hf := dec_front v.toNat
    rw [itoa_pos hv]
    cases hd : decDigits v.toNat with
    | nil => exact absurd hd (dec_ne _)
    | cons c r =>
      have hb := dec_bytes v.toNat c (by rw [hd]; simp)
      rw [Lib.parseIntB_plain 64 c r (by omega) (by omega), ← hd, parseB_dec (by omega), h63]
      simp only [Lib.signlessC]
      rw [if_neg (by omega)]
      congr 1
      omega
theorem pOf_iff (s : List UInt8) (v : Int) : pOf s = some v ↔ itoa v = s ∧ lowest ≤ v ∧ v ≤ highest := by
  constructor
  · intro h
    unfold pOf at h
    split at h
    · cases h
    · rcases num_end (Lib.parseIntB 64 s) with ⟨u, hp⟩ | hp
      · rw [hp] at h
        simp only at h
        split at h
        · rename_i he
          obtain rfl := Option.some.inj h
          have hb := Lib.parseIntB_bounds hp
          have h63 : ((2 ^ (64 - 1) : Nat) : Int) = 9223372036854775808 := by decide
          rw [h63] at hb
          unfold lowest highest
          exact ⟨he, by omega, by omega⟩
        · cases h
      · exfalso
        generalize Lib.parseIntB 64 s = e at h hp
        cases e
        · exact hp _ rfl
        · cases h
        · cases h
  · rintro ⟨h, h0, h1⟩
    subst h
    unfold pOf
    rw [if_neg (by have := itoa_le h0 h1; omega), parseInt_itoa h0 h1]
    simp
theorem pOf_bad {s : List UInt8} (h : ∀ v, Lib.parseIntB 64 s ≠ .ok v) : pOf s = none := by
  unfold pOf
  split
  · rfl
  · generalize Lib.parseIntB 64 s = e at h
    cases e
    · exact absurd rfl (h _)
    · rfl
    · rfl
theorem pOf_eq (s : List UInt8) : pOf s = refP s := by
  apply Option.ext
  intro v
  rw [pOf_iff, refP_iff]
theorem pOf_itoa {v : Int} (h0 : lowest ≤ v) (h1 : v ≤ highest) : pOf (itoa v) = some v := (pOf_iff _ _).2 ⟨rfl, h0, h1⟩
theorem pOf_bounds {s : List UInt8} {v : Int} (h : pOf s = some v) : lowest ≤ v ∧ v ≤ highest := ((pOf_iff _ _).1 h).2
end Go.Proofs.YtojpfmlmalmlcaaGreatDoor

namespace Go.Proofs.YtojpfmlmalmlcaaGreatDoor
open Go.Lib (decDigits itoa)
def isD (c : UInt8) : Bool := decide (48 ≤ c.toNat ∧ c.toNat ≤ 57)
def isE (c : UInt8) : Bool := c == 101 || c == 69
def digs (l : List UInt8) : Bool := l.all isD && !l.isEmpty
def plain (l : List UInt8) : Bool := digs l && (l == [48] || l.getD 0 0 != 48)
def trim : List UInt8 → List UInt8
  | [] => []
  | c :: t => if c = 45 then t else c :: t
def unsign : List UInt8 → List UInt8
  | [] => []
  | c :: t => if c = 43 ∨ c = 45 then t else c :: t
def cutE : List UInt8 → List UInt8 × List UInt8 × Bool
  | [] => ([], [], false)
  | x :: l => if isE x = true then ([], l, true) else (x :: (cutE l).1, (cutE l).2.1, (cutE l).2.2)
def lexU (u : List UInt8) : Nat :=
  if plain (cutAt 46 (cutE u).1).1 = false then 0 else
  if (cutAt 46 (cutE u).1).2.2 = true ∧ digs (cutAt 46 (cutE u).1).2.1 = false then 0 else
  if (cutE u).2.2 = true ∧ digs (unsign (cutE u).2.1) = false then 0 else
  if (cutAt 46 (cutE u).1).2.2 = true ∨ (cutE u).2.2 = true then 2 else 1
def lexP (s : List UInt8) : Nat :=
  if plain (trim (cutAt 46 (cutE s).1).1) = false then 0 else
  if (cutAt 46 (cutE s).1).2.2 = true ∧ digs (cutAt 46 (cutE s).1).2.1 = false then 0 else
  if (cutE s).2.2 = true ∧ digs (unsign (cutE s).2.1) = false then 0 else
  if (cutAt 46 (cutE s).1).2.2 = true ∨ (cutE s).2.2 = true then 2 else 1
/-! ### Digits -/
theorem isD_46 : isD 46 = false := by decide
theorem isD_45 : isD 45 = false := by decide
theorem isD_101 : isD 101 = false := by decide
theorem isD_69 : isD 69 = false := by decide
theorem isE_of_isD {c : UInt8} (h : isD c = true) : isE c = false := by
  have h1 : c ≠ 101 := fun e => by rw [e, isD_101] at h; cases h
  have h2 : c ≠ 69 := fun e => by rw [e, isD_69] at h; cases h
  simp [isE, h1, h2]
theorem ne_dot {c : UInt8} (h : isD c = true) : c ≠ 46 := fun e => by rw [e, isD_46] at h; cases h
theorem ne_minus {c : UInt8} (h : isD c = true) : c ≠ 45 := fun e => by rw [e, isD_45] at h; cases h
theorem digs_iff {l : List UInt8} : digs l = true ↔ (∀ c ∈ l, isD c = true) ∧ l ≠ [] := by
  simp [digs, List.all_eq_true]
theorem digs_nil : digs [] = false := rfl
theorem digs_false {l : List UInt8} {c : UInt8} (hc : c ∈ l) (h : isD c = false) : digs l = false := by
  cases hd : digs l with
  | false => rfl
  | true => rw [(digs_iff.1 hd).1 c hc] at h; cases h
theorem plain_digs {l : List UInt8} (h : plain l = true) : digs l = true := by
  simp only [plain, Bool.and_eq_true] at h
  exact h.1
theorem plain_of_bad {l : List UInt8} (h : digs l = false) : plain l = false := by simp [plain, h]
theorem digs_append {a b : List UInt8} (ha : ∀ c ∈ a, isD c = true) (hb : digs b = true) : digs (a ++ b) = true := by
  obtain ⟨h1, h2⟩ := digs_iff.1 hb
  refine digs_iff.2 ⟨fun c hc => ?_, by simp [h2]⟩
  rcases List.mem_append.1 hc with h | h
  · exact ha c h
  · exact h1 c h
/-! ### The first e or E -/
theorem cutE_none {u : List UInt8} (h : ∀ c ∈ u, isE c = false) : cutE u = (u, [], false) := by
  induction u with
  | nil => rfl
  | cons x l ih =>
    have hx := h x (by simp)
    simp only [cutE, hx]
    rw [ih (fun c hc => h c (by simp [hc]))]
    rfl
theorem cutE_of {a b : List UInt8} {c : UInt8} (h : ∀ x ∈ a, isE x = false) (hc : isE c = true) : cutE (a ++ c :: b) = (a, b, true) := by
  induction a with
  | nil => simp [cutE, hc]
  | cons x l ih =>
    have hx := h x (by simp)
    simp only [List.cons_append, cutE, hx]
    rw [ih (fun y hy => h y (by simp [hy]))]
    rfl
theorem cutE_front (s : List UInt8) : ∀ c ∈ (cutE s).1, isE c = false := by
  induction s with
  | nil => simp [cutE]
  | cons x l ih =>
    simp only [cutE]
    split
    · simp
    · rename_i hx
      intro c hc
      rcases List.mem_cons.1 hc with h | h
      · rw [h]; simpa using hx
      · exact ih c h
theorem cutE_hit {s : List UInt8} (h : (cutE s).2.2 = true) : ∃ c, isE c = true ∧ s = (cutE s).1 ++ c :: (cutE s).2.1 := by
  induction s with
  | nil => cases h
  | cons x l ih =>
    simp only [cutE] at h ⊢
    split
    · rename_i hx
      exact ⟨x, hx, rfl⟩
    · rename_i hx
      rw [if_neg hx] at h
      obtain ⟨c, h1, h2⟩ := ih h
      exact ⟨c, h1, by simp only [List.cons_append]; rw [← h2]⟩
theorem cutE_miss {s : List UInt8} (h : (cutE s).2.2 = false) : (cutE s).1 = s ∧ (cutE s).2.1 = [] := by
  induction s with
  | nil => exact ⟨rfl, rfl⟩
  | cons x l ih =>
    simp only [cutE] at h ⊢
    split
    · rename_i hx
      rw [if_pos hx] at h
      cases h
    · rename_i hx
      rw [if_neg hx] at h
      obtain ⟨h1, h2⟩ := ih h
      exact ⟨by rw [h1], h2⟩
theorem cutE_cons {x : UInt8} (l : List UInt8) (h : isE x = false) : cutE (x :: l) = (x :: (cutE l).1, (cutE l).2.1, (cutE l).2.2) := by
  simp [cutE, h]
theorem cutE_pass {a : List UInt8} (b : List UInt8) (h : ∀ c ∈ a, isE c = false) : cutE (a ++ b) = (a ++ (cutE b).1, (cutE b).2.1, (cutE b).2.2) := by
  induction a with
  | nil => rfl
  | cons x l ih =>
    rw [List.cons_append, cutE_cons _ (h x (by simp)), ih (fun y hy => h y (by simp [hy]))]
    rfl
theorem cutAt_pass {a : List UInt8} {c : UInt8} (b : List UInt8) (h : c ∉ a) : cutAt c (a ++ b) = (a ++ (cutAt c b).1, (cutAt c b).2.1, (cutAt c b).2.2) := by
  induction a with
  | nil => rfl
  | cons x l ih =>
    simp only [List.mem_cons, not_or] at h
    rw [List.cons_append]
    simp only [cutAt]
    rw [if_neg (fun e => h.1 e.symm), ih h.2]
    rfl
theorem cutAt_cons {x c : UInt8} (l : List UInt8) (h : x ≠ c) : cutAt c (x :: l) = (x :: (cutAt c l).1, (cutAt c l).2.1, (cutAt c l).2.2) := by
  simp [cutAt, h]
theorem dot_notin {d : List UInt8} (h : ∀ c ∈ d, isD c = true) : (46 : UInt8) ∉ d := fun hm => ne_dot (h _ hm) rfl
theorem noE {d : List UInt8} (h : ∀ c ∈ d, isD c = true) : ∀ c ∈ d, isE c = false := fun c hc => isE_of_isD (h c hc)
/-- A sign ahead is left out, and nothing else. -/
theorem lexP_trim (s : List UInt8) : lexP s = lexU (trim s) := by
  cases s with
  | nil => rfl
  | cons c t =>
    by_cases h : c = 45
    · subst h
      have e1 := cutE_cons (x := 45) t (by decide)
      have e2 := cutAt_cons (x := 45) (c := 46) (cutE t).1 (by decide)
      unfold lexP lexU
      rw [e1]
      simp only
      rw [e2]
      rfl
    · have ht : trim (c :: t) = c :: t := by simp [trim, h]
      rw [ht]
      unfold lexP lexU
      have : trim (cutAt 46 (cutE (c :: t)).1).1 = (cutAt 46 (cutE (c :: t)).1).1 := by
        by_cases he : isE c = true
        · simp [cutE, he, cutAt, trim]
        · rw [cutE_cons t (by simpa using he)]
          simp only
          by_cases hd : c = 46
          · simp [hd, cutAt, trim]
          · rw [cutAt_cons _ hd]
            simp [trim, h]
      rw [this]
/-! ### The document's: by runs of digits -/
def run (s : List UInt8) : Nat := (s.takeWhile isD).length
def lexEnd (k : Nat) (t : List UInt8) : Nat := if t = [] then k else 0
def lexExp (k : Nat) : List UInt8 → Nat
  | [] => k
  | c :: t => if isE c = true then (if run (unsign t) = 0 then 0 else lexEnd 2 ((unsign t).drop (run (unsign t)))) else 0
def lexFrac : List UInt8 → Nat
  | [] => 1
  | c :: t => if c = 46 then (if run t = 0 then 0 else lexExp 2 (t.drop (run t))) else lexExp 1 (c :: t)
def lexD (s : List UInt8) : Nat :=
  if run (trim s) = 0 ∨ ((trim s).getD 0 0 = 48 ∧ 1 < run (trim s)) then 0 else lexFrac ((trim s).drop (run (trim s)))
theorem run_split (u : List UInt8) : ∃ d r : List UInt8, u = d ++ r ∧ (∀ c ∈ d, isD c = true) ∧ run u = d.length ∧ u.drop (run u) = r ∧ (r = [] ∨ ∃ c t, r = c :: t ∧ isD c = false) := by
  induction u with
  | nil => exact ⟨[], [], rfl, by simp, rfl, rfl, .inl rfl⟩
  | cons x l ih =>
    by_cases hx : isD x = true
    · obtain ⟨d, r, h1, h2, h3, h4, h5⟩ := ih
      have hr : run (x :: l) = run l + 1 := by simp [run, hx]
      refine ⟨x :: d, r, by rw [h1]; rfl, fun c hc => ?_, by rw [hr, h3]; rfl, by rw [hr, List.drop_succ_cons, h4], h5⟩
      rcases List.mem_cons.1 hc with h | h
      · rw [h]; exact hx
      · exact h2 c h
    · have hx' : isD x = false := by simpa using hx
      have hr : run (x :: l) = 0 := by simp [run, hx']
      exact ⟨[], x :: l, rfl, by simp, by rw [hr]; rfl, by rw [hr]; rfl, .inr ⟨x, l, rfl, hx'⟩⟩
theorem run_end (k : Nat) (u : List UInt8) : (if run u = 0 then 0 else lexEnd k (u.drop (run u))) = if digs u = false then 0 else k := by
  obtain ⟨d, r, h1, h2, h3, h4, h5⟩ := run_split u
  rw [h4, h3]
  rcases h5 with rfl | ⟨c, t, rfl, hc⟩
  · rw [List.append_nil] at h1
    subst h1
    by_cases hu : u = []
    · subst hu; rfl
    · rw [if_neg (by simpa using hu), digs_iff.2 ⟨h2, hu⟩]
      rfl
  · have hd : digs u = false := digs_false (c := c) (by rw [h1]; simp) hc
    rw [hd]
    simp [lexEnd]
theorem lexExp_cons (k : Nat) {c : UInt8} (t : List UInt8) (h : isE c = true) : lexExp k (c :: t) = if digs (unsign t) = false then 0 else 2 := by
  simp only [lexExp]
  rw [if_pos h, run_end]
theorem lexExp_other (k : Nat) {c : UInt8} (t : List UInt8) (h : isE c = false) : lexExp k (c :: t) = 0 := by
  simp [lexExp, h]
/-- One run of digits, and then perhaps an exponent. -/
theorem run_exp (k : Nat) (u : List UInt8) : (if run u = 0 then 0 else lexExp k (u.drop (run u))) =
    if digs (cutE u).1 = false then 0 else if (cutE u).2.2 = true ∧ digs (unsign (cutE u).2.1) = false then 0 else if (cutE u).2.2 = true then 2 else k := by
  obtain ⟨d, r, h1, h2, h3, h4, h5⟩ := run_split u
  rw [h4, h3]
  rcases h5 with rfl | ⟨c, t, rfl, hc⟩
  · rw [List.append_nil] at h1
    subst h1
    rw [cutE_none (noE h2)]
    by_cases hu : u = []
    · subst hu; rfl
    · rw [if_neg (by simpa using hu)]
      simp only
      rw [digs_iff.2 ⟨h2, hu⟩]
      simp [lexExp]
  · by_cases he : isE c = true
    · rw [h1, cutE_of (noE h2) he, lexExp_cons k t he]
      simp only
      by_cases hd : d = []
      · subst hd; rfl
      · rw [if_neg (by simpa using hd), digs_iff.2 ⟨h2, hd⟩]
        cases digs (unsign t) <;> simp
    · have he' : isE c = false := by simpa using he
      have hd : digs (cutE u).1 = false := by
        rw [h1, cutE_pass _ (noE h2), cutE_cons t he']
        exact digs_false (c := c) (by simp) hc
      rw [lexExp_other k t he', hd]
      simp
theorem plain_head {d : List UInt8} (h : ∀ c ∈ d, isD c = true) : (d.length = 0 ∨ (d.getD 0 0 = 48 ∧ 1 < d.length)) ↔ plain d = false := by
  constructor
  · rintro (h0 | ⟨h0, h1⟩)
    · have : d = [] := List.length_eq_zero_iff.1 h0
      subst this; rfl
    · have hn : (d == [48]) = false := by
        apply beq_eq_false_iff_ne.2
        intro e
        rw [e] at h1
        simp at h1
      simp only [plain, hn, h0, Bool.false_or, bne_self_eq_false, Bool.and_false]
  · intro hp
    by_cases hd : d = []
    · left; rw [hd]; rfl
    · right
      have h1 : digs d = true := digs_iff.2 ⟨h, hd⟩
      simp only [plain, h1, Bool.true_and, Bool.or_eq_false_iff, bne_eq_false_iff_eq] at hp
      refine ⟨hp.2, ?_⟩
      have hl : 0 < d.length := List.length_pos_iff.2 hd
      apply Nat.lt_of_not_le
      intro hle
      have hl1 : d.length = 1 := by omega
      obtain ⟨x, rfl⟩ := List.length_eq_one_iff.1 hl1
      have := hp.2
      simp only [List.getD_cons_zero] at this
      rw [this] at hp
      simp at hp
theorem getD_append_left {d r : List UInt8} (h : d ≠ []) : (d ++ r).getD 0 0 = d.getD 0 0 := by
  cases d with
  | nil => exact absurd rfl h
  | cons x l => rfl
theorem lexD_eq_lexU (u : List UInt8) : (if run u = 0 ∨ (u.getD 0 0 = 48 ∧ 1 < run u) then 0 else lexFrac (u.drop (run u))) = lexU u := by
  obtain ⟨d, r, h1, h2, h3, h4, h5⟩ := run_split u
  have hp := plain_head h2
  have hcond : (run u = 0 ∨ (u.getD 0 0 = 48 ∧ 1 < run u)) ↔ plain d = false := by
    rw [← hp, h3]
    by_cases hd : d = []
    · subst hd; simp
    · rw [h1, getD_append_left hd]
  rw [h4]
  simp only [hcond]
  clear hcond hp h3 h4
  unfold lexU
  rcases h5 with rfl | ⟨c, t, rfl, hc⟩
  · rw [List.append_nil] at h1
    subst h1
    rw [cutE_none (noE h2)]
    simp only
    rw [cutAt_none (dot_notin h2)]
    cases plain u <;> simp [lexFrac]
  · by_cases hdot : c = 46
    · subst hdot
      have hx := run_exp 2 t
      rw [h1, cutE_pass _ (noE h2), cutE_cons t (by decide)]
      simp only
      rw [cutAt_of (dot_notin h2)]
      simp only [lexFrac, if_true]
      rw [hx]
      cases plain d <;> cases digs (cutE t).1 <;> cases (cutE t).2.2 <;> cases digs (unsign (cutE t).2.1) <;> simp
    · simp only [lexFrac]
      rw [if_neg hdot]
      by_cases he : isE c = true
      · rw [lexExp_cons 1 t he, h1, cutE_of (noE h2) he]
        simp only
        rw [cutAt_none (dot_notin h2)]
        cases plain d <;> cases digs (unsign t) <;> simp
      · have he' : isE c = false := by simpa using he
        rw [lexExp_other 1 t he', h1, cutE_pass _ (noE h2), cutE_cons t he']
        simp only
        rw [cutAt_pass _ (dot_notin h2), cutAt_cons _ hdot]
        simp only
        have hbad : digs (d ++ c :: (cutAt 46 (cutE t).1).1) = false := digs_false (c := c) (by simp) hc
        rw [if_pos (plain_of_bad hbad)]
        simp
theorem lexD_eq (s : List UInt8) : lexD s = lexP s := by
  rw [lexP_trim, ← lexD_eq_lexU]
  rfl
/-! ### What a number tells -/
theorem lexU_digits {d : List UInt8} (h : plain d = true) : lexU d = 1 := by
  have h2 := (digs_iff.1 (plain_digs h)).1
  unfold lexU
  rw [cutE_none (noE h2)]
  simp only
  rw [cutAt_none (dot_notin h2)]
  simp [h]
theorem dec_isD (u : Nat) : ∀ c ∈ decDigits u, isD c = true := fun c hc => by
  have := dec_bytes u c hc
  simp [isD, this]
theorem dec_digs (u : Nat) : digs (decDigits u) = true := digs_iff.2 ⟨dec_isD u, dec_ne u⟩
theorem dec_plain (u : Nat) : plain (decDigits u) = true := by
  simp only [plain, dec_digs, Bool.true_and, Bool.or_eq_true, bne_iff_ne, beq_iff_eq]
  by_cases hu : u = 0
  · left
    subst hu
    rw [decDigits, dif_pos (by omega)]
    rfl
  · exact .inr (dec_head u (by omega))
theorem trim_of {l : List UInt8} (h : ∀ c ∈ l, isD c = true) : trim l = l := by
  cases l with
  | nil => rfl
  | cons c t => simp [trim, ne_minus (h c (by simp))]
theorem lexP_itoa (v : Int) : lexP (itoa v) = 1 := by
  rw [lexP_trim]
  by_cases hv : v < 0
  · rw [show itoa v = 45 :: decDigits v.natAbs from if_pos hv]
    exact lexU_digits (dec_plain _)
  · rw [show itoa v = decDigits v.toNat from if_neg hv, trim_of (dec_isD _)]
    exact lexU_digits (dec_plain _)
/-! ### What stands behind a number, and ahead of it -/
theorem trim_append {s t : List UInt8} (h : s ≠ []) : trim (s ++ t) = trim s ++ t := by
  cases s with
  | nil => exact absurd rfl h
  | cons c l =>
    simp only [List.cons_append, trim]
    split <;> rfl
theorem lexU_one {u : List UInt8} (h : lexU u = 1) : plain u = true := by
  unfold lexU at h
  split at h
  · cases h
  · rename_i h1
    split at h
    · cases h
    · split at h
      · cases h
      · split at h
        · cases h
        · rename_i h4
          simp only [not_or, Bool.not_eq_true] at h4
          obtain ⟨e1, _⟩ := cutE_miss h4.2
          rw [e1] at h1 h4
          obtain ⟨e2, _, _⟩ := cutAt_miss h4.1
          rw [e2] at h1
          simpa using h1
/-- What a sort 2 is made of. -/
theorem lexU_two {u : List UInt8} (h : lexU u = 2) : ∃ o t : List UInt8, u = o ++ t ∧ plain o = true ∧
    ((∃ p, t = 46 :: p ∧ digs p = true) ∨ (∃ c x, t = c :: x ∧ isE c = true ∧ digs (unsign x) = true) ∨ (∃ p c x, t = 46 :: p ++ c :: x ∧ digs p = true ∧ isE c = true ∧ digs (unsign x) = true)) := by
  unfold lexU at h
  split at h
  · cases h
  · rename_i h1
    split at h
    · cases h
    · rename_i h2
      split at h
      · cases h
      · rename_i h3
        split at h
        · rename_i h4
          have hp : plain (cutAt 46 (cutE u).1).1 = true := by simpa using h1
          refine ⟨(cutAt 46 (cutE u).1).1, ?_⟩
          cases hd : (cutAt 46 (cutE u).1).2.2 with
          | true =>
            obtain ⟨e1, _⟩ := cutAt_hit hd
            have hq : digs (cutAt 46 (cutE u).1).2.1 = true := by simpa [hd] using h2
            cases he : (cutE u).2.2 with
            | true =>
              obtain ⟨c, hc, e2⟩ := cutE_hit he
              have hx : digs (unsign (cutE u).2.1) = true := by simpa [he] using h3
              exact ⟨46 :: (cutAt 46 (cutE u).1).2.1 ++ c :: (cutE u).2.1, by rw [← List.append_assoc, ← e1, ← e2], hp, .inr (.inr ⟨_, c, _, rfl, hq, hc, hx⟩)⟩
            | false =>
              obtain ⟨e2, _⟩ := cutE_miss he
              exact ⟨46 :: (cutAt 46 (cutE u).1).2.1, by rw [← e1, e2], hp, .inl ⟨_, rfl, hq⟩⟩
          | false =>
            obtain ⟨e1, _, _⟩ := cutAt_miss hd
            have he : (cutE u).2.2 = true := by simpa [hd] using h4
            obtain ⟨c, hc, e2⟩ := cutE_hit he
            have hx : digs (unsign (cutE u).2.1) = true := by simpa [he] using h3
            exact ⟨c :: (cutE u).2.1, by rw [e1, ← e2], hp, .inr (.inl ⟨c, _, rfl, hc, hx⟩)⟩
        · cases h
theorem lexU_frac {o p : List UInt8} (ho : plain o = true) (hp : ∀ c ∈ p, isE c = false) : lexU (o ++ 46 :: p) = if digs p = false then 0 else 2 := by
  have h2 := (digs_iff.1 (plain_digs ho)).1
  unfold lexU
  rw [cutE_none (u := o ++ 46 :: p) (by
    intro c hc
    rcases List.mem_append.1 hc with h | h
    · exact noE h2 c h
    · rcases List.mem_cons.1 h with h | h
      · rw [h]; decide
      · exact hp c h)]
  simp only
  rw [cutAt_of (dot_notin h2)]
  cases digs p <;> simp [ho]
theorem lexU_exp {o x : List UInt8} {c : UInt8} (ho : plain o = true) (hc : isE c = true) : lexU (o ++ c :: x) = if digs (unsign x) = false then 0 else 2 := by
  have h2 := (digs_iff.1 (plain_digs ho)).1
  unfold lexU
  rw [cutE_of (noE h2) hc]
  simp only
  rw [cutAt_none (dot_notin h2)]
  cases digs (unsign x) <;> simp [ho]
theorem lexU_both {o p x : List UInt8} {c : UInt8} (ho : plain o = true) (hp : digs p = true) (hc : isE c = true) : lexU (o ++ (46 :: p ++ c :: x)) = if digs (unsign x) = false then 0 else 2 := by
  have h2 := (digs_iff.1 (plain_digs ho)).1
  have h3 := (digs_iff.1 hp).1
  unfold lexU
  rw [← List.append_assoc, cutE_of (a := o ++ 46 :: p) (by
    intro y hy
    rcases List.mem_append.1 hy with h | h
    · exact noE h2 y h
    · rcases List.mem_cons.1 h with h | h
      · rw [h]; decide
      · exact noE h3 y h) hc]
  simp only
  rw [cutAt_of (dot_notin h2)]
  cases digs (unsign x) <;> simp [ho, hp]
theorem unsign_append {x d : List UInt8} (h : x ≠ []) : unsign (x ++ d) = unsign x ++ d := by
  cases x with
  | nil => exact absurd rfl h
  | cons c t =>
    simp only [List.cons_append, unsign]
    split <;> rfl
theorem unsign_ne {x : List UInt8} (h : digs (unsign x) = true) : x ≠ [] := fun e => by rw [e] at h; cases h
theorem digs_more {p d : List UInt8} (hp : digs p = true) (hd : digs d = true) : digs (p ++ d) = true := digs_append (digs_iff.1 hp).1 hd
/-- More digits behind one of sort 2. -/
theorem lexU_more {u d : List UInt8} (h : lexU u = 2) (hd : digs d = true) : lexU (u ++ d) = 2 := by
  obtain ⟨o, t, rfl, ho, h1⟩ := lexU_two h
  have hd1 := (digs_iff.1 hd).1
  rcases h1 with ⟨p, rfl, hp⟩ | ⟨c, x, rfl, hc, hx⟩ | ⟨p, c, x, rfl, hp, hc, hx⟩
  · rw [List.append_assoc, List.cons_append, lexU_frac ho (noE (digs_iff.1 (digs_more hp hd)).1), digs_more hp hd]
    rfl
  · rw [List.append_assoc, List.cons_append, lexU_exp ho hc, unsign_append (unsign_ne hx), digs_more hx hd]
    rfl
  · rw [List.append_assoc, List.append_assoc, List.cons_append, List.cons_append, ← List.cons_append, lexU_both ho hp hc, unsign_append (unsign_ne hx), digs_more hx hd]
    rfl
theorem digs_blank (p : List UInt8) : digs (p ++ [32]) = false := digs_false (c := 32) (by simp) (by decide)
/-- A blank behind one of sort 2. -/
theorem lexU_blank {u : List UInt8} (h : lexU u = 2) : lexU (u ++ [32]) = 0 := by
  obtain ⟨o, t, rfl, ho, h1⟩ := lexU_two h
  rcases h1 with ⟨p, rfl, hp⟩ | ⟨c, x, rfl, hc, hx⟩ | ⟨p, c, x, rfl, hp, hc, hx⟩
  · rw [List.append_assoc, List.cons_append, lexU_frac ho (by
      intro c hc
      rcases List.mem_append.1 hc with h | h
      · exact noE (digs_iff.1 hp).1 c h
      · rw [List.mem_singleton.1 h]; decide), digs_blank]
    rfl
  · rw [List.append_assoc, List.cons_append, lexU_exp ho hc, unsign_append (unsign_ne hx), digs_blank]
    rfl
  · rw [List.append_assoc, List.append_assoc, List.cons_append, List.cons_append, ← List.cons_append, lexU_both ho hp hc, unsign_append (unsign_ne hx), digs_blank]
    rfl
/-- A nought ahead of one of sort 2. -/
theorem lexU_nought {u : List UInt8} (h : lexU u = 2) : lexU (48 :: u) = 0 := by
  unfold lexU at h
  split at h
  · cases h
  · rename_i h1
    have hp : plain (cutAt 46 (cutE u).1).1 = true := by simpa using h1
    unfold lexU
    rw [cutE_cons u (by decide)]
    simp only
    rw [cutAt_cons _ (by decide)]
    simp only
    have : plain (48 :: (cutAt 46 (cutE u).1).1) = false := by
      generalize (cutAt 46 (cutE u).1).1 = o at hp
      have ho := (digs_iff.1 (plain_digs hp)).2
      have hn : ((48 :: o : List UInt8) == [48]) = false := by
        apply beq_eq_false_iff_ne.2
        intro e
        exact ho (List.cons.inj e).2
      simp [plain, hn]
    rw [if_pos this]
theorem lexP_nought {s : List UInt8} (h : lexP s = 2) : lexP (48 :: s) = 0 := by
  rw [lexP_trim] at h ⊢
  rw [show trim (48 :: s) = 48 :: s from rfl]
  cases s with
  | nil => exact absurd h (by decide)
  | cons c t =>
    by_cases hc : c = 45
    · subst hc
      unfold lexU
      rw [cutE_cons _ (by decide), cutE_cons _ (by decide)]
      simp only
      rw [cutAt_cons _ (by decide), cutAt_cons _ (by decide)]
      simp only
      rw [if_pos (plain_of_bad (digs_false (c := 45) (by simp) (by decide)))]
    · rw [show trim (c :: t) = c :: t by simp [trim, hc]] at h
      exact lexU_nought h
theorem lexP_minus {s : List UInt8} (h0 : s ≠ []) (h : s.getD 0 0 ≠ 45) : lexP (45 :: s) = lexP s := by
  rw [lexP_trim, lexP_trim]
  cases s with
  | nil => exact absurd rfl h0
  | cons c t =>
    simp only [List.getD_cons_zero] at h
    simp [trim, h]
/-- The signs that may stand ahead of an exponent's digits. -/
theorem unsign_plus {pl d : List UInt8} (hp : pl = [] ∨ pl = [43] ∨ pl = [45]) (hd : digs d = true) : unsign (pl ++ d) = d := by
  obtain ⟨h1, h2⟩ := digs_iff.1 hd
  rcases hp with rfl | rfl | rfl
  · cases d with
    | nil => rfl
    | cons c t =>
      have hc := h1 c (by simp)
      have h43 : c ≠ 43 := fun e => by rw [e] at hc; exact absurd hc (by decide)
      have h45 : c ≠ 45 := ne_minus hc
      simp [unsign, h43, h45]
  · simp [unsign]
  · simp [unsign]
theorem goes_frac {s d : List UInt8} (h0 : s ≠ []) (h : lexP s = 1) (hd : digs d = true) : lexP (s ++ 46 :: d) = 2 := by
  rw [lexP_trim] at h ⊢
  rw [trim_append h0, lexU_frac (lexU_one h) (noE (digs_iff.1 hd).1), hd]
  rfl
theorem goes_dot {s : List UInt8} (h0 : s ≠ []) (h : lexP s = 1) : lexP (s ++ [46]) = 0 := by
  rw [lexP_trim] at h ⊢
  rw [trim_append h0, lexU_frac (lexU_one h) (by simp)]
  rfl
theorem goes_exp {s d pl : List UInt8} (h0 : s ≠ []) (h : lexP s = 1) (hd : digs d = true) (hp : pl = [] ∨ pl = [43] ∨ pl = [45]) : lexP (s ++ 101 :: (pl ++ d)) = 2 := by
  rw [lexP_trim] at h ⊢
  rw [trim_append h0, lexU_exp (lexU_one h) (by decide), unsign_plus hp hd, hd]
  rfl
theorem goes_both {s d pl : List UInt8} (h0 : s ≠ []) (h : lexP s = 1) (hd : digs d = true) (hp : pl = [] ∨ pl = [43] ∨ pl = [45]) : lexP (s ++ (46 :: d ++ 69 :: (pl ++ d))) = 2 := by
  rw [lexP_trim] at h ⊢
  rw [trim_append h0, lexU_both (lexU_one h) hd (by decide), unsign_plus hp hd, hd]
  rfl
theorem goes_more {s d : List UInt8} (h0 : s ≠ []) (h : lexP s = 2) (hd : digs d = true) : lexP (s ++ d) = 2 := by
  rw [lexP_trim] at h ⊢
  rw [trim_append h0, lexU_more h hd]
theorem goes_blank {s : List UInt8} (h0 : s ≠ []) (h : lexP s = 2) : lexP (s ++ [32]) = 0 := by
  rw [lexP_trim] at h ⊢
  rw [trim_append h0, lexU_blank h]
/-! ### The library's look for e or E -/
theorem indexAny_cutE (s : List UInt8) : cutE s = if Lib.indexAny s [101, 69] < 0 then (s, [], false) else (s.take (Lib.indexAny s [101, 69]).toNat, s.drop ((Lib.indexAny s [101, 69]).toNat + 1), true) := by
  induction s with
  | nil => rfl
  | cons x l ih =>
    have hg := Lib.indexAny_ge [101, 69] l
    have hxe : ([101, 69] : List UInt8).contains x = isE x := by simp [isE, List.contains, List.elem]; cases h1 : (x == 101) <;> cases h2 : (x == 69) <;> simp_all
    simp only [cutE, Lib.indexAny, hxe]
    by_cases h : isE x = true
    · simp [h]
    · rw [if_neg h, if_neg h, ih]
      by_cases h1 : Lib.indexAny l [101, 69] = -1
      · simp [h1]
      · have h2 : (Lib.indexAny l [101, 69] == -1) = false := by simpa using h1
        rw [h2]
        simp only [Bool.false_eq_true, if_false]
        rw [if_neg (by omega), if_neg (by omega)]
        have h4 : (Lib.indexAny l [101, 69] + 1).toNat = (Lib.indexAny l [101, 69]).toNat + 1 := by omega
        rw [h4]
        simp
theorem plain_le {l : List UInt8} : (cutE l).1.length ≤ l.length ∧ (cutE l).2.1.length ≤ l.length := by
  induction l with
  | nil => exact ⟨Nat.le_refl _, Nat.le_refl _⟩
  | cons x l ih =>
    simp only [cutE]
    split
    · simp
    · simp only [List.length_cons]
      omega
end Go.Proofs.YtojpfmlmalmlcaaGreatDoor
