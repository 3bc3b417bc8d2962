/-
  Whole numbers as text, as plain mathematics: the number whose digits a text is, up to a greatest one; the number whose text a text is; no program in it, no condition beyond what each lemma asks.
-/
import Derived.Test.YtfpocpmcoobjkaaDoorFaultMath
import Derived.Lib.ParseIntBTie
namespace Go.Proofs.YtfpocpmcoobjkaaDoor
open Go.Lib (decDigits itoa)

/-! ### A row of digits, up to a greatest number -/
def foldM (M v : Nat) : List UInt8 → Option Nat
  | [] => some v
  | c :: l => if c.toNat < 48 ∨ 57 < c.toNat then none else if (M - (c.toNat - 48)) / 10 < v then none else foldM M (v * 10 + (c.toNat - 48)) l
def numM (M : Nat) (s : List UInt8) : Option Nat := if s = [] ∨ 20 < s.length ∨ (s.getD 0 0 = 48 ∧ 1 < s.length) then none else foldM M 0 s

theorem foldM_append (M : Nat) (a b : List UInt8) : ∀ v, foldM M v (a ++ b) = (foldM M v a).bind fun u => foldM M u b := by
  induction a with
  | nil => intro v; rfl
  | cons c a ih =>
    intro v
    simp only [List.cons_append, foldM]
    split
    · rfl
    · split
      · rfl
      · exact ih _
theorem foldM_le {M : Nat} (hM : 9 ≤ M) : ∀ (l : List UInt8) (v r : Nat), v ≤ M → foldM M v l = some r → r ≤ M
  | [], v, r, hv, h => by
    simp only [foldM, Option.some.injEq] at h
    omega
  | c :: l, v, r, hv, h => by
    simp only [foldM] at h
    split at h
    · cases h
    · split at h
      · cases h
      · exact foldM_le hM l _ r (by omega) h
theorem foldM_one {M v d : Nat} (hd : d < 10) (hv : v * 10 + d ≤ M) : foldM M v [UInt8.ofNat (48 + d)] = some (v * 10 + d) := by
  simp only [foldM]
  rw [digit_of hd, if_neg (by omega), if_neg (by omega)]
  simp
theorem foldM_dec (M u : Nat) : u ≤ M → foldM M 0 (decDigits u) = some u := by
  induction u using Nat.strongRecOn with
  | _ u ih =>
    intro hu
    by_cases h : u < 10
    · rw [decDigits, dif_pos h, foldM_one h (by omega)]
      simp
    · rw [decDigits, dif_neg h, foldM_append, ih (u / 10) (by omega) (by omega)]
      simp only [Option.bind_some]
      rw [foldM_one (by omega) (by omega)]
      congr 1
      omega
theorem dec_inj {u v : Nat} (h : decDigits u = decDigits v) : u = v := by
  have h1 := foldM_dec (u + v) u (by omega)
  rw [h, foldM_dec (u + v) v (by omega)] at h1
  exact (Option.some.inj h1).symm
theorem foldM_back {M : Nat} : ∀ (l : List UInt8) (v r : Nat), 1 ≤ v → foldM M v l = some r → decDigits r = decDigits v ++ l
  | [], v, r, hv, h => by
    simp only [foldM, Option.some.injEq] at h
    subst h
    simp
  | c :: l, v, r, hv, h => by
    simp only [foldM] at h
    split at h
    · cases h
    · rename_i hc
      split at h
      · cases h
      · rw [foldM_back l _ r (by omega) h, dec_step hv (by omega), byte_digit hc]
        simp
theorem numM_dec {M u : Nat} (hu : u ≤ M) (h64 : u < 18446744073709551616) : numM M (decDigits u) = some u := by
  unfold numM
  rw [if_neg, foldM_dec M u hu]
  rintro (h | h | ⟨h1, h2⟩)
  · exact dec_ne u h
  · have := dec_length h64
    omega
  · by_cases h : u < 10
    · rw [decDigits, dif_pos h] at h2
      simp at h2
    · exact dec_head u (by omega) h1
theorem numM_le {M : Nat} (hM : 9 ≤ M) {s : List UInt8} {r : Nat} (h : numM M s = some r) : r ≤ M := by
  unfold numM at h
  split at h
  · cases h
  · exact foldM_le hM s 0 r (by omega) h
theorem numM_back {M : Nat} {s : List UInt8} {r : Nat} (h : numM M s = some r) : decDigits r = s := by
  unfold numM at h
  split at h
  · cases h
  · rename_i hn
    cases s with
    | nil => exact absurd (.inl rfl) hn
    | cons c l =>
      simp only [foldM] at h
      split at h
      · cases h
      · rename_i hc
        split at h
        · cases h
        · have hd : decDigits (c.toNat - 48) = [c] := by
            rw [decDigits, dif_pos (by omega), byte_digit hc]
          by_cases hl : l = []
          · subst hl
            simp only [foldM, Option.some.injEq] at h
            subst h
            rw [show 0 * 10 + (c.toNat - 48) = c.toNat - 48 by omega, hd]
          · have hc2 : c ≠ 48 := fun e => hn (.inr (.inr ⟨by simp [e], by
              cases l with
              | nil => exact absurd rfl hl
              | cons => simp⟩))
            have hc' : c.toNat ≠ 48 := fun e => hc2 (UInt8.toNat_inj.1 e)
            rw [foldM_back l _ r (by omega) h, show 0 * 10 + (c.toNat - 48) = c.toNat - 48 by omega, hd]
            rfl

/-! ### The text of a whole number -/
def lowest : Int := -9223372036854775808
def highest : Int := 9223372036854775807
theorem itoa_neg {v : Int} (h : v < 0) : itoa v = 45 :: decDigits v.natAbs := if_pos h
theorem itoa_pos {v : Int} (h : ¬ v < 0) : itoa v = decDigits v.toNat := if_neg h
theorem dec_front (u : Nat) : (decDigits u).getD 0 0 ≠ 45 := by
  cases h : decDigits u with
  | nil => exact absurd h (dec_ne u)
  | cons c l =>
    have h1 := (dec_bytes u c (by rw [h]; simp)).1
    intro e
    simp only [List.getD_cons_zero] at e
    rw [e] at h1
    exact absurd h1 (by decide)
theorem itoa_inj {v w : Int} (h : itoa v = itoa w) : v = w := by
  by_cases hv : v < 0
  · by_cases hw : w < 0
    · rw [itoa_neg hv, itoa_neg hw] at h
      have := dec_inj (List.cons.inj h).2
      omega
    · rw [itoa_neg hv, itoa_pos hw] at h
      exact absurd (by rw [← h]; rfl) (dec_front w.toNat)
  · by_cases hw : w < 0
    · rw [itoa_pos hv, itoa_neg hw] at h
      exact absurd (by rw [h]; rfl) (dec_front v.toNat)
    · rw [itoa_pos hv, itoa_pos hw] at h
      have := dec_inj h
      omega
theorem itoa_le {v : Int} (h0 : lowest ≤ v) (h1 : v ≤ highest) : (itoa v).length ≤ 20 := by
  unfold lowest at h0
  unfold highest at h1
  have hp : 9223372036854775809 ≤ 10 ^ (18 + 1) := by decide
  by_cases hv : v < 0
  · rw [itoa_neg hv, List.length_cons]
    have := dec_length_aux 18 v.natAbs (by omega)
    omega
  · rw [itoa_pos hv]
    have := dec_length_aux 18 v.toNat (by omega)
    omega

/-- The document's: the number whose text s is. -/
def refP (s : List UInt8) : Option Int :=
  if s ≠ [] ∧ s.getD 0 0 = 45 then (match numM 9223372036854775808 (s.drop 1) with | some u => if u = 0 then none else some (-(u : Int)) | none => none)
  else (numM 9223372036854775807 s).map fun u => (u : Int)
theorem refP_iff (s : List UInt8) (v : Int) : refP s = some v ↔ itoa v = s ∧ lowest ≤ v ∧ v ≤ highest := by
  unfold lowest highest
  constructor
  · intro h
    unfold refP at h
    split at h
    · rename_i hs
      cases hn : numM 9223372036854775808 (s.drop 1) with
      | none => rw [hn] at h; cases h
      | some u =>
        rw [hn] at h
        simp only at h
        split at h
        · cases h
        · rename_i hu
          have hb := numM_back hn
          have hl := numM_le (by decide) hn
          obtain rfl := Option.some.inj h
          refine ⟨?_, by omega, by omega⟩
          rw [itoa_neg (by omega), show (-(u : Int)).natAbs = u by omega, hb]
          cases s with
          | nil => exact absurd rfl hs.1
          | cons c l =>
            have := hs.2
            simp only [List.getD_cons_zero] at this
            rw [this]
            rfl
    · cases hn : numM 9223372036854775807 s with
      | none => rw [hn] at h; cases h
      | some u =>
        rw [hn] at h
        have hb := numM_back hn
        have hl := numM_le (by decide) hn
        have hv : (u : Int) = v := Option.some.inj h
        subst hv
        refine ⟨?_, by omega, by omega⟩
        rw [itoa_pos (by omega), Int.toNat_natCast, hb]
  · rintro ⟨h, h0, h1⟩
    subst h
    unfold refP
    by_cases hv : v < 0
    · rw [itoa_neg hv, if_pos ⟨by simp, rfl⟩, List.drop_succ_cons, List.drop_zero, numM_dec (by omega) (by omega)]
      show (if v.natAbs = 0 then none else some (-(v.natAbs : Int))) = some v
      rw [if_neg (by omega)]
      congr 1
      omega
    · rw [itoa_pos hv, if_neg (fun h => dec_front _ h.2), numM_dec (by omega) (by omega)]
      show some ((v.toNat : Nat) : Int) = some v
      congr 1
      omega

theorem num_end (e : Lib.NumEnd Int) : (∃ v, e = .ok v) ∨ ∀ v, e ≠ .ok v := by
  cases e
  · exact .inl ⟨_, rfl⟩
  · exact .inr fun v h => by cases h
  · exact .inr fun v h => by cases h
/-- The program's: by the library, and only if it tells s again. -/
def pOf (s : List UInt8) : Option Int := if 20 < s.length then none else match Lib.parseIntB 64 s with | .ok v => if itoa v = s then some v else none | _ => none

theorem parse_append {M : Nat} : ∀ (a b : List UInt8) (acc v : Nat), Lib.parseUintM M acc a = .ok v → Lib.parseUintM M acc (a ++ b) = Lib.parseUintM M v b
  | [], b, acc, v, h => by
    simp only [Lib.parseUintM, Lib.NumEnd.ok.injEq] at h
    subst h
    rfl
  | c :: r, b, acc, v, h => by
    simp only [Lib.parseUintM, List.cons_append] at h ⊢
    split at h
    · rename_i hc
      rw [if_pos hc]
      split at h
      · cases h
      · rename_i h1
        rw [if_neg h1]
        split at h
        · cases h
        · rename_i h2
          rw [if_neg h2]
          exact parse_append r b _ v h
    · cases h
theorem parse_one {M v d : Nat} (hd : d < 10) (h1 : v < 1844674407370955162) (h2 : v * 10 + d ≤ M) : Lib.parseUintM M v [UInt8.ofNat (48 + d)] = .ok (v * 10 + d) := by
  simp only [Lib.parseUintM]
  rw [digit_of hd, if_pos (by omega), if_neg (by omega), if_neg (by omega)]
  simp
theorem parse_dec (M u : Nat) : u ≤ M → u < 18446744073709551616 → Lib.parseUintM M 0 (decDigits u) = .ok u := by
  induction u using Nat.strongRecOn with
  | _ u ih =>
    intro hu h64
    by_cases h : u < 10
    · rw [decDigits, dif_pos h, parse_one h (by omega) (by omega)]
      simp
    · rw [decDigits, dif_neg h, parse_append _ _ _ _ (ih (u / 10) (by omega) (by omega) (by omega)), parse_one (by omega) (by omega) (by omega)]
      congr 1
      omega
theorem parseB_dec {u : Nat} (h : u < 18446744073709551616) : Lib.parseUintB 64 (decDigits u) = .ok u := by
  unfold Lib.parseUintB
  rw [if_neg (dec_ne u)]
  exact parse_dec _ u (by have : (2 : Nat) ^ 64 - 1 = 18446744073709551615 := by decide
                          omega) h
theorem parseInt_itoa {v : Int} (h0 : lowest ≤ v) (h1 : v ≤ highest) : Lib.parseIntB 64 (itoa v) = .ok v := by
  unfold lowest at h0
  unfold highest at h1
  have h63 : (2 : Nat) ^ (64 - 1) = 9223372036854775808 := by decide
  by_cases hv : v < 0
  · rw [itoa_neg hv, Lib.parseIntB_minus, parseB_dec (by omega), h63]
    simp only [Lib.signedC]
    rw [if_neg (by omega)]
    congr 1
    omega
  · have hf := dec_front v.toNat
    rw [itoa_pos hv]
    cases hd : decDigits v.toNat with
    | nil => exact absurd hd (dec_ne _)
    | cons c r =>
      have hb := dec_bytes v.toNat c (by rw [hd]; simp)
      rw [Lib.parseIntB_plain 64 c r (by omega) (by omega), ← hd, parseB_dec (by omega), h63]
      simp only [Lib.signlessC]
      rw [if_neg (by omega)]
      congr 1
      omega
theorem pOf_iff (s : List UInt8) (v : Int) : pOf s = some v ↔ itoa v = s ∧ lowest ≤ v ∧ v ≤ highest := by
  constructor
  · intro h
    unfold pOf at h
    split at h
    · cases h
    · rcases num_end (Lib.parseIntB 64 s) with ⟨u, hp⟩ | hp
      · rw [hp] at h
        simp only at h
        split at h
        · rename_i he
          obtain rfl := Option.some.inj h
          have hb := Lib.parseIntB_bounds hp
          have h63 : ((2 ^ (64 - 1) : Nat) : Int) = 9223372036854775808 := by decide
          rw [h63] at hb
          unfold lowest highest
          exact ⟨he, by omega, by omega⟩
        · cases h
      · exfalso
        generalize Lib.parseIntB 64 s = e at h hp
        cases e
        · exact hp _ rfl
        · cases h
        · cases h
  · rintro ⟨h, h0, h1⟩
    subst h
    unfold pOf
    rw [if_neg (by have := itoa_le h0 h1; omega), parseInt_itoa h0 h1]
    simp
theorem pOf_bad {s : List UInt8} (h : ∀ v, Lib.parseIntB 64 s ≠ .ok v) : pOf s = none := by
  unfold pOf
  split
  · rfl
  · generalize Lib.parseIntB 64 s = e at h
    cases e
    · exact absurd rfl (h _)
    · rfl
    · rfl
theorem pOf_eq (s : List UInt8) : pOf s = refP s := by
  apply Option.ext
  intro v
  rw [pOf_iff, refP_iff]
theorem pOf_itoa {v : Int} (h0 : lowest ≤ v) (h1 : v ≤ highest) : pOf (itoa v) = some v := (pOf_iff _ _).2 ⟨rfl, h0, h1⟩
theorem pOf_bounds {s : List UInt8} {v : Int} (h : pOf s = some v) : lowest ≤ v ∧ v ≤ highest := ((pOf_iff _ _).1 h).2

end Go.Proofs.YtfpocpmcoobjkaaDoor
