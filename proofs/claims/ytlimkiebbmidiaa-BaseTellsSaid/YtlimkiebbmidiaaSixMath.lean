/-
  Bytes as signs of six bits, as plain mathematics; no program, no condition beyond what each lemma asks.
-/
import Derived.Test.YtlimkiebbmidiaaBase
namespace Go.Proofs.Ytlimkiebbmidiaa

/-- The signs, each at the place of its value. -/
def signs : List UInt8 := [65, 66, 67, 68, 69, 70, 71, 72, 73, 74, 75, 76, 77, 78, 79, 80, 81, 82, 83, 84, 85, 86, 87, 88, 89, 90, 97, 98, 99, 100, 101, 102, 103, 104, 105, 106, 107, 108, 109, 110, 111, 112, 113, 114, 115, 116, 117, 118, 119, 120, 121, 122, 48, 49, 50, 51, 52, 53, 54, 55, 56, 57, 43, 47]
/-- The sign of a number below 64. -/
def sgn (n : Nat) : UInt8 := signs.getD n 0
/-- A sign's number; 64 of what is none. -/
def sv (c : UInt8) : Nat :=
  if 65 ≤ c.toNat ∧ c.toNat ≤ 90 then c.toNat - 65
  else if 97 ≤ c.toNat ∧ c.toNat ≤ 122 then c.toNat - 71
  else if 48 ≤ c.toNat ∧ c.toNat ≤ 57 then c.toNat + 4
  else if c.toNat = 43 then 62
  else if c.toNat = 47 then 63 else 64
theorem sv_sgn (n : Nat) (h : n < 64) : sv (sgn n) = n := by
  have : ∀ n, n < 64 → sv (sgn n) = n := by decide
  exact this n h
theorem sgn_fill (n : Nat) (h : n < 64) : sgn n ≠ 61 := by
  have : ∀ n, n < 64 → sgn n ≠ 61 := by decide
  exact this n h
theorem sgn_sv (c : UInt8) (h : sv c < 64) : sgn (sv c) = c := by
  have : ∀ n, n < 256 → sv (UInt8.ofNat n) < 64 → sgn (sv (UInt8.ofNat n)) = UInt8.ofNat n := by decide +kernel
  have h' := this c.toNat c.toNat_lt
  rw [UInt8.ofNat_toNat] at h'
  exact h' h
theorem sv_le (c : UInt8) : sv c ≤ 64 := by
  have hc : c.toNat < 256 := c.toNat_lt
  unfold sv
  (repeat' split) <;> omega
theorem sv_fill : sv 61 = 64 := by decide

/-- The text of bytes. -/
def b64 : List UInt8 → List UInt8
  | [] => []
  | [a] => [sgn (a.toNat / 4), sgn (a.toNat % 4 * 16), 61, 61]
  | [a, b] => [sgn (a.toNat / 4), sgn (a.toNat % 4 * 16 + b.toNat / 16), sgn (b.toNat % 16 * 4), 61]
  | a :: b :: c :: r => sgn (a.toNat / 4) :: sgn (a.toNat % 4 * 16 + b.toNat / 16) :: sgn (b.toNat % 16 * 4 + c.toNat / 64) :: sgn (c.toNat % 64) :: b64 r
/-- The three bytes of four signs' numbers. -/
def by1 (a b : Nat) : UInt8 := UInt8.ofNat (a * 4 + b / 16)
def by2 (b c : Nat) : UInt8 := UInt8.ofNat (b % 16 * 16 + c / 4)
def by3 (c d : Nat) : UInt8 := UInt8.ofNat (c % 4 * 64 + d)
/-- The bytes whose text this is. -/
def unb : List UInt8 → Option (List UInt8)
  | [] => some []
  | a :: b :: c :: d :: r =>
    if sv a < 64 ∧ sv b < 64 then
      if c = 61 then (if d = 61 ∧ r = [] ∧ sv b % 16 = 0 then some [by1 (sv a) (sv b)] else none)
      else if sv c < 64 then
        if d = 61 then (if r = [] ∧ sv c % 4 = 0 then some [by1 (sv a) (sv b), by2 (sv b) (sv c)] else none)
        else if sv d < 64 then (unb r).map ([by1 (sv a) (sv b), by2 (sv b) (sv c), by3 (sv c) (sv d)] ++ ·) else none
      else none
    else none
  | _ => none

theorem b64_length : (l : List UInt8) → (b64 l).length = (l.length + 2) / 3 * 4
  | [] => rfl
  | [_] => by simp [b64]
  | [_, _] => by simp [b64]
  | a :: b :: c :: r => by
    have := b64_length r
    simp only [b64, List.length_cons, this]
    omega
theorem b64_append : (a b : List UInt8) → a.length % 3 = 0 → b64 (a ++ b) = b64 a ++ b64 b
  | [], _, _ => rfl
  | [_], _, h => by simp at h
  | [_, _], _, h => by simp at h
  | x :: y :: z :: r, b, h => by
    have := b64_append r b (by simp only [List.length_cons] at h; omega)
    simp [b64, this]
theorem by1_of (a b : UInt8) : by1 (a.toNat / 4) (a.toNat % 4 * 16 + b.toNat / 16) = a := by
  have ha : a.toNat < 256 := a.toNat_lt
  have hb : b.toNat < 256 := b.toNat_lt
  rw [by1, show a.toNat / 4 * 4 + (a.toNat % 4 * 16 + b.toNat / 16) / 16 = a.toNat by omega]
  exact UInt8.ofNat_toNat
theorem by1_of' (a : UInt8) : by1 (a.toNat / 4) (a.toNat % 4 * 16) = a := by
  rw [by1, show a.toNat / 4 * 4 + (a.toNat % 4 * 16) / 16 = a.toNat by omega]
  exact UInt8.ofNat_toNat
theorem by2_of (a b c : UInt8) : by2 (a.toNat % 4 * 16 + b.toNat / 16) (b.toNat % 16 * 4 + c.toNat / 64) = b := by
  have ha : a.toNat < 256 := a.toNat_lt
  have hb : b.toNat < 256 := b.toNat_lt
  have hc : c.toNat < 256 := c.toNat_lt
  rw [by2, show (a.toNat % 4 * 16 + b.toNat / 16) % 16 * 16 + (b.toNat % 16 * 4 + c.toNat / 64) / 4 = b.toNat by omega]
  exact UInt8.ofNat_toNat
theorem by2_of' (a b : UInt8) : by2 (a.toNat % 4 * 16 + b.toNat / 16) (b.toNat % 16 * 4) = b := by
  have ha : a.toNat < 256 := a.toNat_lt
  have hb : b.toNat < 256 := b.toNat_lt
  rw [by2, show (a.toNat % 4 * 16 + b.toNat / 16) % 16 * 16 + (b.toNat % 16 * 4) / 4 = b.toNat by omega]
  exact UInt8.ofNat_toNat
theorem by3_of (b c : UInt8) : by3 (b.toNat % 16 * 4 + c.toNat / 64) (c.toNat % 64) = c := by
  have hb : b.toNat < 256 := b.toNat_lt
  have hc : c.toNat < 256 := c.toNat_lt
  rw [by3, show (b.toNat % 16 * 4 + c.toNat / 64) % 4 * 64 + c.toNat % 64 = c.toNat by omega]
  exact UInt8.ofNat_toNat
theorem unb_b64 : (l : List UInt8) → unb (b64 l) = some l
  | [] => rfl
  | [a] => by
    have ha : a.toNat < 256 := a.toNat_lt
    rw [b64, unb, sv_sgn _ (by omega), sv_sgn _ (by omega), if_pos ⟨by omega, by omega⟩, if_pos rfl, if_pos ⟨rfl, rfl, by omega⟩, by1_of']
  | [a, b] => by
    have ha : a.toNat < 256 := a.toNat_lt
    have hb : b.toNat < 256 := b.toNat_lt
    rw [b64, unb, sv_sgn _ (by omega), sv_sgn _ (by omega), sv_sgn _ (by omega), if_pos ⟨by omega, by omega⟩, if_neg (sgn_fill _ (by omega)), if_pos (by omega), if_pos rfl, if_pos ⟨rfl, by omega⟩, by1_of, by2_of']
  | a :: b :: c :: r => by
    have ha : a.toNat < 256 := a.toNat_lt
    have hb : b.toNat < 256 := b.toNat_lt
    have hc : c.toNat < 256 := c.toNat_lt
    simp only [b64, unb]
    rw [sv_sgn _ (by omega), sv_sgn _ (by omega), sv_sgn _ (by omega), sv_sgn _ (by omega), if_pos ⟨by omega, by omega⟩, if_neg (sgn_fill _ (by omega)), if_pos (by omega), if_neg (sgn_fill _ (by omega)), if_pos (by omega), by1_of, by2_of, by3_of, unb_b64 r]
    rfl
theorem by1_val {a b : Nat} (ha : a < 64) (hb : b < 64) : (by1 a b).toNat = a * 4 + b / 16 := by rw [by1, UInt8.toNat_ofNat', Nat.mod_eq_of_lt (by omega)]
theorem by2_val {a b : Nat} (_ : a < 64) (hb : b < 64) : (by2 a b).toNat = a % 16 * 16 + b / 4 := by rw [by2, UInt8.toNat_ofNat', Nat.mod_eq_of_lt (by omega)]
theorem by3_val {a b : Nat} (_ : a < 64) (hb : b < 64) : (by3 a b).toNat = a % 4 * 64 + b := by rw [by3, UInt8.toNat_ofNat', Nat.mod_eq_of_lt (by omega)]
theorem sgn_is {c : UInt8} {n : Nat} (h : sv c < 64) (e : n = sv c) : sgn n = c := by rw [e]; exact sgn_sv c h
/-- What is read has that text. -/
theorem b64_unb : (s l : List UInt8) → unb s = some l → b64 l = s
  | [], l, h => by
    simp only [unb, Option.some.injEq] at h
    subst h
    rfl
  | [_], l, h => by simp [unb] at h
  | [_, _], l, h => by simp [unb] at h
  | [_, _, _], l, h => by simp [unb] at h
  | a :: b :: c :: d :: r, l, h => by
    rw [unb] at h
    by_cases h1 : sv a < 64 ∧ sv b < 64
    · rw [if_pos h1] at h
      obtain ⟨ha, hb⟩ := h1
      by_cases h2 : c = 61
      · rw [if_pos h2] at h
        by_cases h3 : d = 61 ∧ r = [] ∧ sv b % 16 = 0
        · rw [if_pos h3] at h
          injection h with h
          obtain ⟨rfl, rfl, h4⟩ := h3
          subst h h2
          simp only [b64]
          rw [by1_val ha hb, sgn_is ha (by omega), sgn_is hb (by omega)]
        · rw [if_neg h3] at h; cases h
      · rw [if_neg h2] at h
        by_cases hc : sv c < 64
        · rw [if_pos hc] at h
          by_cases h3 : d = 61
          · rw [if_pos h3] at h
            by_cases h4 : r = [] ∧ sv c % 4 = 0
            · rw [if_pos h4] at h
              injection h with h
              obtain ⟨rfl, h4⟩ := h4
              subst h h3
              simp only [b64]
              rw [by1_val ha hb, by2_val hb hc, sgn_is ha (by omega), sgn_is hb (by omega), sgn_is hc (by omega)]
            · rw [if_neg h4] at h; cases h
          · rw [if_neg h3] at h
            by_cases hd : sv d < 64
            · rw [if_pos hd] at h
              cases hr : unb r with
              | none => rw [hr] at h; cases h
              | some m =>
                rw [hr] at h
                injection h with h
                subst h
                have := b64_unb r m hr
                simp only [List.cons_append, List.nil_append, b64, this]
                rw [by1_val ha hb, by2_val hb hc, by3_val hc hd, sgn_is ha (by omega), sgn_is hb (by omega), sgn_is hc (by omega), sgn_is hd (by omega)]
            · rw [if_neg hd] at h; cases h
        · rw [if_neg hc] at h; cases h
    · rw [if_neg h1] at h; cases h
theorem b64_inj {a b : List UInt8} (h : b64 a = b64 b) : a = b := by
  have h1 := unb_b64 a
  rw [h, unb_b64 b] at h1
  injection h1 with h1
  exact h1.symm
theorem unb_length (s l : List UInt8) (h : unb s = some l) : s.length % 4 = 0 := by
  rw [← b64_unb s l h, b64_length]
  omega
theorem unb_odd (s : List UInt8) (h : s.length % 4 ≠ 0) : unb s = none := by
  cases hu : unb s with
  | none => rfl
  | some l => exact absurd (unb_length s l hu) h
/-- A sign, or what fills. -/
def Fit (c : UInt8) : Prop := sv c < 64 ∨ c = 61
theorem sgn_fit (n : Nat) (h : n < 64) : Fit (sgn n) := .inl (by rw [sv_sgn n h]; exact h)
theorem b64_fit : (l : List UInt8) → ∀ c ∈ b64 l, Fit c
  | [] => by simp [b64]
  | [a] => by
    have ha : a.toNat < 256 := a.toNat_lt
    intro c hc
    simp only [b64, List.mem_cons, List.not_mem_nil, or_false] at hc
    rcases hc with rfl | rfl | rfl | rfl
    · exact sgn_fit _ (by omega)
    · exact sgn_fit _ (by omega)
    · exact .inr rfl
    · exact .inr rfl
  | [a, b] => by
    have ha : a.toNat < 256 := a.toNat_lt
    have hb : b.toNat < 256 := b.toNat_lt
    intro c hc
    simp only [b64, List.mem_cons, List.not_mem_nil, or_false] at hc
    rcases hc with rfl | rfl | rfl | rfl
    · exact sgn_fit _ (by omega)
    · exact sgn_fit _ (by omega)
    · exact sgn_fit _ (by omega)
    · exact .inr rfl
  | a :: b :: x :: r => by
    have ha : a.toNat < 256 := a.toNat_lt
    have hb : b.toNat < 256 := b.toNat_lt
    have hx : x.toNat < 256 := x.toNat_lt
    have ih := b64_fit r
    intro c hc
    simp only [b64, List.mem_cons] at hc
    rcases hc with rfl | rfl | rfl | rfl | hc
    · exact sgn_fit _ (by omega)
    · exact sgn_fit _ (by omega)
    · exact sgn_fit _ (by omega)
    · exact sgn_fit _ (by omega)
    · exact ih c hc
theorem unb_none (s : List UInt8) (h : ∃ c ∈ s, ¬ Fit c) : unb s = none := by
  cases hu : unb s with
  | none => rfl
  | some l =>
    obtain ⟨c, hc, hn⟩ := h
    rw [← b64_unb s l hu] at hc
    exact absurd (b64_fit l c hc) hn

/-- A sign's number; 0 of what is none. -/
def sz (c : UInt8) : Nat := if sv c < 64 then sv c else 0
theorem sz_lt (c : UInt8) : sz c < 64 := by unfold sz; split <;> omega
/-- Bytes by fours, whatever the signs. -/
def dec : List UInt8 → List UInt8
  | a :: b :: c :: d :: r => by1 (sz a) (sz b) :: by2 (sz b) (sz c) :: by3 (sz c) (sz d) :: dec r
  | _ => []
theorem dec_length : (s : List UInt8) → (dec s).length = s.length / 4 * 3
  | [] => rfl
  | [_] => by simp [dec]
  | [_, _] => by simp [dec]
  | [_, _, _] => by simp [dec]
  | a :: b :: c :: d :: r => by
    have := dec_length r
    simp only [dec, List.length_cons, this]
    omega
/-- How many of the last two fill. -/
def fills (s : List UInt8) : Nat :=
  if s.length < 4 then 0
  else if s.getD (s.length - 1) 0 = 61 then (if s.getD (s.length - 2) 0 = 61 then 2 else 1) else 0
theorem sz_sgn (n : Nat) (h : n < 64) : sz (sgn n) = n := by unfold sz; rw [sv_sgn n h, if_pos h]
theorem fills_cons (a b c d : UInt8) (r : List UInt8) (h : 4 ≤ r.length) : fills (a :: b :: c :: d :: r) = fills r := by
  unfold fills
  rw [if_neg (show ¬ (a :: b :: c :: d :: r).length < 4 by simp), if_neg (show ¬ r.length < 4 by omega)]
  have e1 : (a :: b :: c :: d :: r).getD ((a :: b :: c :: d :: r).length - 1) 0 = r.getD (r.length - 1) 0 := by
    simp only [List.length_cons, List.getD]
    rw [show r.length + 1 + 1 + 1 + 1 - 1 = r.length - 1 + 1 + 1 + 1 + 1 by omega]
    simp only [List.getElem?_cons_succ]
  have e2 : (a :: b :: c :: d :: r).getD ((a :: b :: c :: d :: r).length - 2) 0 = r.getD (r.length - 2) 0 := by
    simp only [List.length_cons, List.getD]
    rw [show r.length + 1 + 1 + 1 + 1 - 2 = r.length - 2 + 1 + 1 + 1 + 1 by omega]
    simp only [List.getElem?_cons_succ]
  rw [e1, e2]
theorem fills_le (s : List UInt8) : fills s ≤ 2 := by unfold fills; (repeat' split) <;> omega
/-- Of a text of bytes: the bytes by fours, less what was filled, are the bytes. -/
theorem dec_b64 : (l : List UInt8) → (dec (b64 l)).take ((dec (b64 l)).length - fills (b64 l)) = l
  | [] => rfl
  | [a] => by
    have ha : a.toNat < 256 := a.toNat_lt
    have e : fills (b64 [a]) = 2 := by simp [fills, b64]
    rw [e, dec_length, b64_length]
    simp only [b64, dec]
    rw [sz_sgn _ (by omega), sz_sgn _ (by omega), by1_of']
    simp
  | [a, b] => by
    have ha : a.toNat < 256 := a.toNat_lt
    have hb : b.toNat < 256 := b.toNat_lt
    have e : fills (b64 [a, b]) = 1 := by
      simp only [fills, b64, List.length_cons, List.length_nil, List.getD]
      simp [sgn_fill (b.toNat % 16 * 4) (by omega)]
    rw [e, dec_length, b64_length]
    simp only [b64, dec]
    rw [sz_sgn _ (by omega), sz_sgn _ (by omega), sz_sgn _ (by omega), by1_of, by2_of']
    simp
  | a :: b :: c :: r => by
    have ha : a.toNat < 256 := a.toNat_lt
    have hb : b.toNat < 256 := b.toNat_lt
    have hc : c.toNat < 256 := c.toNat_lt
    have ih := dec_b64 r
    have e : fills (b64 (a :: b :: c :: r)) = fills (b64 r) := by
      cases r with
      | nil =>
        simp only [fills, b64, List.length_cons, List.length_nil, List.getD]
        simp [sgn_fill (c.toNat % 64) (by omega)]
      | cons x t =>
        rw [b64, fills_cons]
        rw [b64_length]
        simp only [List.length_cons]
        omega
    have hle : fills (b64 r) ≤ (dec (b64 r)).length := by
      rw [dec_length]
      unfold fills
      (repeat' split) <;> omega
    rw [e]
    simp only [b64, dec]
    rw [sz_sgn _ (by omega), sz_sgn _ (by omega), sz_sgn _ (by omega), sz_sgn _ (by omega), by1_of, by2_of, by3_of]
    simp only [List.length_cons]
    rw [show (dec (b64 r)).length + 1 + 1 + 1 - fills (b64 r) = (dec (b64 r)).length - fills (b64 r) + 1 + 1 + 1 by omega]
    simp only [List.take_succ_cons]
    rw [ih]
/-- The bytes by fours, less what was filled: they are read just if their text is that one. -/
def strip (s : List UInt8) : List UInt8 := (dec s).take ((dec s).length - fills s)
theorem unb_strip (s : List UInt8) : unb s = if b64 (strip s) = s then some (strip s) else none := by
  by_cases h : b64 (strip s) = s
  · rw [if_pos h]
    have := unb_b64 (strip s)
    rw [h] at this
    exact this
  · rw [if_neg h]
    cases hu : unb s with
    | none => rfl
    | some m =>
      have hm := b64_unb s m hu
      exfalso
      apply h
      have hs : strip s = m := by
        rw [← hm]
        exact dec_b64 m
      rw [hs, hm]

end Go.Proofs.Ytlimkiebbmidiaa
