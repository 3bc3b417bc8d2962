/-
  Decimal numbers 0.digits times 10^x: what number, which is greater; pure. No condition beyond what each lemma asks.
-/
import Derived.Test.YtemkllnnemadeaaDoorNearMath
namespace Go.Proofs.YtemkllnnemadeaaDoor
open Go.RowKit

/-- A digit's byte, as a number. -/
def dv (c : UInt8) : Nat := c.toNat - 48
def isD12 (c : UInt8) : Prop := 48 ≤ c.toNat ∧ c.toNat ≤ 57
def Dgs (l : List UInt8) : Prop := ∀ c ∈ l, isD12 c
/-- The number that digits tell. -/
def nd : List UInt8 → Nat
  | [] => 0
  | c :: l => dv c * 10 ^ l.length + nd l

theorem nd_append (a b : List UInt8) : nd (a ++ b) = nd a * 10 ^ b.length + nd b := by
  induction a with
  | nil => simp [nd]
  | cons c l ih =>
    simp only [List.cons_append, nd, ih, List.length_append, Nat.pow_add]
    grind
theorem nd_snoc (a : List UInt8) (c : UInt8) : nd (a ++ [c]) = nd a * 10 + dv c := by
  rw [nd_append]; simp [nd]
theorem nd_lt {l : List UInt8} (h : Dgs l) : nd l < 10 ^ l.length := by
  induction l with
  | nil => simp [nd]
  | cons c l ih =>
    have h1 := ih (fun x hx => h x (List.mem_cons_of_mem _ hx))
    have h2 := h c List.mem_cons_self
    simp only [nd, List.length_cons, Nat.pow_succ]
    have h3 : dv c ≤ 9 := by unfold dv; have := h2.1; have := h2.2; omega
    have h4 := Nat.mul_le_mul_right (10 ^ l.length) h3
    generalize 10 ^ l.length = t at *
    generalize dv c * t = u at *
    omega
theorem Dgs.append {a b : List UInt8} (h : Dgs a) (k : Dgs b) : Dgs (a ++ b) := fun x hx => by
  rcases List.mem_append.1 hx with h1 | h1
  · exact h x h1
  · exact k x h1
theorem Dgs.left {a b : List UInt8} (h : Dgs (a ++ b)) : Dgs a := fun x hx => h x (List.mem_append_left _ hx)
theorem Dgs.right {a b : List UInt8} (h : Dgs (a ++ b)) : Dgs b := fun x hx => h x (List.mem_append_right _ hx)

/-- The unit: 2^1074. -/
def uu (n : Nat) : Nat := 2 ^ n
/-- 0.digits times 10^x as a fraction, in units of 2^-1074. -/
def dA (l : List UInt8) (x : Int) : Nat := nd l * 10 ^ (x - (l.length : Int)).toNat * uu 1074
def dB (l : List UInt8) (x : Int) : Nat := 10 ^ ((l.length : Int) - x).toNat
theorem uu_pos (n : Nat) : 0 < uu n := Nat.two_pow_pos n
theorem uu_add (a b : Nat) : uu (a + b) = uu a * uu b := Nat.pow_add 2 a b
theorem uu_step (n : Nat) : uu (n + 1) = 2 * uu n := by unfold uu; rw [Nat.pow_succ, Nat.mul_comm]
theorem ten_pos (n : Nat) : 0 < 10 ^ n := Nat.pow_pos (by decide)
theorem dB_pos (l : List UInt8) (x : Int) : 0 < dB l x := ten_pos _

/-- A nought ahead. -/
theorem dA_ahead (l : List UInt8) (x : Int) : dA (48 :: l) x = dA l (x - 1) ∧ dB (48 :: l) x = dB l (x - 1) := by
  have e0 : nd (48 :: l) = nd l := by simp [nd, dv]
  have e1 : (x - ((48 :: l : List UInt8).length : Int)).toNat = (x - 1 - (l.length : Int)).toNat := by simp only [List.length_cons]; omega
  have e2 : (((48 :: l : List UInt8).length : Int) - x).toNat = ((l.length : Int) - (x - 1)).toNat := by simp only [List.length_cons]; omega
  unfold dA dB
  rw [e0, e1, e2]
  exact ⟨rfl, rfl⟩
/-- A fraction goes on as the same where z noughts stand behind, or x and the length move. -/
theorem cross (n m k : Nat) (U : Nat) {a b c d : Nat} (h : n * 10 ^ k = m) (hk : k + a + d = b + c) : n * 10 ^ b * U * 10 ^ c = m * 10 ^ a * U * 10 ^ d := by
  subst h
  have e : (10 : Nat) ^ k * 10 ^ a * 10 ^ d = 10 ^ b * 10 ^ c := by rw [← Nat.pow_add, ← Nat.pow_add, ← Nat.pow_add, hk]
  calc n * 10 ^ b * U * 10 ^ c = n * U * (10 ^ b * 10 ^ c) := by grind
    _ = n * U * (10 ^ k * 10 ^ a * 10 ^ d) := by rw [e]
    _ = n * 10 ^ k * 10 ^ a * U * 10 ^ d := by grind
/-- A nought behind. -/
theorem dA_behind (l : List UInt8) (x : Int) : dA l x * dB (l ++ [48]) x = dA (l ++ [48]) x * dB l x := by
  have e0 : nd l * 10 ^ 1 = nd (l ++ [48]) := by rw [nd_snoc]; simp [dv]
  unfold dA dB
  refine cross _ _ 1 _ e0 ?_
  simp only [List.length_append, List.length_singleton]
  omega

/-- Digits that neither begin nor end with a nought. -/
structure Trim (l : List UInt8) : Prop where
  dgs : Dgs l
  any : l ≠ []
  front : l.getD 0 0 ≠ 48
  last : l.getLast? ≠ some 48

/-- The last digit, if there is one, is no nought. -/
def Tl (l : List UInt8) : Prop := l.getLast? ≠ some 48
theorem Tl.tail {c : UInt8} {l : List UInt8} (h : Tl (c :: l)) : Tl l := by
  unfold Tl at *
  cases l with
  | nil => simp
  | cons d m => rw [List.getLast?_cons_cons] at h; exact h
theorem nd_pos {l : List UInt8} (hd : Dgs l) (ht : Tl l) (h : l ≠ []) : 0 < nd l := by
  induction l with
  | nil => exact absurd rfl h
  | cons c m ih =>
    cases m with
    | nil =>
      have h1 : c ≠ 48 := by
        intro h2; subst h2; exact ht rfl
      have h2 := hd c List.mem_cons_self
      have h3 : c.toNat ≠ 48 := fun h4 => h1 (UInt8.toNat_inj.1 h4)
      have := h2.1
      simp only [nd, dv, List.length_nil, Nat.pow_zero]
      omega
    | cons d k =>
      have h1 := ih (fun x hx => hd x (List.mem_cons_of_mem _ hx)) ht.tail (by simp)
      simp only [nd] at h1 ⊢
      omega

/-- Texts of digits in the order of texts stand as their numbers do. -/
theorem lex_num : ∀ (a b : List UInt8), Dgs a → Dgs b → Tl a → Tl b → (Op.bytesLess a b = true ↔ nd a * 10 ^ b.length < nd b * 10 ^ a.length) ∧ (a = b ↔ nd a * 10 ^ b.length = nd b * 10 ^ a.length)
  | [], [], _, _, _, _ => by simp [Op.bytesLess, nd]
  | [], d :: b, _, hb, _, tb => by
    have h := nd_pos hb tb (by simp)
    have e : nd ([] : List UInt8) = 0 := rfl
    rw [e]
    simp only [Op.bytesLess, List.length_nil, Nat.pow_zero, Nat.mul_one, Nat.zero_mul]
    exact ⟨by simp [h], ⟨fun h => by simp at h, fun h2 => by omega⟩⟩
  | c :: a, [], ha, _, ta, _ => by
    have h := nd_pos ha ta (by simp)
    have e : nd ([] : List UInt8) = 0 := rfl
    rw [e]
    simp only [Op.bytesLess, List.length_nil, Nat.pow_zero, Nat.mul_one, Nat.zero_mul]
    exact ⟨⟨fun h => by simp at h, fun h2 => by omega⟩, ⟨fun h => by simp at h, fun h2 => by omega⟩⟩
  | c :: a, d :: b, ha, hb, ta, tb => by
    have ha' : Dgs a := fun x hx => ha x (List.mem_cons_of_mem _ hx)
    have hb' : Dgs b := fun x hx => hb x (List.mem_cons_of_mem _ hx)
    obtain ⟨i1, i2⟩ := lex_num a b ha' hb' ta.tail tb.tail
    have hc := ha c List.mem_cons_self
    have hd := hb d List.mem_cons_self
    have la := nd_lt ha'
    have lb := nd_lt hb'
    have pa := ten_pos a.length
    have pb := ten_pos b.length
    have xa : nd a * 10 ^ b.length < 10 ^ a.length * 10 ^ b.length := Nat.mul_lt_mul_of_pos_right la pb
    have xb : nd b * 10 ^ a.length < 10 ^ a.length * 10 ^ b.length := by rw [Nat.mul_comm (10 ^ a.length)]; exact Nat.mul_lt_mul_of_pos_right lb pa
    have eA : nd (c :: a) * 10 ^ (d :: b).length = (dv c * (10 ^ a.length * 10 ^ b.length) + nd a * 10 ^ b.length) * 10 := by
      simp only [nd, List.length_cons, Nat.pow_succ]; grind
    have eB : nd (d :: b) * 10 ^ (c :: a).length = (dv d * (10 ^ a.length * 10 ^ b.length) + nd b * 10 ^ a.length) * 10 := by
      simp only [nd, List.length_cons, Nat.pow_succ]; grind
    rw [eA, eB]
    generalize nd a * 10 ^ b.length = p at *
    generalize nd b * 10 ^ a.length = q at *
    generalize 10 ^ a.length * 10 ^ b.length = t at *
    have hcv : c.toNat = dv c + 48 := by unfold dv; have := hc.1; omega
    have hdv : d.toNat = dv d + 48 := by unfold dv; have := hd.1; omega
    have hlt : (c < d) ↔ dv c < dv d := by rw [UInt8.lt_iff_toNat_lt]; omega
    have heq : (c = d) ↔ dv c = dv d := ⟨fun h => by rw [h], fun h => UInt8.toNat_inj.1 (by omega)⟩
    have hless : Op.bytesLess (c :: a) (d :: b) = true ↔ (dv c < dv d ∨ (dv c = dv d ∧ Op.bytesLess a b = true)) := by
      simp only [Op.bytesLess, Bool.or_eq_true, decide_eq_true_eq, Bool.and_eq_true, beq_iff_eq]
      rw [hlt, heq]
    rw [hless, i1]
    have hcons : (c :: a = d :: b) ↔ (dv c = dv d ∧ p = q) := by
      rw [List.cons.injEq, heq, i2]
    rw [hcons]
    generalize dv c = u at *
    generalize dv d = v at *
    rcases Nat.lt_trichotomy u v with h | h | h
    · have h2 : (u + 1) * t ≤ v * t := Nat.mul_le_mul_right _ h
      rw [Nat.add_mul, Nat.one_mul] at h2
      generalize u * t = ut at *
      generalize v * t = vt at *
      omega
    · subst h
      generalize u * t = ut at *
      omega
    · have h2 : (v + 1) * t ≤ u * t := Nat.mul_le_mul_right _ h
      rw [Nat.add_mul, Nat.one_mul] at h2
      generalize u * t = ut at *
      generalize v * t = vt at *
      omega

/-- What the document's CmpDec answers. -/
def cmpD (a : List UInt8) (x : Int) (b : List UInt8) (y : Int) : Int := if x < y ∨ (x = y ∧ Op.bytesLess a b = true) then -1 else if x = y ∧ a = b then 0 else 1

theorem nd_ge {l : List UInt8} (hd : Dgs l) (hs : l ≠ []) (h : l.getD 0 0 ≠ 48) : 10 ^ (l.length - 1) ≤ nd l := by
  cases l with
  | nil => exact absurd rfl hs
  | cons c m =>
    have h1 : c ≠ 48 := by simpa using h
    have h2 := hd c List.mem_cons_self
    have h3 : c.toNat ≠ 48 := fun h4 => h1 (UInt8.toNat_inj.1 h4)
    have h4 : 1 ≤ dv c := by unfold dv; have := h2.1; omega
    simp only [nd, List.length_cons, Nat.add_sub_cancel]
    have := Nat.mul_le_mul_right (10 ^ m.length) h4
    omega

/-- Smaller by the power alone. -/
theorem dA_far {a b : List UInt8} {x y : Int} (ha : Dgs a) (hb : Trim b) (h : x < y) : dA a x * dB b y < dA b y * dB a x := by
  have h1 := nd_lt ha
  have h2 := nd_ge hb.dgs hb.any hb.front
  have hl : 1 ≤ b.length := by have := List.length_pos_iff.2 hb.any; omega
  unfold dA dB
  have s1 : nd a * 10 ^ (x - (a.length : Int)).toNat * uu 1074 * 10 ^ ((b.length : Int) - y).toNat < 10 ^ a.length * 10 ^ (x - (a.length : Int)).toNat * uu 1074 * 10 ^ ((b.length : Int) - y).toNat :=
    Nat.mul_lt_mul_of_pos_right (Nat.mul_lt_mul_of_pos_right (Nat.mul_lt_mul_of_pos_right h1 (ten_pos _)) (uu_pos _)) (ten_pos _)
  have s2 : 10 ^ (b.length - 1) * 10 ^ (y - (b.length : Int)).toNat * uu 1074 * 10 ^ ((a.length : Int) - x).toNat ≤ nd b * 10 ^ (y - (b.length : Int)).toNat * uu 1074 * 10 ^ ((a.length : Int) - x).toNat :=
    Nat.mul_le_mul_right _ (Nat.mul_le_mul_right _ (Nat.mul_le_mul_right _ h2))
  have s3 : 10 ^ a.length * 10 ^ (x - (a.length : Int)).toNat * uu 1074 * 10 ^ ((b.length : Int) - y).toNat ≤ 10 ^ (b.length - 1) * 10 ^ (y - (b.length : Int)).toNat * uu 1074 * 10 ^ ((a.length : Int) - x).toNat := by
    have e1 : 10 ^ a.length * 10 ^ (x - (a.length : Int)).toNat * uu 1074 * 10 ^ ((b.length : Int) - y).toNat = 10 ^ (a.length + (x - (a.length : Int)).toNat + ((b.length : Int) - y).toNat) * uu 1074 := by
      rw [Nat.pow_add, Nat.pow_add]; exact Nat.mul_right_comm _ _ _
    have e2 : 10 ^ (b.length - 1) * 10 ^ (y - (b.length : Int)).toNat * uu 1074 * 10 ^ ((a.length : Int) - x).toNat = 10 ^ (b.length - 1 + (y - (b.length : Int)).toNat + ((a.length : Int) - x).toNat) * uu 1074 := by
      rw [Nat.pow_add, Nat.pow_add]; exact Nat.mul_right_comm _ _ _
    rw [e1, e2]
    exact Nat.mul_le_mul_right _ (Nat.pow_le_pow_right (by decide) (by omega))
  omega

/-- With one power the numbers stand as the fractions of their digits. -/
theorem dA_alike (a b : List UInt8) (x : Int) : ∃ c : Nat, 0 < c ∧ dA a x * dB b x * 10 ^ (a.length + b.length) = nd a * 10 ^ b.length * c ∧ dA b x * dB a x * 10 ^ (a.length + b.length) = nd b * 10 ^ a.length * c := by
  refine ⟨10 ^ (a.length + (x - (a.length : Int)).toNat + ((b.length : Int) - x).toNat) * uu 1074, Nat.mul_pos (ten_pos _) (uu_pos _), ?_, ?_⟩
  · unfold dA dB
    simp only [Nat.pow_add]
    grind
  · have e : a.length + (x - (a.length : Int)).toNat + ((b.length : Int) - x).toNat = b.length + (x - (b.length : Int)).toNat + ((a.length : Int) - x).toNat := by omega
    rw [e]
    unfold dA dB
    simp only [Nat.pow_add]
    grind

theorem cmpD_num {a b : List UInt8} {x y : Int} (ha : Trim a) (hb : Trim b) :
    (cmpD a x b y = -1 ∧ dA a x * dB b y < dA b y * dB a x) ∨ (cmpD a x b y = 0 ∧ dA a x * dB b y = dA b y * dB a x) ∨ (cmpD a x b y = 1 ∧ dA b y * dB a x < dA a x * dB b y) := by
  unfold cmpD
  by_cases h1 : x < y
  · exact .inl ⟨by rw [if_pos (.inl h1)], dA_far ha.dgs hb h1⟩
  by_cases h2 : y < x
  · exact .inr (.inr ⟨by rw [if_neg (by omega), if_neg (by omega)], dA_far hb.dgs ha h2⟩)
  obtain rfl : x = y := by omega
  obtain ⟨l1, l2⟩ := lex_num a b ha.dgs hb.dgs ha.last hb.last
  obtain ⟨c, hc, e1, e2⟩ := dA_alike a b x
  have pt := ten_pos (a.length + b.length)
  have k1 : nd a * 10 ^ b.length < nd b * 10 ^ a.length → dA a x * dB b x < dA b x * dB a x := fun h => by
    have := Nat.mul_lt_mul_of_pos_right h hc
    rw [← e1, ← e2] at this
    exact Nat.lt_of_mul_lt_mul_right this
  have k2 : nd a * 10 ^ b.length = nd b * 10 ^ a.length → dA a x * dB b x = dA b x * dB a x := fun h => by
    have : dA a x * dB b x * 10 ^ (a.length + b.length) = dA b x * dB a x * 10 ^ (a.length + b.length) := by rw [e1, e2, h]
    exact Nat.eq_of_mul_eq_mul_right pt this
  have k3 : nd b * 10 ^ a.length < nd a * 10 ^ b.length → dA b x * dB a x < dA a x * dB b x := fun h => by
    have := Nat.mul_lt_mul_of_pos_right h hc
    rw [← e1, ← e2] at this
    exact Nat.lt_of_mul_lt_mul_right this
  by_cases h3 : Op.bytesLess a b = true
  · exact .inl ⟨by rw [if_pos (.inr ⟨rfl, h3⟩)], k1 (l1.1 h3)⟩
  · by_cases h4 : a = b
    · exact .inr (.inl ⟨by rw [if_neg (fun h => h.elim h1 (fun k => h3 k.2)), if_pos ⟨rfl, h4⟩], k2 (l2.1 h4)⟩)
    · refine .inr (.inr ⟨by rw [if_neg (fun h => h.elim h1 (fun k => h3 k.2)), if_neg (fun h => h4 h.2)], k3 ?_⟩)
      have n1 : ¬ nd a * 10 ^ b.length < nd b * 10 ^ a.length := fun h => h3 (l1.2 h)
      have n2 : ¬ nd a * 10 ^ b.length = nd b * 10 ^ a.length := fun h => h4 (l2.2 h)
      omega

/-- What Exact tells: digits whose number is M, in units of 2^-1075. -/
structure Fine (l : List UInt8) (x : Int) (M : Nat) : Prop where
  trim : Trim l
  num : 2 * dA l x = M * dB l x

/-- M / 2 held against other digits' number. -/
theorem cmpD_fine {d a : List UInt8} {y x : Int} {M : Nat} (h : Fine d y M) (ha : Trim a) :
    (cmpD d y a x = -1 ∧ M * dB a x < 2 * dA a x) ∨ (cmpD d y a x = 0 ∧ M * dB a x = 2 * dA a x) ∨ (cmpD d y a x = 1 ∧ 2 * dA a x < M * dB a x) := by
  have pd := dB_pos d y
  have key : 2 * (dA d y * dB a x) = M * dB a x * dB d y := by
    rw [← Nat.mul_assoc, h.num]; exact Nat.mul_right_comm _ _ _
  have key2 : 2 * (dA a x * dB d y) = 2 * dA a x * dB d y := (Nat.mul_assoc _ _ _).symm
  rcases cmpD_num (x := y) (y := x) h.trim ha with ⟨h1, h2⟩ | ⟨h1, h2⟩ | ⟨h1, h2⟩
  · refine .inl ⟨h1, Nat.lt_of_mul_lt_mul_right (a := dB d y) ?_⟩
    rw [← key, ← key2]
    omega
  · refine .inr (.inl ⟨h1, Nat.eq_of_mul_eq_mul_right pd ?_⟩)
    rw [← key, ← key2, h2]
  · refine .inr (.inr ⟨h1, Nat.lt_of_mul_lt_mul_right (a := dB d y) ?_⟩)
    rw [← key, ← key2]
    omega
theorem cmpD_fine' {d a : List UInt8} {y x : Int} {M : Nat} (h : Fine d y M) (ha : Trim a) :
    (cmpD a x d y = -1 ∧ 2 * dA a x < M * dB a x) ∨ (cmpD a x d y = 0 ∧ M * dB a x = 2 * dA a x) ∨ (cmpD a x d y = 1 ∧ M * dB a x < 2 * dA a x) := by
  have pd := dB_pos d y
  have key : 2 * (dA d y * dB a x) = M * dB a x * dB d y := by
    rw [← Nat.mul_assoc, h.num]; exact Nat.mul_right_comm _ _ _
  have key2 : 2 * (dA a x * dB d y) = 2 * dA a x * dB d y := (Nat.mul_assoc _ _ _).symm
  rcases cmpD_num (x := x) (y := y) ha h.trim with ⟨h1, h2⟩ | ⟨h1, h2⟩ | ⟨h1, h2⟩
  · refine .inl ⟨h1, Nat.lt_of_mul_lt_mul_right (a := dB d y) ?_⟩
    rw [← key, ← key2]
    omega
  · refine .inr (.inl ⟨h1, Nat.eq_of_mul_eq_mul_right pd ?_⟩)
    rw [← key, ← key2, h2]
  · refine .inr (.inr ⟨h1, Nat.lt_of_mul_lt_mul_right (a := dB d y) ?_⟩)
    rw [← key, ← key2]
    omega

end Go.Proofs.YtemkllnnemadeaaDoor
