/-
  The document's Join: the pattern of a number, if there is one, by halving and doubling. No condition but the arguments' own bounds.
  What the document's Read answers: the nearest pattern, found by halving. No condition but the text's length.
  What the document's ParseNear answers: by its Lexeme and its Read. No condition but the text's length and what Lexeme answers.
  What the laws of stage 12 ask of decimals and their nearest patterns: pure. No condition beyond what each lemma asks.
  What Read and Parse of stage 12 may answer, and that this is one answer alone: pure. No condition beyond what each lemma asks.
  The nearest pattern by a quotient's whole part and what is left; the quotient's unit by its lengths: pure. No condition beyond what each lemma asks.
-/
import Derived.Test.YtojpfmlmalmlcaaGreatDoorTimes12
import Derived.Test.YtojpfmlmalmlcaaGreatDoorDecMath
import Derived.Test.YtojpfmlmalmlcaaGreatDoorWholeMath
import Derived.Test.YtojpfmlmalmlcaaGreatDoorBase
import Derived.Test.YtojpfmlmalmlcaaGreatDoorExact12
import Derived.Deep.Cut
import Derived.Lib.Strings
import Derived.Deep.DeepCutAuto
import Derived.Lib.TrimByte
namespace Go.Proofs.YtojpfmlmalmlcaaGreatDoor
open Go.RowKit
/-- The pattern of an answer; 0 where there is none. -/
def jPat (s : Bool) : Option Nat → Nat
  | some r => pat s r
  | none => 0
/-- Halving, as the walk spells it. -/
theorem halves (u : Nat) (hu : 2 * u < 18446744073709551616) : ((2 * u : Nat) : Int).tmod 2 = 0 ∧ ((2 * u : Nat) : Int) % 2 = 0 ∧ ((2 * u : Nat) : Int).tdiv 2 = (u : Int) ∧ ((2 * u : Nat) : Int) / 2 = (u : Int) ∧ IntKind.u64.wrap (u : Int) = (u : Int) := by
  refine ⟨by rw [Int.tmod_eq_emod_of_nonneg (by omega)]; omega, by omega, by rw [Int.tdiv_eq_ediv_of_nonneg (by omega)]; omega, by omega, by rw [IntKind.wrap_u64]; omega⟩
theorem odds (v : Nat) (h : v % 2 = 1) : (v : Int).tmod 2 = 1 ∧ (v : Int) % 2 = 1 := ⟨by rw [Int.tmod_eq_emod_of_nonneg (by omega)]; omega, by omega⟩
/-- The sign as the document lays it. -/
def topS (s : Bool) : Int := if s then 9223372036854775808 else 0
theorem no_facts {m o t l : Nat} {e : Int} (ho : OddOf m o t l) (h : e < uOf l e) : 9007199254740992 ≤ o ∨ (o < 9007199254740992 ∧ e < -1074) := by
  rcases Nat.lt_or_ge o 9007199254740992 with h1 | h1
  · right
    refine ⟨h1, ?_⟩
    have hl : l ≤ 53 := by
      apply Nat.le_of_not_lt
      intro hlt
      have a1 : 2 ^ 53 ≤ 2 ^ (l - 1) := Nat.pow_le_pow_right (by decide) (by omega)
      have := ho.lo
      omega
    unfold uOf at h
    split at h <;> omega
  · exact .inl h1
theorem yes_facts {m o t l : Nat} {e : Int} (ho : OddOf m o t l) (h : ¬ e < uOf l e) : o < 9007199254740992 ∧ -1074 ≤ e ∧ -1074 ≤ uOf l e ∧
    ∃ J : Nat, (J : Int) = e - uOf l e ∧ (∀ j, j < J → o * 2 ^ j < 4503599627370496) ∧ 0 < o * 2 ^ J ∧ o * 2 ^ J < 9007199254740992 ∧ (4503599627370496 ≤ o * 2 ^ J ∨ (o * 2 ^ J < 4503599627370496 ∧ uOf l e = -1074)) := by
  have hu : -1074 ≤ uOf l e := by unfold uOf; split <;> omega
  obtain ⟨J, hJ⟩ : ∃ J : Nat, (J : Int) = e - uOf l e := ⟨(e - uOf l e).toNat, by omega⟩
  have hlj : l + J ≤ 53 := by unfold uOf at hJ; split at hJ <;> omega
  have hi := ho.hi
  have lo := ho.lo
  have hpos := ho.pos
  have h0 : 0 < o := Nat.lt_of_lt_of_le (Nat.two_pow_pos _) lo
  have up : ∀ j, o * 2 ^ j < 2 ^ (l + j) := fun j => by
    rw [Nat.pow_add]
    exact Nat.mul_lt_mul_of_pos_right hi (Nat.two_pow_pos j)
  refine ⟨?_, by omega, hu, J, hJ, ?_, Nat.mul_pos h0 (Nat.two_pow_pos J), ?_, ?_⟩
  · have a2 : 2 ^ l ≤ 2 ^ 53 := Nat.pow_le_pow_right (by decide) (by omega)
    omega
  · intro j hj
    have a1 := up j
    have a2 : 2 ^ (l + j) ≤ 2 ^ 52 := Nat.pow_le_pow_right (by decide) (by omega)
    omega
  · have a1 := up J
    have a2 : 2 ^ (l + J) ≤ 2 ^ 53 := Nat.pow_le_pow_right (by decide) hlj
    omega
  · by_cases c : e + (l : Int) - 53 < -1074
    · rcases Nat.lt_or_ge (o * 2 ^ J) 4503599627370496 with h1 | h1
      · exact .inr ⟨h1, by unfold uOf; rw [if_pos c]⟩
      · exact .inl h1
    · left
      have hue : uOf l e = e + (l : Int) - 53 := by unfold uOf; rw [if_neg c]
      have h53 : l - 1 + J = 52 := by omega
      have a1 : 2 ^ (l - 1) * 2 ^ J ≤ o * 2 ^ J := Nat.mul_le_mul_right _ lo
      rw [← Nat.pow_add, h53] at a1
      omega
/-- The document's sum makes the same pattern. -/
theorem ref_low {s : Bool} {M : Nat} {P : Int} {u : Int} (hM : M < 9007199254740992) (hu : u = -1074) (hP : P = ((pat s (M + (u + 1074).toNat * 4503599627370496) : Nat) : Int)) : IntKind.u64.wrap (topS s + (M : Int)) = P := by
  subst hu
  rw [hP, IntKind.wrap_u64]
  cases s <;> simp [topS, pat] <;> omega
theorem ref_high {s : Bool} {M : Nat} {P u x y z q : Int} (hM : M < 9007199254740992) (hM1 : 4503599627370496 ≤ M) (hu : -1074 ≤ u ∧ u ≤ 971) (hP : P = ((pat s (M + (u + 1074).toNat * 4503599627370496) : Nat) : Int))
    (hq : q = (u + 1075) * 4503599627370496) (hx : x = IntKind.u64.wrap q) (hy : y = IntKind.u64.wrap (topS s + x)) (hz : z = IntKind.u64.wrap (y + (M : Int))) : IntKind.u64.wrap (z - 4503599627370496) = P := by
  obtain ⟨n, hn⟩ : ∃ n : Nat, (n : Int) = u + 1074 := ⟨(u + 1074).toNat, by omega⟩
  rw [show (u + 1074).toNat = n by omega] at hP
  rw [IntKind.wrap_u64] at *
  have hn2 : n ≤ 2045 := by omega
  have hq2 : q = ((n : Int) + 1) * 4503599627370496 := by rw [hq]; congr 1; omega
  have hP2 : P = topS s + (M : Int) + (n : Int) * 4503599627370496 := by
    rw [hP]
    cases s <;> simp [topS, pat] <;> omega
  have hs : topS s = 0 ∨ topS s = 9223372036854775808 := by cases s <;> simp [topS]
  generalize topS s = g at *
  clear hP hq hu hn
  have hx2 : x = q := by omega
  rcases hs with rfl | rfl <;> omega
end Go.Proofs.YtojpfmlmalmlcaaGreatDoor
namespace Go.Proofs.YtojpfmlmalmlcaaGreatDoor
open Go.RowKit
/-- s[i], s[:b] and s[a:] of a text. -/
theorem at_s12 (l : List UInt8) (i : Int) (j : Nat) (hi : i = (j : Int)) (hj : j < l.length) (w : World) :
    (Instr.index 9 (.string ⟨l.toArray⟩) (.int .i64 i)).run Tryz.prog w = .ok (.int .u8 ((l.getD j 0).toNat : Int)) w := by
  subst hi
  rw [run_index_string w _ _ _ _ Tryz.underlying9, dif_pos ⟨by omega, by simp [ByteArray.size]; omega⟩]
  have e : (⟨l.toArray⟩ : ByteArray)[((j : Int)).toNat]'(by simp [ByteArray.size]; omega) = l.getD j 0 := by
    show l.toArray[((j : Int)).toNat]'(by simp; omega) = l.getD j 0
    simp [List.getD, hj]
  rw [e]
theorem upto_s12 (s : List UInt8) (b : Nat) (hb : b ≤ s.length) (w : World) :
    (Instr.slice 9 (.string ⟨s.toArray⟩) none (some (.int .i64 (b : Int))) none).run Tryz.prog w = .ok (.string ⟨(s.take b).toArray⟩) w := by
  rw [run_slice_string_h w _ _ Tryz.underlying9 .i64 (b : Int) (by omega) (by simp [ByteArray.size]; omega), Lib.extract_eq]
  simp
theorem from_s12 (s : List UInt8) (a : Nat) (i : Int) (hi : i = (a : Int)) (ha : a ≤ s.length) (w : World) :
    (Instr.slice 9 (.string ⟨s.toArray⟩) (some (.int .i64 i)) none none).run Tryz.prog w = .ok (.string ⟨(s.drop a).toArray⟩) w := by
  subst hi
  rw [run_slice_string_l w _ _ Tryz.underlying9 .i64 (a : Int) (by omega) (by simp [ByteArray.size]; omega), Lib.extract_eq]
  simp only [ByteArray.size, List.size_toArray, Int.toNat_natCast]
  rw [List.take_of_length_le (by simp)]
/-- A byte that is no digit. -/
theorem bad_digit {ds : List UInt8} (h : ¬ Dgs ds) : ∃ j, j < ds.length ∧ ¬ isD12 (ds.getD j 0) := by
  induction ds with
  | nil => exact absurd (fun x hx => by cases hx) h
  | cons c l ih =>
    by_cases hc : isD12 c
    · have h2 : ¬ Dgs l := fun hl => h (fun x hx => by
        rcases List.mem_cons.1 hx with rfl | hx
        · exact hc
        · exact hl x hx)
      obtain ⟨j, hj, hn⟩ := ih h2
      exact ⟨j + 1, by simp only [List.length_cons]; omega, by simpa using hn⟩
    · exact ⟨0, by simp, by simpa using hc⟩
def strLen12 : Value → Nat
  | .string s => s.data.size
  | _ => 0
theorem str_less {a b : List UInt8} (h : a.length = b.length + 1) : strLen12 (.string ⟨b.toArray⟩) < strLen12 (.string ⟨a.toArray⟩) := by
  show b.toArray.size < a.toArray.size
  simp
  omega
theorem eb12 (r : Nat) : -1074 ≤ eOf r ∧ eOf r ≤ 971 := by
  unfold eOf
  split
  · omega
  · split
    · omega
    · split
      · omega
      · omega
/-- What Read answers of a pattern. -/
def rdP (p : Nat) : Nat := if p = 9218868437227405312 then 0 else p
def rdB (p : Nat) : Bool := decide (p ≠ 9218868437227405312)
end Go.Proofs.YtojpfmlmalmlcaaGreatDoor
namespace Go.Proofs.YtojpfmlmalmlcaaGreatDoor
open Go.RowKit
/-- What a number of JSON is made of: its sign, its digits ahead of the point, those behind it, its exponent. -/
def JN (s : List UInt8) (neg : Bool) (ip fp : List UInt8) (E : Int) : Prop :=
  ∃ fr ex : List UInt8, s = (if neg then [45] else []) ++ (ip ++ (fr ++ ex)) ∧ digs ip = true ∧ ((fr = [] ∧ fp = []) ∨ (fr = 46 :: fp ∧ digs fp = true)) ∧
    ((ex = [] ∧ E = 0) ∨ ∃ (c : UInt8) (pl x : List UInt8), ex = c :: (pl ++ x) ∧ isE c = true ∧ (pl = [] ∨ pl = [43] ∨ pl = [45]) ∧ digs x = true ∧ E = if pl = [45] then -(nd x : Int) else (nd x : Int))
theorem unsign_split (x : List UInt8) : ∃ pl : List UInt8, x = pl ++ unsign x ∧ (pl = [] ∨ pl = [43] ∨ pl = [45]) := by
  cases x with
  | nil => exact ⟨[], rfl, .inl rfl⟩
  | cons c t =>
    by_cases h : c = 43
    · subst h; exact ⟨[43], rfl, .inr (.inl rfl)⟩
    · by_cases h2 : c = 45
      · subst h2; exact ⟨[45], rfl, .inr (.inr rfl)⟩
      · exact ⟨[], by simp [unsign, h, h2], .inl rfl⟩
theorem lexU_small (u : List UInt8) : lexU u = 0 ∨ lexU u = 1 ∨ lexU u = 2 := by
  unfold lexU
  split
  · exact .inl rfl
  · split
    · exact .inl rfl
    · split
      · exact .inl rfl
      · split
        · exact .inr (.inr rfl)
        · exact .inr (.inl rfl)
/-- A text that is a number of JSON is made of these. -/
theorem jn_of {s : List UInt8} (h : lexP s ≠ 0) : ∃ neg ip fp E, JN s neg ip fp E := by
  rw [lexP_trim] at h
  have hs : ∃ neg : Bool, s = (if neg then [45] else []) ++ trim s := by
    cases s with
    | nil => exact ⟨false, rfl⟩
    | cons c t =>
      by_cases hc : c = 45
      · subst hc; exact ⟨true, by simp [trim]⟩
      · exact ⟨false, by simp [trim, hc]⟩
  obtain ⟨neg, hs⟩ := hs
  generalize trim s = u at *
  have hexp : ∀ (c : UInt8) (x : List UInt8), isE c = true → digs (unsign x) = true → ∃ E, ∃ (c' : UInt8) (pl y : List UInt8), c :: x = c' :: (pl ++ y) ∧ isE c' = true ∧ (pl = [] ∨ pl = [43] ∨ pl = [45]) ∧ digs y = true ∧ E = if pl = [45] then -(nd y : Int) else (nd y : Int) := by
    intro c x hc hx
    obtain ⟨pl, h1, h2⟩ := unsign_split x
    exact ⟨_, c, pl, unsign x, by rw [← h1], hc, h2, hx, rfl⟩
  rcases lexU_small u with h0 | h0 | h0
  · exact absurd h0 h
  · exact ⟨neg, u, [], 0, [], [], by rw [hs]; simp, plain_digs (lexU_one h0), .inl ⟨rfl, rfl⟩, .inl ⟨rfl, rfl⟩⟩
  · obtain ⟨o, t, hu, ho, ht⟩ := lexU_two h0
    rcases ht with ⟨p, rfl, hp⟩ | ⟨c, x, rfl, hc, hx⟩ | ⟨p, c, x, rfl, hp, hc, hx⟩
    · exact ⟨neg, o, p, 0, 46 :: p, [], by rw [hs, hu]; simp, plain_digs ho, .inr ⟨rfl, hp⟩, .inl ⟨rfl, rfl⟩⟩
    · obtain ⟨E, hE⟩ := hexp c x hc hx
      exact ⟨neg, o, [], E, [], c :: x, by rw [hs, hu]; simp, plain_digs ho, .inl ⟨rfl, rfl⟩, .inr hE⟩
    · obtain ⟨E, hE⟩ := hexp c x hc hx
      exact ⟨neg, o, p, E, 46 :: p, c :: x, by rw [hs, hu]; first | done | simp, plain_digs ho, .inr ⟨rfl, hp⟩, .inr hE⟩
theorem digs_Dgs {l : List UInt8} (h : digs l = true) : Dgs l := fun c hc => by
  have := (digs_iff.1 h).1 c hc
  unfold isD12
  simpa [isD] using this
theorem near_move {l : List UInt8} {x y : Int} {p : Nat} (hd : Dgs l) (hl : l.length ≤ 300) (h : (3000 ≤ x ∧ 3000 ≤ y) ∨ (x < -400 ∧ y < -400)) (hp : NearIs (dA l x) (dB l x) p) : NearIs (dA l y) (dB l y) p := by
  rcases h with ⟨h1, h2⟩ | ⟨h1, h2⟩
  · by_cases h0 : nd l = 0
    · rw [dA_zero h0] at hp
      rw [dA_zero h0]
      exact near_same (dB_pos _ _) (dB_pos _ _) (by rw [Nat.zero_mul, Nat.zero_mul]) hp
    · have e := near_one (dB_pos _ _) hp (big_up h0 hl h1)
      rw [e]
      exact big_up h0 hl h2
  · have e := near_one (dB_pos _ _) hp (far_dn hd h1)
    rw [e]
    exact far_dn hd h2
theorem cat_s12 (u v : List UInt8) : (⟨u.toArray⟩ : ByteArray) ++ (⟨v.toArray⟩ : ByteArray) = ⟨(u ++ v).toArray⟩ := by
  apply ByteArray.ext
  simp [ByteArray.data_append]
theorem part_s12 (s : List UInt8) (a b : Nat) (i j : Int) (hi : i = (a : Int)) (hj : j = (b : Int)) (hab : a ≤ b) (hb : b ≤ s.length) (w : World) :
    (Instr.slice 9 (.string ⟨s.toArray⟩) (some (.int .i64 i)) (some (.int .i64 j)) none).run Tryz.prog w = .ok (.string ⟨((s.drop a).take (b - a)).toArray⟩) w := by
  subst hi hj
  rw [run_slice_string w _ _ .i64 .i64 (a : Int) (b : Int) Tryz.underlying9 (by omega) (by omega) (by simp [ByteArray.size]; omega), Lib.extract_eq]
  simp
/-- What stands at a place behind a front. -/
theorem get_front {a b : List UInt8} {i : Nat} (h : i < a.length) : (a ++ b).getD i 0 = a.getD i 0 := by
  rw [List.getD_eq_getElem?_getD, List.getElem?_append_left h, List.getD_eq_getElem?_getD]
set_option maxRecDepth 100000 in
theorem get_behind {a b : List UInt8} {i j : Nat} (h : i = a.length + j) : (a ++ b).getD i 0 = b.getD j 0 := by
  subst h
  rw [List.getD_eq_getElem?_getD, List.getElem?_append_right (by omega), List.getD_eq_getElem?_getD]
  congr 2
  omega
theorem digs_at {l : List UInt8} {i : Nat} (h : digs l = true) (hi : i < l.length) : 48 ≤ (l.getD i 0).toNat ∧ (l.getD i 0).toNat ≤ 57 := by
  have e : l.getD i 0 = l[i] := by simp [List.getD, hi]
  rw [e]
  have := (digs_iff.1 h).1 _ (List.getElem_mem hi)
  simpa [isD] using this
theorem isE_range {c : UInt8} (h : isE c = true) : 57 < c.toNat ∧ ((c.toNat : Int) == 46) = false ∧ 48 ≤ c.toNat := by
  simp only [isE, Bool.or_eq_true, beq_iff_eq] at h
  rcases h with rfl | rfl <;> decide
/-- The exponent's digits, as far as they were read; none beyond 10000. -/
def ce (l : List UInt8) : Nat := min (nd (l.filter isD)) 10000
theorem ce_digit {q : List UInt8} {c : UInt8} (h : isD c = true) : ce (q ++ [c]) = min (ce q * 10 + dv c) 10000 := by
  unfold ce
  have e : (q ++ [c]).filter isD = q.filter isD ++ [c] := by rw [List.filter_append]; simp [h]
  rw [e, nd_snoc]
  generalize nd (q.filter isD) = a
  omega
theorem ce_other {q : List UInt8} {c : UInt8} (h : isD c = false) : ce (q ++ [c]) = ce q := by
  unfold ce
  have e : (q ++ [c]).filter isD = q.filter isD := by rw [List.filter_append]; simp [h]
  rw [e]
theorem ce_all {pl x : List UInt8} (hp : pl = [] ∨ pl = [43] ∨ pl = [45]) (hx : digs x = true) : ce (pl ++ x) = min (nd x) 10000 := by
  unfold ce
  have e1 : pl.filter isD = [] := by rcases hp with rfl | rfl | rfl <;> decide
  have e2 : x.filter isD = x := List.filter_eq_self.2 (digs_iff.1 hx).1
  rw [List.filter_append, e1, e2, List.nil_append]
/-- What ParseNear answers of a pattern. -/
def pnP (neg : Bool) (p : Nat) : Nat := if p = 9218868437227405312 then 0 else pat neg p
def pnE (p : Nat) : Int := if p = 9218868437227405312 then 10 else 0
end Go.Proofs.YtojpfmlmalmlcaaGreatDoor
namespace Go.Proofs.YtojpfmlmalmlcaaGreatDoor
open Go.RowKit
open Go.Lib (decDigits itoa)
/-- With more digits a number is no smaller. -/
theorem more_digits (d m : List UInt8) (x : Int) : dA d x * dB (d ++ m) x ≤ dA (d ++ m) x * dB d x := by
  have h : nd d * 10 ^ m.length ≤ nd (d ++ m) := by rw [nd_append]; exact Nat.le_add_right _ _
  unfold dA dB
  rw [cross (nd d) (nd d * 10 ^ m.length) m.length _ rfl (a := (x - ((d ++ m).length : Int)).toNat) (d := ((d.length : Int) - x).toNat) (by rw [List.length_append]; omega)]
  exact Nat.mul_le_mul_right _ (Nat.mul_le_mul_right _ (Nat.mul_le_mul_right _ h))
/-- With a greater power a number is no smaller. -/
theorem more_power (d : List UInt8) (x : Int) : dA d x * dB d (x + 1) ≤ dA d (x + 1) * dB d x := by
  unfold dA dB
  have e : ∀ a b : Nat, nd d * 10 ^ a * uu 1074 * 10 ^ b = nd d * uu 1074 * 10 ^ (a + b) := fun a b => by
    rw [Nat.pow_add]
    generalize uu 1074 = U
    grind
  rw [e, e]
  exact Nat.mul_le_mul_left _ (Nat.pow_le_pow_right (by decide) (by omega))
theorem rises_digits {d m : List UInt8} {x : Int} {p q : Nat} (hp : NearIs (dA d x) (dB d x) p) (hq : NearIs (dA (d ++ m) x) (dB (d ++ m) x) q) : p ≤ q :=
  near_mono (dB_pos _ _) (dB_pos _ _) (more_digits d m x) hp hq
theorem rises_power {d : List UInt8} {x : Int} {p q : Nat} (hp : NearIs (dA d x) (dB d x) p) (hq : NearIs (dA d (x + 1)) (dB d (x + 1)) q) : p ≤ q :=
  near_mono (dB_pos _ _) (dB_pos _ _) (more_power d x) hp hq
/-- Noughts behind, and noughts ahead with a greater power. -/
theorem noughts_behind {d : List UInt8} {x : Int} {p : Nat} (n : Nat) (h : NearIs (dA d x) (dB d x) p) : NearIs (dA (d ++ List.replicate n 48) x) (dB (d ++ List.replicate n 48) x) p := by
  refine near_same (dB_pos _ _) (dB_pos _ _) ?_ h
  unfold dA dB
  refine cross _ _ n _ (nd_noughts d n).symm ?_
  rw [List.length_append, List.length_replicate]
  omega
theorem noughts_ahead (d : List UInt8) (n : Nat) : ∀ x : Int, dA (List.replicate n 48 ++ d) (x + (n : Int)) = dA d x ∧ dB (List.replicate n 48 ++ d) (x + (n : Int)) = dB d x := by
  induction n with
  | zero => intro x; simp
  | succ n ih =>
    intro x
    obtain ⟨e1, e2⟩ := dA_ahead (List.replicate n 48 ++ d) (x + ((n + 1 : Nat) : Int))
    rw [List.replicate_succ, List.cons_append, e1, e2, show x + ((n + 1 : Nat) : Int) - 1 = x + (n : Int) by omega]
    exact ih x
/-! ### Whole numbers -/
theorem nd_dec (u : Nat) : nd (decDigits u) = u := by
  induction u using Nat.strongRecOn with
  | ind u ih =>
    rw [decDigits]
    split
    · rename_i h
      rw [show [UInt8.ofNat (48 + u)] = [] ++ [UInt8.ofNat (48 + u)] from rfl, nd_snoc, (dig_dv h).2.1]
      simp [nd]
    · rename_i h
      rw [nd_snoc, ih (u / 10) (by omega), (dig_dv (d := u % 10) (by omega)).2.1]
      omega
/-- The text of a whole number, as a number of JSON. -/
theorem jn_itoa (v : Int) : JN (itoa v) (decide (v < 0)) (decDigits v.natAbs) [] 0 := by
  refine ⟨[], [], ?_, dec_digs _, .inl ⟨rfl, rfl⟩, .inl ⟨rfl, rfl⟩⟩
  unfold itoa
  by_cases h : v < 0
  · simp [h]
  · rw [if_neg h, decide_eq_false h, show v.toNat = v.natAbs by omega]
    simp
theorem dA_whole (l : List UInt8) : dA l (l.length : Int) = nd l * uu 1074 ∧ dB l (l.length : Int) = 1 := by
  unfold dA dB
  rw [show ((l.length : Int) - (l.length : Int)).toNat = 0 by omega, Nat.pow_zero, Nat.mul_one]
  exact ⟨rfl, rfl⟩
set_option maxRecDepth 100000 in
/-- A pattern that was made of V has V as its number. -/
theorem join_vN {V r : Nat} (hV : V < 18446744073709551616) (h : joinP V 0 = some r) : r ≤ 9218868437227405311 ∧ vN r = V * uu 1074 := by
  by_cases c0 : V = 0
  · subst c0
    obtain rfl : 0 = r := Option.some.inj h
    exact ⟨by decide, by rw [vN_low (by decide), Nat.zero_mul]⟩
  have ho := odd_of (m := V) (by omega) hV
  unfold joinP at h
  rw [if_neg c0] at h
  generalize oOf V = o at *
  generalize tOf V = t at *
  generalize lOf V = l at *
  obtain ⟨j, hj, p0, p1, pm, pe, u0, u1, hM, -, -⟩ := join_tells ho.lo ho.hi ho.pos h
  obtain ⟨k, hk1, hk2, -⟩ := vN_split p0 p1
  refine ⟨by omega, ?_⟩
  rw [hk2, pm, ho.eq]
  have hpos := ho.pos
  have key : ∀ n, n = 1074 → o * 2 ^ j * 2 ^ k = o * 2 ^ t * uu n := by
    intro n hn
    unfold uu
    rw [Nat.mul_assoc, Nat.mul_assoc, ← Nat.pow_add, ← Nat.pow_add]
    congr 2
    omega
  exact key 1074 rfl
/-- A whole number that a double has is nearest to that double. -/
theorem whole_near {v : Int} {r p : Nat} (hv : v.natAbs < 18446744073709551616) (h : joinP v.natAbs 0 = some r)
    (hp : NearIs (dA (decDigits v.natAbs ++ []) (((decDigits v.natAbs).length : Int) + 0)) (dB (decDigits v.natAbs ++ []) (((decDigits v.natAbs).length : Int) + 0)) p) : p = r := by
  obtain ⟨h1, h2⟩ := join_vN hv h
  rw [List.append_nil, Int.add_zero] at hp
  obtain ⟨e1, e2⟩ := dA_whole (decDigits v.natAbs)
  rw [e1, e2, nd_dec] at hp
  exact near_one (by decide) hp (near_exact (by decide) h1 (by rw [h2, Nat.mul_one]))
/-- A whole number of 64 bits is below all infinities. -/
theorem whole_small {v : Int} {p : Nat} (hv : v.natAbs ≤ 9223372036854775808)
    (hp : NearIs (dA (decDigits v.natAbs ++ []) (((decDigits v.natAbs).length : Int) + 0)) (dB (decDigits v.natAbs ++ []) (((decDigits v.natAbs).length : Int) + 0)) p) : p ≠ 9218868437227405312 := by
  rw [List.append_nil, Int.add_zero] at hp
  obtain ⟨e1, e2⟩ := dA_whole (decDigits v.natAbs)
  rw [e1, e2, nd_dec] at hp
  have hj : joinP 9223372036854775808 0 = some 4890909195324358656 := by decide +kernel
  obtain ⟨h1, h2⟩ := join_vN (by decide) hj
  have hq := near_exact (A := 9223372036854775808 * uu 1074) (B := 1) (by decide) h1 (by rw [h2, Nat.mul_one])
  have hle := near_mono (by decide) (by decide) (by rw [Nat.mul_one, Nat.mul_one]; exact Nat.mul_le_mul_right _ hv) hp hq
  omega
end Go.Proofs.YtojpfmlmalmlcaaGreatDoor
namespace Go.Proofs.YtojpfmlmalmlcaaGreatDoor
open Go.RowKit
def RdOk (ds : List UInt8) : Prop := 1 ≤ ds.length ∧ ds.length ≤ 300 ∧ Dgs ds
def ReadAns (ds : List UInt8) (x : Int) (a : Nat) (b : Bool) : Prop :=
  (¬ RdOk ds ∧ a = 0 ∧ b = false) ∨ (RdOk ds ∧ ∃ p, NearIs (dA ds x) (dB ds x) p ∧ a = rdP p ∧ b = rdB p)
theorem read_one {ds : List UInt8} {x : Int} {a a' : Nat} {b b' : Bool} (h : ReadAns ds x a b) (k : ReadAns ds x a' b') : a = a' ∧ b = b' := by
  rcases h with ⟨h0, h1, h2⟩ | ⟨h0, p, h1, h2, h3⟩
  · rcases k with ⟨_, k1, k2⟩ | ⟨k0, _⟩
    · exact ⟨h1.trans k1.symm, h2.trans k2.symm⟩
    · exact absurd k0 h0
  · rcases k with ⟨k0, _⟩ | ⟨_, q, k1, k2, k3⟩
    · exact absurd h0 k0
    · cases near_one (dB_pos _ _) h1 k1
      exact ⟨h2.trans k2.symm, h3.trans k3.symm⟩
def ParseAns (s : List UInt8) (a : Nat) (e : Int) : Prop :=
  (lexP s = 0 ∧ a = 0 ∧ e = 3) ∨ (lexP s ≠ 0 ∧ 300 < s.length ∧ a = 0 ∧ e = 10) ∨
    (lexP s ≠ 0 ∧ s.length ≤ 300 ∧ ∃ neg ip fp E, JN s neg ip fp E ∧ ∃ p, NearIs (dA (ip ++ fp) ((ip.length : Int) + E)) (dB (ip ++ fp) ((ip.length : Int) + E)) p ∧ a = pnP neg p ∧ e = pnE p)
theorem while_split {a b : List UInt8} (ha : ∀ c ∈ a, isD c = true) (hb : b = [] ∨ ∃ c t, b = c :: t ∧ isD c = false) : (a ++ b).takeWhile isD = a ∧ (a ++ b).dropWhile isD = b := by
  induction a with
  | nil =>
    rcases hb with rfl | ⟨c, t, rfl, hc⟩
    · exact ⟨rfl, rfl⟩
    · simp [hc]
  | cons c l ih =>
    have hc := ha c List.mem_cons_self
    obtain ⟨h1, h2⟩ := ih (fun x hx => ha x (List.mem_cons_of_mem _ hx))
    simp [hc, h1, h2]
/-- A front of digits is one alone. -/
theorem front_one {a a' b b' : List UInt8} (ha : ∀ c ∈ a, isD c = true) (ha' : ∀ c ∈ a', isD c = true) (hb : b = [] ∨ ∃ c t, b = c :: t ∧ isD c = false) (hb' : b' = [] ∨ ∃ c t, b' = c :: t ∧ isD c = false) (h : a ++ b = a' ++ b') : a = a' ∧ b = b' := by
  obtain ⟨h1, h2⟩ := while_split ha hb
  obtain ⟨k1, k2⟩ := while_split ha' hb'
  rw [h] at h1 h2
  exact ⟨h1.symm.trans k1, h2.symm.trans k2⟩
theorem isE_notD {c : UInt8} (h : isE c = true) : isD c = false := by
  cases hd : isD c with
  | false => rfl
  | true => rw [isE_of_isD hd] at h; cases h
/-- Its parts are told by the text. -/
theorem jn_one {s : List UInt8} {n n' : Bool} {ip ip' fp fp' : List UInt8} {E E' : Int} (h : JN s n ip fp E) (k : JN s n' ip' fp' E') : n = n' ∧ ip = ip' ∧ fp = fp' ∧ E = E' := by
  obtain ⟨fr, ex, hs, hip, hfr, hex⟩ := h
  obtain ⟨fr', ex', ks, kip, kfr, kex⟩ := k
  have i1 := digs_iff.1 hip
  have i2 := digs_iff.1 kip
  have head : ∀ {ip r : List UInt8}, (∀ c ∈ ip, isD c = true) → ip ≠ [] → (ip ++ r).getD 0 0 ≠ 45 := by
    intro ip r hd hne
    cases ip with
    | nil => exact absurd rfl hne
    | cons c l => exact ne_minus (hd c List.mem_cons_self)
  have hn : n = n' := by
    cases n <;> cases n'
    · rfl
    · have e : (ip ++ (fr ++ ex)).getD 0 0 = 45 := by
        have h1 : ip ++ (fr ++ ex) = 45 :: (ip' ++ (fr' ++ ex')) := by rw [ks] at hs; simpa using hs.symm
        rw [h1]; rfl
      exact absurd e (head i1.1 i1.2)
    · have e : (ip' ++ (fr' ++ ex')).getD 0 0 = 45 := by
        have h1 : ip' ++ (fr' ++ ex') = 45 :: (ip ++ (fr ++ ex)) := by rw [hs] at ks; simpa using ks.symm
        rw [h1]; rfl
      exact absurd e (head i2.1 i2.2)
    · rfl
  subst hn
  have hb : ip ++ (fr ++ ex) = ip' ++ (fr' ++ ex') := by rw [ks] at hs; exact (List.append_cancel_left hs).symm
  have exs : ∀ {ex : List UInt8} {E : Int}, ((ex = [] ∧ E = 0) ∨ ∃ (c : UInt8) (pl x : List UInt8), ex = c :: (pl ++ x) ∧ isE c = true ∧ (pl = [] ∨ pl = [43] ∨ pl = [45]) ∧ digs x = true ∧ E = if pl = [45] then -(nd x : Int) else (nd x : Int)) → (ex = [] ∨ ∃ c t, ex = c :: t ∧ isD c = false) := by
    intro ex E h
    rcases h with ⟨h, _⟩ | ⟨c, pl, x, h, hc, _⟩
    · exact .inl h
    · exact .inr ⟨c, _, h, isE_notD hc⟩
  have frs : ∀ {fr fp ex : List UInt8} {E : Int}, ((fr = [] ∧ fp = []) ∨ (fr = 46 :: fp ∧ digs fp = true)) → ((ex = [] ∧ E = 0) ∨ ∃ (c : UInt8) (pl x : List UInt8), ex = c :: (pl ++ x) ∧ isE c = true ∧ (pl = [] ∨ pl = [43] ∨ pl = [45]) ∧ digs x = true ∧ E = if pl = [45] then -(nd x : Int) else (nd x : Int)) → (fr ++ ex = [] ∨ ∃ c t, fr ++ ex = c :: t ∧ isD c = false) := by
    intro fr fp ex E h k
    rcases h with ⟨h, _⟩ | ⟨h, _⟩
    · rw [h, List.nil_append]; exact exs k
    · exact .inr ⟨46, fp ++ ex, by rw [h]; rfl, isD_46⟩
  obtain ⟨e1, e2⟩ := front_one i1.1 i2.1 (frs hfr hex) (frs kfr kex) hb
  subst e1
  have e3 : fp = fp' ∧ ex = ex' := by
    rcases hfr with ⟨f1, f2⟩ | ⟨f1, f2⟩
    · rcases kfr with ⟨g1, g2⟩ | ⟨g1, g2⟩
      · rw [f1, g1] at e2
        exact ⟨f2.trans g2.symm, by simpa using e2⟩
      · exfalso
        rw [f1, g1] at e2
        rcases hex with ⟨h, _⟩ | ⟨c, pl, x, h, hc, _⟩
        · rw [h] at e2; simp at e2
        · rw [h] at e2
          have : c = 46 := by simpa using (List.cons.inj (by simpa using e2)).1
          rw [this] at hc
          exact absurd hc (by decide)
    · rcases kfr with ⟨g1, g2⟩ | ⟨g1, g2⟩
      · exfalso
        rw [f1, g1] at e2
        rcases kex with ⟨h, _⟩ | ⟨c, pl, x, h, hc, _⟩
        · rw [h] at e2; simp at e2
        · rw [h] at e2
          have : 46 = c := (List.cons.inj (by simpa using e2)).1
          rw [← this] at hc
          exact absurd hc (by decide)
      · rw [f1, g1, List.cons_append, List.cons_append] at e2
        have e4 := (List.cons.inj e2).2
        exact front_one (digs_iff.1 f2).1 (digs_iff.1 g2).1 (exs hex) (exs kex) e4
  obtain ⟨rfl, rfl⟩ := e3
  refine ⟨rfl, rfl, rfl, ?_⟩
  rcases hex with ⟨h1, h2⟩ | ⟨c, pl, x, h1, _, hpl, hx, hE⟩
  · rcases kex with ⟨k1, k2⟩ | ⟨c, pl, x, k1, _⟩
    · rw [h2, k2]
    · rw [h1] at k1; cases k1
  · rcases kex with ⟨k1, _⟩ | ⟨c', pl', x', k1, _, kpl, kx, kE⟩
    · rw [h1] at k1; cases k1
    · rw [h1] at k1
      have k2 := (List.cons.inj k1).2
      have dx := digs_iff.1 hx
      have dx' := digs_iff.1 kx
      have d43 : isD 43 = false := by decide
      have nodig : ∀ {x y : List UInt8} {c : UInt8}, (∀ z ∈ x, isD z = true) → x ≠ [] → isD c = false → x ≠ c :: y := by
        intro x y c h hne hc e
        rw [e] at h
        rw [h c List.mem_cons_self] at hc
        cases hc
      have hboth : pl = pl' ∧ x = x' := by
        rcases hpl with rfl | rfl | rfl <;> rcases kpl with rfl | rfl | rfl
        · exact ⟨rfl, by simpa using k2⟩
        · exact absurd (by simpa using k2) (nodig dx.1 dx.2 d43 (y := x'))
        · exact absurd (by simpa using k2) (nodig dx.1 dx.2 isD_45 (y := x'))
        · exact absurd (by simpa using k2.symm) (nodig dx'.1 dx'.2 d43 (y := x))
        · exact ⟨rfl, by simpa using k2⟩
        · simp at k2
        · exact absurd (by simpa using k2.symm) (nodig dx'.1 dx'.2 isD_45 (y := x))
        · simp at k2
        · exact ⟨rfl, by simpa using k2⟩
      rw [hE, kE, hboth.1, hboth.2]
theorem parse_p12 {s : List UInt8} {a a' : Nat} {e e' : Int} (h : ParseAns s a e) (k : ParseAns s a' e') : a = a' ∧ e = e' := by
  rcases h with ⟨h0, h1, h2⟩ | ⟨h0, h1, h2, h3⟩ | ⟨h0, h1, n, ip, fp, E, hj, p, hp, h2, h3⟩
  · rcases k with ⟨_, k1, k2⟩ | ⟨k0, _⟩ | ⟨k0, _⟩
    · exact ⟨h1.trans k1.symm, h2.trans k2.symm⟩
    · exact absurd h0 k0
    · exact absurd h0 k0
  · rcases k with ⟨k0, _⟩ | ⟨_, k1, k2, k3⟩ | ⟨_, k1, _⟩
    · exact absurd k0 h0
    · exact ⟨h2.trans k2.symm, h3.trans k3.symm⟩
    · omega
  · rcases k with ⟨k0, _⟩ | ⟨_, k1, _⟩ | ⟨_, _, n', ip', fp', E', kj, p', kp, k2, k3⟩
    · exact absurd k0 h0
    · omega
    · obtain ⟨rfl, rfl, rfl, rfl⟩ := jn_one hj kj
      cases near_one (dB_pos _ _) hp kp
      exact ⟨h2.trans k2.symm, h3.trans k3.symm⟩
end Go.Proofs.YtojpfmlmalmlcaaGreatDoor
namespace Go.Proofs.YtojpfmlmalmlcaaGreatDoor
open Go.RowKit
theorem vN_unit {q k : Nat} (h1 : q < 9007199254740992) (h2 : 4503599627370496 ≤ q ∨ k = 0) :
    vN (q + k * 4503599627370496) = q * 2 ^ k ∧ vN (q + k * 4503599627370496 + 1) = q * 2 ^ k + 2 ^ k := by
  have key : vN (q + k * 4503599627370496) = q * 2 ^ k ∧ (q + k * 4503599627370496) / 4503599627370496 - 1 = k := by
    by_cases c : q < 4503599627370496
    · have hk : k = 0 := by omega
      subst hk
      refine ⟨?_, by omega⟩
      rw [Nat.zero_mul, Nat.add_zero, vN_low c, Nat.pow_zero, Nat.mul_one]
    · have e1 : (q + k * 4503599627370496) % 4503599627370496 = q - 4503599627370496 := by omega
      have e2 : (q + k * 4503599627370496) / 4503599627370496 - 1 = k := by omega
      refine ⟨?_, e2⟩
      rw [vN_at (by omega) e1 e2, show 4503599627370496 + (q - 4503599627370496) = q by omega]
  refine ⟨key.1, ?_⟩
  rw [vN_step, key.2, key.1]
/-- Half of it or more is left: up, or down. -/
def upQ (q r d : Nat) : Nat := if d < 2 * r ∨ (2 * r = d ∧ q % 2 = 1) then q + 1 else q
theorem near_core {A B q r lo D : Nat} (hB : 0 < B) (f1 : vN lo * B = q * D) (f2 : (vN lo + vN (lo + 1)) * B = 2 * (q * D) + D) (f3 : vN (lo + 1) * B = q * D + D)
    (hq : A = q * D + r) (hr : r < D) (c : lo ≤ 9218868437227405311) (par : lo % 2 = q % 2) : NearIs A B (if D < 2 * r ∨ (2 * r = D ∧ q % 2 = 1) then lo + 1 else lo) := by
  generalize q * D = Q at *
  by_cases hu : D < 2 * r ∨ (2 * r = D ∧ q % 2 = 1)
  · rw [if_pos hu]
    refine near_hi hB c (.inr (by omega)) ?_
    rcases hu with hu | ⟨hu, hu2⟩
    · exact .inl (by omega)
    · exact .inr ⟨by omega, by omega⟩
  · rw [if_neg hu]
    refine near_lo hB c (by omega) ?_
    by_cases he : 2 * r = D
    · exact .inr ⟨by omega, by omega⟩
    · exact .inl (by omega)
theorem near_past {A B q r k : Nat} (hB : 0 < B) (hq : A = q * (B * 2 ^ k) + r) (hk : 2046 ≤ k) (hq2 : 4503599627370496 ≤ q) : NearIs A B 9218868437227405312 := by
  obtain ⟨n, hn⟩ : ∃ n, n = 2098 := ⟨_, rfl⟩
  refine near_beyond hn hB ?_
  obtain ⟨u, hu⟩ : ∃ u, u = 52 := ⟨_, rfl⟩
  have e52 : 4503599627370496 = 2 ^ u := by rw [hu]
  rw [e52] at hq2
  have s1 : 2 ^ u * (B * 2 ^ k) ≤ q * (B * 2 ^ k) := Nat.mul_le_mul_right _ hq2
  have s2 : 2 ^ n * B ≤ 2 ^ u * (B * 2 ^ k) := by
    rw [Nat.mul_comm B, ← Nat.mul_assoc, ← Nat.pow_add]
    exact Nat.mul_le_mul_right _ (Nat.pow_le_pow_right (by decide) (by omega))
  rw [hq]
  exact Nat.le_trans s2 (Nat.le_trans s1 (Nat.le_add_right _ _))
theorem near_div {A B q r k : Nat} (hB : 0 < B) (hq : A = q * (B * 2 ^ k) + r) (hr : r < B * 2 ^ k) (h1 : q < 9007199254740992) (h2 : 4503599627370496 ≤ q ∨ k = 0) :
    NearIs A B (min (upQ q r (B * 2 ^ k) + k * 4503599627370496) 9218868437227405312) := by
  by_cases c : q + k * 4503599627370496 ≤ 9218868437227405311
  · obtain ⟨v1, v2⟩ := vN_unit h1 h2
    have par : (q + k * 4503599627370496) % 2 = q % 2 := by omega
    have e : min (upQ q r (B * 2 ^ k) + k * 4503599627370496) 9218868437227405312 = if B * 2 ^ k < 2 * r ∨ (2 * r = B * 2 ^ k ∧ q % 2 = 1) then q + k * 4503599627370496 + 1 else q + k * 4503599627370496 := by
      unfold upQ
      split
      · clear hq hr v1 v2; omega
      · clear hq hr v1 v2; omega
    rw [e]
    clear e
    obtain ⟨lo, hlo⟩ : ∃ lo, lo = q + k * 4503599627370496 := ⟨_, rfl⟩
    rw [← hlo] at v1 v2 c par ⊢
    clear hlo h1 h2
    have f1 : vN lo * B = q * (B * 2 ^ k) := by rw [v1, Nat.mul_assoc, Nat.mul_comm (2 ^ k)]
    have f3 : vN (lo + 1) * B = q * (B * 2 ^ k) + B * 2 ^ k := by rw [v2, Nat.add_mul, Nat.mul_assoc, Nat.mul_comm (2 ^ k)]
    have f2 : (vN lo + vN (lo + 1)) * B = 2 * (q * (B * 2 ^ k)) + B * 2 ^ k := by rw [Nat.add_mul, f1, f3]; omega
    exact near_core hB f1 f2 f3 hq hr c par
  · have e : min (upQ q r (B * 2 ^ k) + k * 4503599627370496) 9218868437227405312 = 9218868437227405312 := by
      have : q ≤ upQ q r (B * 2 ^ k) := by unfold upQ; split <;> omega
      clear hq hr
      omega
    rw [e]
    exact near_past hB hq (by omega) (by omega)
set_option maxRecDepth 100000 in
/-- The pattern of m in that unit. -/
theorem join_at {m k : Nat} (hm : m ≤ 9007199254740992) (h : 4503599627370496 ≤ m ∨ k = 0) :
    joinP m ((k : Int) - 1074) = if m + k * 4503599627370496 < 9218868437227405312 then some (m + k * 4503599627370496) else none := by
  by_cases m0 : m = 0
  · have hk : k = 0 := by omega
    subst m0 hk
    rfl
  by_cases m53 : m = 9007199254740992
  · have e1 : ∀ e : Int, joinP 9007199254740992 e = joinO 1 1 (e + 53) := fun e => by
      have a1 : oOf 9007199254740992 = 1 := by decide +kernel
      have a2 : lOf 9007199254740992 = 1 := by decide +kernel
      have a3 : tOf 9007199254740992 = 53 := by decide +kernel
      unfold joinP
      rw [if_neg (by decide), a1, a2, a3]
      rfl
    have e2 : ∀ e : Int, joinP 4503599627370496 e = joinO 1 1 (e + 52) := fun e => by
      have a1 : oOf 4503599627370496 = 1 := by decide +kernel
      have a2 : lOf 4503599627370496 = 1 := by decide +kernel
      have a3 : tOf 4503599627370496 = 52 := by decide +kernel
      unfold joinP
      rw [if_neg (by decide), a1, a2, a3]
      rfl
    subst m53
    by_cases c : 9007199254740992 + k * 4503599627370496 < 9218868437227405312
    · rw [if_pos c]
      have hb := join_back c
      have e3 : mOf (9007199254740992 + k * 4503599627370496) = 4503599627370496 := by
        unfold mOf
        rw [if_neg (by omega), if_pos c]
        omega
      have e4 : eOf (9007199254740992 + k * 4503599627370496) = (k : Int) - 1073 := by
        unfold eOf
        rw [if_neg (by omega), if_neg (by omega), if_pos c]
        omega
      rw [e3, e4, e2] at hb
      rw [e1, ← hb]
      congr 1
      omega
    · rw [if_neg c, e1]
      have hu : uOf 1 ((k : Int) - 1074 + 53) = (k : Int) - 1073 := by unfold uOf; rw [if_neg (by omega)]; omega
      unfold joinO
      rw [hu, if_neg (by omega), if_pos (by omega)]
  by_cases c : m + k * 4503599627370496 < 9218868437227405312
  · rw [if_pos c]
    have hb := join_back c
    have e3 : mOf (m + k * 4503599627370496) = m := by
      unfold mOf
      by_cases c1 : m < 4503599627370496
      · rw [if_pos (by omega)]; omega
      · rw [if_neg (by omega), if_pos c]; omega
    have e4 : eOf (m + k * 4503599627370496) = (k : Int) - 1074 := by
      unfold eOf
      rw [if_neg (by omega)]
      by_cases c1 : m < 4503599627370496
      · rw [if_pos (by omega)]; omega
      · rw [if_neg (by omega), if_pos c]; omega
    rw [e3, e4] at hb
    exact hb
  · rw [if_neg c]
    have ho := odd_of (m := m) (by omega) (by omega)
    unfold joinP
    rw [if_neg m0]
    generalize oOf m = o at *
    generalize tOf m = t at *
    generalize lOf m = l at *
    obtain ⟨eq, _, lo, hi, pos, fit⟩ := ho
    have h1 : l - 1 + t < 53 := by
      apply Nat.lt_of_not_le
      intro hle
      have a1 : 2 ^ (l - 1) * 2 ^ t ≤ o * 2 ^ t := Nat.mul_le_mul_right _ lo
      rw [← Nat.pow_add, ← eq] at a1
      have a2 : 2 ^ 53 ≤ 2 ^ (l - 1 + t) := Nat.pow_le_pow_right (by decide) hle
      omega
    have h2 : 53 ≤ l + t := by
      apply Nat.le_of_not_lt
      intro hlt
      have a1 : o * 2 ^ t < 2 ^ l * 2 ^ t := Nat.mul_lt_mul_of_pos_right hi (Nat.two_pow_pos t)
      rw [← Nat.pow_add, ← eq] at a1
      have a2 : 2 ^ (l + t) ≤ 2 ^ 52 := Nat.pow_le_pow_right (by decide) (by omega)
      omega
    have hu : uOf l ((k : Int) - 1074 + (t : Int)) = (k : Int) - 1074 := by unfold uOf; rw [if_neg (by omega)]; omega
    clear eq
    unfold joinO
    rw [hu, if_neg (by omega), if_pos (by omega)]
/-- What Join answers of the nearest one. -/
theorem join_near {m k : Nat} (hm : m ≤ 9007199254740992) (h : 4503599627370496 ≤ m ∨ k = 0) :
    jPat false (joinP m ((k : Int) - 1074)) = rdP (min (m + k * 4503599627370496) 9218868437227405312) ∧ (joinP m ((k : Int) - 1074)).isSome = rdB (min (m + k * 4503599627370496) 9218868437227405312) := by
  rw [join_at hm h]
  unfold rdP rdB
  by_cases c : m + k * 4503599627370496 < 9218868437227405312
  · rw [if_pos c, show min (m + k * 4503599627370496) 9218868437227405312 = m + k * 4503599627370496 by omega, if_neg (by omega)]
    refine ⟨rfl, ?_⟩
    rw [decide_eq_true (by omega)]
    rfl
  · rw [if_neg c, show min (m + k * 4503599627370496) 9218868437227405312 = 9218868437227405312 by omega, if_pos rfl]
    exact ⟨rfl, rfl⟩
/-! ### Powers of two on both sides -/
theorem lt_scale {O U j i j' i' : Nat} (h : O * 2 ^ j < U * 2 ^ i) (hi : i + j' ≤ i' + j) : O * 2 ^ j' < U * 2 ^ i' := by
  have s1 : O * 2 ^ j * 2 ^ j' < U * 2 ^ i * 2 ^ j' := Nat.mul_lt_mul_of_pos_right h (Nat.two_pow_pos _)
  have s2 : U * 2 ^ i * 2 ^ j' ≤ U * 2 ^ i' * 2 ^ j := by
    rw [Nat.mul_assoc, Nat.mul_assoc, ← Nat.pow_add, ← Nat.pow_add]
    exact Nat.mul_le_mul_left _ (Nat.pow_le_pow_right (by decide) hi)
  rw [Nat.mul_right_comm] at s1
  exact Nat.lt_of_mul_lt_mul_right (Nat.lt_of_lt_of_le s1 s2)
theorem le_scale {O U j i j' i' : Nat} (h : U * 2 ^ i ≤ O * 2 ^ j) (hi : i' + j ≤ i + j') : U * 2 ^ i' ≤ O * 2 ^ j' := by
  have s1 : U * 2 ^ i * 2 ^ j' ≤ O * 2 ^ j * 2 ^ j' := Nat.mul_le_mul_right _ h
  have s2 : U * 2 ^ i' * 2 ^ j ≤ U * 2 ^ i * 2 ^ j' := by
    rw [Nat.mul_assoc, Nat.mul_assoc, ← Nat.pow_add, ← Nat.pow_add]
    exact Nat.mul_le_mul_left _ (Nat.pow_le_pow_right (by decide) hi)
  rw [Nat.mul_right_comm O] at s1
  exact Nat.le_of_mul_le_mul_right (Nat.le_trans s2 s1) (Nat.two_pow_pos _)
/-- How far up, how far down a unit moves. -/
def upA (n : Int) : Nat := (-n).toNat
def upB (n : Int) : Nat := n.toNat
/-- The unit of a quotient of numbers of x and y digits of 2. -/
def hiOf (O U x y : Nat) : Int := if O * 2 ^ upA ((x : Int) - y) < U * 2 ^ upB ((x : Int) - y) then (x : Int) - y - 1 else (x : Int) - y
def uOf12 (h : Int) : Int := if h - 52 < -1074 then -1074 else h - 52
/-- A number has x digits of 2. -/
def Len2 (O x : Nat) : Prop := 1 ≤ x ∧ 2 ^ (x - 1) ≤ O ∧ O < 2 ^ x
theorem Len2.up {O x : Nat} (h : Len2 O x) (n : Nat) : Len2 (O * 2 ^ n) (x + n) := by
  obtain ⟨h0, h1, h2⟩ := h
  refine ⟨by omega, ?_, ?_⟩
  · rw [show x + n - 1 = (x - 1) + n by omega, Nat.pow_add]
    exact Nat.mul_le_mul_right _ h1
  · rw [Nat.pow_add]
    exact Nat.mul_lt_mul_of_pos_right h2 (Nat.two_pow_pos _)
theorem Len2.pos {O x : Nat} (h : Len2 O x) : 0 < O := Nat.lt_of_lt_of_le (Nat.two_pow_pos _) h.2.1
theorem Len2.less {O U x y : Nat} (h : Len2 O x) (k : Len2 U y) (hx : x < y) : O < U :=
  Nat.lt_of_lt_of_le h.2.2 (Nat.le_trans (Nat.pow_le_pow_right (by decide) (by omega)) k.2.1)
/-- The quotient lies from 2^g on, and below 2^(g+1). -/
theorem hi_is {O U x y : Nat} (h : Len2 O x) (k : Len2 U y) : U * 2 ^ upB (hiOf O U x y) ≤ O * 2 ^ upA (hiOf O U x y) ∧ O * 2 ^ upA (hiOf O U x y) < U * 2 ^ (upB (hiOf O U x y) + 1) := by
  obtain ⟨a, ha⟩ : ∃ a, a = upA ((x : Int) - y) := ⟨_, rfl⟩
  obtain ⟨b, hb⟩ : ∃ b, b = upB ((x : Int) - y) := ⟨_, rfl⟩
  have hab : x + a = y + b := by unfold upA upB at *; omega
  have h' := h.up a
  have k' := k.up b
  unfold hiOf
  rw [← ha, ← hb]
  by_cases c : O * 2 ^ a < U * 2 ^ b
  · rw [if_pos c]
    have t1 : U * 2 ^ b < O * 2 ^ (a + 1) := by
      rw [Nat.pow_succ, ← Nat.mul_assoc]
      have s1 := k'.2.2
      have s2 := h'.2.1
      have s3 : 2 ^ (y + b) = 2 ^ (x + a - 1) * 2 := by rw [← Nat.pow_succ]; congr 1; have := h'.1; omega
      omega
    refine ⟨?_, ?_⟩
    · exact le_scale (Nat.le_of_lt t1) (by unfold upA upB at *; omega)
    · exact lt_scale c (by unfold upA upB at *; omega)
  · rw [if_neg c, ← ha, ← hb]
    refine ⟨by omega, ?_⟩
    rw [Nat.pow_succ, ← Nat.mul_assoc]
    have s1 := h'.2.2
    have s2 := k'.2.1
    have s3 : 2 ^ (x + a) = 2 ^ (y + b - 1) * 2 := by rw [← Nat.pow_succ]; congr 1; have := k'.1; omega
    omega
theorem hi_bounds {O U x y : Nat} : (x : Int) - y - 1 ≤ hiOf O U x y ∧ hiOf O U x y ≤ (x : Int) - y := by
  unfold hiOf
  split <;> omega
/-- What the unit is good for: the whole part has 53 digits of 2, or fewer where the unit is the least one. -/
theorem unit_is {O U x y : Nat} (h : Len2 O x) (k : Len2 U y) :
    O * 2 ^ upA (uOf12 (hiOf O U x y)) / (U * 2 ^ upB (uOf12 (hiOf O U x y))) < 9007199254740992 ∧ (4503599627370496 ≤ O * 2 ^ upA (uOf12 (hiOf O U x y)) / (U * 2 ^ upB (uOf12 (hiOf O U x y))) ∨ uOf12 (hiOf O U x y) = -1074) := by
  obtain ⟨h1, h2⟩ := hi_is h k
  generalize hiOf O U x y = g at *
  have hU := k.pos
  have hp : 0 < U * 2 ^ upB (uOf12 g) := Nat.mul_pos hU (Nat.two_pow_pos _)
  obtain ⟨u, hu⟩ : ∃ u, u = 52 := ⟨_, rfl⟩
  have e52 : 4503599627370496 = 2 ^ u := by rw [hu]
  have e53 : 9007199254740992 = 2 ^ (u + 1) := by rw [hu]
  refine ⟨?_, ?_⟩
  · rw [e53]
    refine Nat.div_lt_of_lt_mul ?_
    rw [Nat.mul_assoc, ← Nat.pow_add]
    refine lt_scale h2 ?_
    unfold upA upB uOf12
    split <;> omega
  · by_cases c : g - 52 < -1074
    · right; unfold uOf12; rw [if_pos c]
    · left
      rw [Nat.le_div_iff_mul_le hp, e52, Nat.mul_comm (2 ^ u), Nat.mul_assoc, ← Nat.pow_add]
      refine le_scale h1 ?_
      unfold upA upB uOf12
      rw [if_neg c]
      omega
/-- The nearest pattern to a quotient, in units of 2^-1074. -/
theorem near_unit {O U x y : Nat} {u : Int} (h : Len2 O x) (k : Len2 U y) (hu : u = uOf12 (hiOf O U x y)) :
    NearIs (O * uu 1074) U (min (upQ (O * 2 ^ upA u / (U * 2 ^ upB u)) (O * 2 ^ upA u % (U * 2 ^ upB u)) (U * 2 ^ upB u) + (u + 1074).toNat * 4503599627370496) 9218868437227405312) := by
  obtain ⟨h1, h2⟩ := unit_is h k
  rw [← hu] at h1 h2
  have hU := k.pos
  have hub : -1074 ≤ u := by rw [hu]; unfold uOf12; split <;> omega
  obtain ⟨n, hn⟩ : ∃ n : Nat, (n : Int) = u + 1074 := ⟨(u + 1074).toNat, by omega⟩
  rw [show (u + 1074).toNat = n by omega]
  obtain ⟨N, hN⟩ : ∃ N : Nat, N = 1074 := ⟨_, rfl⟩
  rw [← hN]
  obtain ⟨c, hc⟩ : ∃ c : Nat, c + upA u = N := ⟨N - upA u, by unfold upA; omega⟩
  have hnc : upB u + c = n := by unfold upB; unfold upA at hc; omega
  have eU : U * 2 ^ upB u * 2 ^ c = U * 2 ^ n := by rw [Nat.mul_assoc, ← Nat.pow_add, hnc]
  have eO : O * 2 ^ upA u * 2 ^ c = O * uu N := by rw [Nat.mul_assoc, ← Nat.pow_add, Nat.add_comm (upA u), hc]; rfl
  have hpos : 0 < U * 2 ^ upB u := Nat.mul_pos hU (Nat.two_pow_pos _)
  have hdm := Nat.div_add_mod (O * 2 ^ upA u) (U * 2 ^ upB u)
  have hlt := Nat.mod_lt (O * 2 ^ upA u) hpos
  generalize O * 2 ^ upA u / (U * 2 ^ upB u) = q at *
  generalize O * 2 ^ upA u % (U * 2 ^ upB u) = r at *
  have hpc := Nat.two_pow_pos c
  have hq : O * uu N = q * (U * 2 ^ n) + r * 2 ^ c := by
    rw [← eU, ← eO, ← hdm, Nat.add_mul, Nat.mul_comm _ q, Nat.mul_assoc]
  have hr : r * 2 ^ c < U * 2 ^ n := by rw [← eU]; exact Nat.mul_lt_mul_of_pos_right hlt hpc
  have := near_div (k := n) hU hq hr h1 (by rcases h2 with h2 | h2; exact .inl h2; exact .inr (by omega))
  have eq : upQ q (r * 2 ^ c) (U * 2 ^ n) = upQ q r (U * 2 ^ upB u) := by
    unfold upQ
    rw [← eU]
    generalize U * 2 ^ upB u = D at *
    have a1 : D * 2 ^ c < 2 * (r * 2 ^ c) ↔ D < 2 * r := by
      rw [← Nat.mul_assoc]
      exact Nat.mul_lt_mul_right hpc
    have a2 : 2 * (r * 2 ^ c) = D * 2 ^ c ↔ 2 * r = D := by
      rw [← Nat.mul_assoc]
      exact Nat.mul_left_inj (by omega)
    simp only [a1, a2]
  rw [eq] at this
  exact this
/-! ### Decimals beyond all bounds, as the program has them -/
theorem dn324 : uu 1075 ≤ 10 ^ 324 := by decide +kernel
theorem up309 : ∀ n, n = 1024 → 2 ^ n ≤ 10 ^ 309 := by
  intro n hn
  rw [hn]
  decide +kernel
theorem gone_dn {l : List UInt8} {x : Int} (hd : Dgs l) (hx : x < -323) : NearIs (dA l x) (dB l x) 0 := by
  refine near_none (dB_pos l x) ?_
  unfold dA dB
  have h1 := Nat.le_of_lt (nd_lt hd)
  have e1 : (x - (l.length : Int)).toNat = 0 := by omega
  rw [e1, Nat.pow_zero, Nat.mul_one]
  have s1 : 2 * (nd l * uu 1074) ≤ 2 * (10 ^ l.length * uu 1074) := Nat.mul_le_mul_left 2 (Nat.mul_le_mul_right _ h1)
  have s2 : 2 * (10 ^ l.length * uu 1074) = 10 ^ l.length * uu 1075 := by rw [show uu 1075 = 2 * uu 1074 from uu_step 1074]; exact Nat.mul_left_comm _ _ _
  have s3 := dn324
  obtain ⟨b, hb⟩ : ∃ b, b = 324 := ⟨_, rfl⟩
  rw [← hb] at s3
  have s4 : 10 ^ l.length * uu 1075 ≤ 10 ^ l.length * 10 ^ b := Nat.mul_le_mul_left _ s3
  rw [← Nat.pow_add] at s4
  have s5 : 10 ^ (l.length + b) ≤ 10 ^ ((l.length : Int) - x).toNat := Nat.pow_le_pow_right (by decide) (by omega)
  rw [s2] at s1
  exact Nat.le_trans s1 (Nat.le_trans s4 s5)
theorem gone_up {l : List UInt8} {x : Int} (h1 : 10 ^ (l.length - 1) ≤ nd l) (hl : 1 ≤ l.length) (hx : 309 < x) : NearIs (dA l x) (dB l x) 9218868437227405312 := by
  obtain ⟨n, hn⟩ : ∃ n, n = 2098 := ⟨_, rfl⟩
  refine near_beyond hn (dB_pos l x) ?_
  unfold dA dB
  obtain ⟨a, ha⟩ : ∃ a, a = 1024 := ⟨_, rfl⟩
  have p1 := up309 a ha
  obtain ⟨b, hb⟩ : ∃ b, b = 309 := ⟨_, rfl⟩
  rw [← hb] at p1
  rw [uu_split (n := n) (a := a) (b := 1074) (by omega)]
  clear hn
  generalize 2 ^ a = P at *
  have s1 : P * uu 1074 * 10 ^ ((l.length : Int) - x).toNat ≤ 10 ^ b * uu 1074 * 10 ^ ((l.length : Int) - x).toNat := Nat.mul_le_mul_right _ (Nat.mul_le_mul_right _ p1)
  have s2 : 10 ^ b * uu 1074 * 10 ^ ((l.length : Int) - x).toNat = 10 ^ (b + ((l.length : Int) - x).toNat) * uu 1074 := by rw [Nat.pow_add]; exact Nat.mul_right_comm _ _ _
  have s3 : 10 ^ (b + ((l.length : Int) - x).toNat) * uu 1074 ≤ 10 ^ (l.length - 1 + (x - (l.length : Int)).toNat) * uu 1074 := Nat.mul_le_mul_right _ (Nat.pow_le_pow_right (by decide) (by omega))
  have s4 : 10 ^ (l.length - 1 + (x - (l.length : Int)).toNat) * uu 1074 ≤ nd l * 10 ^ (x - (l.length : Int)).toNat * uu 1074 := by
    rw [Nat.pow_add]
    exact Nat.mul_le_mul_right _ (Nat.mul_le_mul_right _ h1)
  rw [s2] at s1
  exact Nat.le_trans s1 (Nat.le_trans s3 s4)
/-- Noughts ahead are an exponent. -/
theorem front_split (l : List UInt8) : ∃ k : Nat, l = List.replicate k 48 ++ Lib.trimLeftB l 48 ∧ (Lib.trimLeftB l 48 = [] ∨ (Lib.trimLeftB l 48).getD 0 0 ≠ 48) := by
  induction l with
  | nil => exact ⟨0, rfl, .inl rfl⟩
  | cons c m ih =>
    unfold Lib.trimLeftB at *
    by_cases hc : c = 48
    · obtain ⟨k, h1, h2⟩ := ih
      subst hc
      refine ⟨k + 1, ?_, ?_⟩
      · rw [List.replicate_succ]
        simp only [List.dropWhile_cons, beq_self_eq_true, if_true, List.cons_append]
        rw [← h1]
      · simpa [List.dropWhile_cons] using h2
    · refine ⟨0, ?_, .inr ?_⟩
      · simp [hc]
      · simp [hc]
end Go.Proofs.YtojpfmlmalmlcaaGreatDoor
