/-
  The nearest pattern by a quotient's whole part and what is left; the quotient's unit by its lengths: pure. No condition beyond what each lemma asks.
-/
import Derived.Test.YtemkllnnemadeaaDoorNearAns12
import Derived.Test.YtemkllnnemadeaaDoorClip12
import Derived.Test.YtemkllnnemadeaaDoorRefO12
import Derived.Lib.TrimByte
namespace Go.Proofs.YtemkllnnemadeaaDoor
open Go.RowKit

theorem vN_unit {q k : Nat} (h1 : q < 9007199254740992) (h2 : 4503599627370496 ≤ q ∨ k = 0) :
    vN (q + k * 4503599627370496) = q * 2 ^ k ∧ vN (q + k * 4503599627370496 + 1) = q * 2 ^ k + 2 ^ k := by
  have key : vN (q + k * 4503599627370496) = q * 2 ^ k ∧ (q + k * 4503599627370496) / 4503599627370496 - 1 = k := by
    by_cases c : q < 4503599627370496
    · have hk : k = 0 := by omega
      subst hk
      refine ⟨?_, by omega⟩
      rw [Nat.zero_mul, Nat.add_zero, vN_low c, Nat.pow_zero, Nat.mul_one]
    · have e1 : (q + k * 4503599627370496) % 4503599627370496 = q - 4503599627370496 := by omega
      have e2 : (q + k * 4503599627370496) / 4503599627370496 - 1 = k := by omega
      refine ⟨?_, e2⟩
      rw [vN_at (by omega) e1 e2, show 4503599627370496 + (q - 4503599627370496) = q by omega]
  refine ⟨key.1, ?_⟩
  rw [vN_step, key.2, key.1]

/-- Half of it or more is left: up, or down. -/
def upQ (q r d : Nat) : Nat := if d < 2 * r ∨ (2 * r = d ∧ q % 2 = 1) then q + 1 else q
theorem near_core {A B q r lo D : Nat} (hB : 0 < B) (f1 : vN lo * B = q * D) (f2 : (vN lo + vN (lo + 1)) * B = 2 * (q * D) + D) (f3 : vN (lo + 1) * B = q * D + D)
    (hq : A = q * D + r) (hr : r < D) (c : lo ≤ 9218868437227405311) (par : lo % 2 = q % 2) : NearIs A B (if D < 2 * r ∨ (2 * r = D ∧ q % 2 = 1) then lo + 1 else lo) := by
  generalize q * D = Q at *
  by_cases hu : D < 2 * r ∨ (2 * r = D ∧ q % 2 = 1)
  · rw [if_pos hu]
    refine near_hi hB c (.inr (by omega)) ?_
    rcases hu with hu | ⟨hu, hu2⟩
    · exact .inl (by omega)
    · exact .inr ⟨by omega, by omega⟩
  · rw [if_neg hu]
    refine near_lo hB c (by omega) ?_
    by_cases he : 2 * r = D
    · exact .inr ⟨by omega, by omega⟩
    · exact .inl (by omega)
theorem near_past {A B q r k : Nat} (hB : 0 < B) (hq : A = q * (B * 2 ^ k) + r) (hk : 2046 ≤ k) (hq2 : 4503599627370496 ≤ q) : NearIs A B 9218868437227405312 := by
  obtain ⟨n, hn⟩ : ∃ n, n = 2098 := ⟨_, rfl⟩
  refine near_beyond hn hB ?_
  obtain ⟨u, hu⟩ : ∃ u, u = 52 := ⟨_, rfl⟩
  have e52 : 4503599627370496 = 2 ^ u := by rw [hu]
  rw [e52] at hq2
  have s1 : 2 ^ u * (B * 2 ^ k) ≤ q * (B * 2 ^ k) := Nat.mul_le_mul_right _ hq2
  have s2 : 2 ^ n * B ≤ 2 ^ u * (B * 2 ^ k) := by
    rw [Nat.mul_comm B, ← Nat.mul_assoc, ← Nat.pow_add]
    exact Nat.mul_le_mul_right _ (Nat.pow_le_pow_right (by decide) (by omega))
  rw [hq]
  exact Nat.le_trans s2 (Nat.le_trans s1 (Nat.le_add_right _ _))
theorem near_div {A B q r k : Nat} (hB : 0 < B) (hq : A = q * (B * 2 ^ k) + r) (hr : r < B * 2 ^ k) (h1 : q < 9007199254740992) (h2 : 4503599627370496 ≤ q ∨ k = 0) :
    NearIs A B (min (upQ q r (B * 2 ^ k) + k * 4503599627370496) 9218868437227405312) := by
  by_cases c : q + k * 4503599627370496 ≤ 9218868437227405311
  · obtain ⟨v1, v2⟩ := vN_unit h1 h2
    have par : (q + k * 4503599627370496) % 2 = q % 2 := by omega
    have e : min (upQ q r (B * 2 ^ k) + k * 4503599627370496) 9218868437227405312 = if B * 2 ^ k < 2 * r ∨ (2 * r = B * 2 ^ k ∧ q % 2 = 1) then q + k * 4503599627370496 + 1 else q + k * 4503599627370496 := by
      unfold upQ
      split
      · clear hq hr v1 v2; omega
      · clear hq hr v1 v2; omega
    rw [e]
    clear e
    obtain ⟨lo, hlo⟩ : ∃ lo, lo = q + k * 4503599627370496 := ⟨_, rfl⟩
    rw [← hlo] at v1 v2 c par ⊢
    clear hlo h1 h2
    have f1 : vN lo * B = q * (B * 2 ^ k) := by rw [v1, Nat.mul_assoc, Nat.mul_comm (2 ^ k)]
    have f3 : vN (lo + 1) * B = q * (B * 2 ^ k) + B * 2 ^ k := by rw [v2, Nat.add_mul, Nat.mul_assoc, Nat.mul_comm (2 ^ k)]
    have f2 : (vN lo + vN (lo + 1)) * B = 2 * (q * (B * 2 ^ k)) + B * 2 ^ k := by rw [Nat.add_mul, f1, f3]; omega
    exact near_core hB f1 f2 f3 hq hr c par
  · have e : min (upQ q r (B * 2 ^ k) + k * 4503599627370496) 9218868437227405312 = 9218868437227405312 := by
      have : q ≤ upQ q r (B * 2 ^ k) := by unfold upQ; split <;> omega
      clear hq hr
      omega
    rw [e]
    exact near_past hB hq (by omega) (by omega)

/-- The pattern of m in that unit. -/
theorem join_at {m k : Nat} (hm : m ≤ 9007199254740992) (h : 4503599627370496 ≤ m ∨ k = 0) :
    joinP m ((k : Int) - 1074) = if m + k * 4503599627370496 < 9218868437227405312 then some (m + k * 4503599627370496) else none := by
  by_cases m0 : m = 0
  · have hk : k = 0 := by omega
    subst m0 hk
    rfl
  by_cases m53 : m = 9007199254740992
  · have e1 : ∀ e : Int, joinP 9007199254740992 e = joinO 1 1 (e + 53) := fun e => by
      have a1 : oOf 9007199254740992 = 1 := by decide +kernel
      have a2 : lOf 9007199254740992 = 1 := by decide +kernel
      have a3 : tOf 9007199254740992 = 53 := by decide +kernel
      unfold joinP
      rw [if_neg (by decide), a1, a2, a3]
      rfl
    have e2 : ∀ e : Int, joinP 4503599627370496 e = joinO 1 1 (e + 52) := fun e => by
      have a1 : oOf 4503599627370496 = 1 := by decide +kernel
      have a2 : lOf 4503599627370496 = 1 := by decide +kernel
      have a3 : tOf 4503599627370496 = 52 := by decide +kernel
      unfold joinP
      rw [if_neg (by decide), a1, a2, a3]
      rfl
    subst m53
    by_cases c : 9007199254740992 + k * 4503599627370496 < 9218868437227405312
    · rw [if_pos c]
      have hb := join_back c
      have e3 : mOf (9007199254740992 + k * 4503599627370496) = 4503599627370496 := by
        unfold mOf
        rw [if_neg (by omega), if_pos c]
        omega
      have e4 : eOf (9007199254740992 + k * 4503599627370496) = (k : Int) - 1073 := by
        unfold eOf
        rw [if_neg (by omega), if_neg (by omega), if_pos c]
        omega
      rw [e3, e4, e2] at hb
      rw [e1, ← hb]
      congr 1
      omega
    · rw [if_neg c, e1]
      have hu : uOf 1 ((k : Int) - 1074 + 53) = (k : Int) - 1073 := by unfold uOf; rw [if_neg (by omega)]; omega
      unfold joinO
      rw [hu, if_neg (by omega), if_pos (by omega)]
  by_cases c : m + k * 4503599627370496 < 9218868437227405312
  · rw [if_pos c]
    have hb := join_back c
    have e3 : mOf (m + k * 4503599627370496) = m := by
      unfold mOf
      by_cases c1 : m < 4503599627370496
      · rw [if_pos (by omega)]; omega
      · rw [if_neg (by omega), if_pos c]; omega
    have e4 : eOf (m + k * 4503599627370496) = (k : Int) - 1074 := by
      unfold eOf
      rw [if_neg (by omega)]
      by_cases c1 : m < 4503599627370496
      · rw [if_pos (by omega)]; omega
      · rw [if_neg (by omega), if_pos c]; omega
    rw [e3, e4] at hb
    exact hb
  · rw [if_neg c]
    have ho := odd_of (m := m) (by omega) (by omega)
    unfold joinP
    rw [if_neg m0]
    generalize oOf m = o at *
    generalize tOf m = t at *
    generalize lOf m = l at *
    obtain ⟨eq, _, lo, hi, pos, fit⟩ := ho
    have h1 : l - 1 + t < 53 := by
      apply Nat.lt_of_not_le
      intro hle
      have a1 : 2 ^ (l - 1) * 2 ^ t ≤ o * 2 ^ t := Nat.mul_le_mul_right _ lo
      rw [← Nat.pow_add, ← eq] at a1
      have a2 : 2 ^ 53 ≤ 2 ^ (l - 1 + t) := Nat.pow_le_pow_right (by decide) hle
      omega
    have h2 : 53 ≤ l + t := by
      apply Nat.le_of_not_lt
      intro hlt
      have a1 : o * 2 ^ t < 2 ^ l * 2 ^ t := Nat.mul_lt_mul_of_pos_right hi (Nat.two_pow_pos t)
      rw [← Nat.pow_add, ← eq] at a1
      have a2 : 2 ^ (l + t) ≤ 2 ^ 52 := Nat.pow_le_pow_right (by decide) (by omega)
      omega
    have hu : uOf l ((k : Int) - 1074 + (t : Int)) = (k : Int) - 1074 := by unfold uOf; rw [if_neg (by omega)]; omega
    clear eq
    unfold joinO
    rw [hu, if_neg (by omega), if_pos (by omega)]

/-- What Join answers of the nearest one. -/
theorem join_near {m k : Nat} (hm : m ≤ 9007199254740992) (h : 4503599627370496 ≤ m ∨ k = 0) :
    jPat false (joinP m ((k : Int) - 1074)) = rdP (min (m + k * 4503599627370496) 9218868437227405312) ∧ (joinP m ((k : Int) - 1074)).isSome = rdB (min (m + k * 4503599627370496) 9218868437227405312) := by
  rw [join_at hm h]
  unfold rdP rdB
  by_cases c : m + k * 4503599627370496 < 9218868437227405312
  · rw [if_pos c, show min (m + k * 4503599627370496) 9218868437227405312 = m + k * 4503599627370496 by omega, if_neg (by omega)]
    refine ⟨rfl, ?_⟩
    rw [decide_eq_true (by omega)]
    rfl
  · rw [if_neg c, show min (m + k * 4503599627370496) 9218868437227405312 = 9218868437227405312 by omega, if_pos rfl]
    exact ⟨rfl, rfl⟩

/-! ### Powers of two on both sides -/
theorem lt_scale {O U j i j' i' : Nat} (h : O * 2 ^ j < U * 2 ^ i) (hi : i + j' ≤ i' + j) : O * 2 ^ j' < U * 2 ^ i' := by
  have s1 : O * 2 ^ j * 2 ^ j' < U * 2 ^ i * 2 ^ j' := Nat.mul_lt_mul_of_pos_right h (Nat.two_pow_pos _)
  have s2 : U * 2 ^ i * 2 ^ j' ≤ U * 2 ^ i' * 2 ^ j := by
    rw [Nat.mul_assoc, Nat.mul_assoc, ← Nat.pow_add, ← Nat.pow_add]
    exact Nat.mul_le_mul_left _ (Nat.pow_le_pow_right (by decide) hi)
  rw [Nat.mul_right_comm] at s1
  exact Nat.lt_of_mul_lt_mul_right (Nat.lt_of_lt_of_le s1 s2)
theorem le_scale {O U j i j' i' : Nat} (h : U * 2 ^ i ≤ O * 2 ^ j) (hi : i' + j ≤ i + j') : U * 2 ^ i' ≤ O * 2 ^ j' := by
  have s1 : U * 2 ^ i * 2 ^ j' ≤ O * 2 ^ j * 2 ^ j' := Nat.mul_le_mul_right _ h
  have s2 : U * 2 ^ i' * 2 ^ j ≤ U * 2 ^ i * 2 ^ j' := by
    rw [Nat.mul_assoc, Nat.mul_assoc, ← Nat.pow_add, ← Nat.pow_add]
    exact Nat.mul_le_mul_left _ (Nat.pow_le_pow_right (by decide) hi)
  rw [Nat.mul_right_comm O] at s1
  exact Nat.le_of_mul_le_mul_right (Nat.le_trans s2 s1) (Nat.two_pow_pos _)

/-- How far up, how far down a unit moves. -/
def upA (n : Int) : Nat := (-n).toNat
def upB (n : Int) : Nat := n.toNat
/-- The unit of a quotient of numbers of x and y digits of 2. -/
def hiOf (O U x y : Nat) : Int := if O * 2 ^ upA ((x : Int) - y) < U * 2 ^ upB ((x : Int) - y) then (x : Int) - y - 1 else (x : Int) - y
def uOf12 (h : Int) : Int := if h - 52 < -1074 then -1074 else h - 52
/-- A number has x digits of 2. -/
def Len2 (O x : Nat) : Prop := 1 ≤ x ∧ 2 ^ (x - 1) ≤ O ∧ O < 2 ^ x
theorem Len2.up {O x : Nat} (h : Len2 O x) (n : Nat) : Len2 (O * 2 ^ n) (x + n) := by
  obtain ⟨h0, h1, h2⟩ := h
  refine ⟨by omega, ?_, ?_⟩
  · rw [show x + n - 1 = (x - 1) + n by omega, Nat.pow_add]
    exact Nat.mul_le_mul_right _ h1
  · rw [Nat.pow_add]
    exact Nat.mul_lt_mul_of_pos_right h2 (Nat.two_pow_pos _)
theorem Len2.pos {O x : Nat} (h : Len2 O x) : 0 < O := Nat.lt_of_lt_of_le (Nat.two_pow_pos _) h.2.1
theorem Len2.less {O U x y : Nat} (h : Len2 O x) (k : Len2 U y) (hx : x < y) : O < U :=
  Nat.lt_of_lt_of_le h.2.2 (Nat.le_trans (Nat.pow_le_pow_right (by decide) (by omega)) k.2.1)
/-- The quotient lies from 2^g on, and below 2^(g+1). -/
theorem hi_is {O U x y : Nat} (h : Len2 O x) (k : Len2 U y) : U * 2 ^ upB (hiOf O U x y) ≤ O * 2 ^ upA (hiOf O U x y) ∧ O * 2 ^ upA (hiOf O U x y) < U * 2 ^ (upB (hiOf O U x y) + 1) := by
  obtain ⟨a, ha⟩ : ∃ a, a = upA ((x : Int) - y) := ⟨_, rfl⟩
  obtain ⟨b, hb⟩ : ∃ b, b = upB ((x : Int) - y) := ⟨_, rfl⟩
  have hab : x + a = y + b := by unfold upA upB at *; omega
  have h' := h.up a
  have k' := k.up b
  unfold hiOf
  rw [← ha, ← hb]
  by_cases c : O * 2 ^ a < U * 2 ^ b
  · rw [if_pos c]
    have t1 : U * 2 ^ b < O * 2 ^ (a + 1) := by
      rw [Nat.pow_succ, ← Nat.mul_assoc]
      have s1 := k'.2.2
      have s2 := h'.2.1
      have s3 : 2 ^ (y + b) = 2 ^ (x + a - 1) * 2 := by rw [← Nat.pow_succ]; congr 1; have := h'.1; omega
      omega
    refine ⟨?_, ?_⟩
    · exact le_scale (Nat.le_of_lt t1) (by unfold upA upB at *; omega)
    · exact lt_scale c (by unfold upA upB at *; omega)
  · rw [if_neg c, ← ha, ← hb]
    refine ⟨by omega, ?_⟩
    rw [Nat.pow_succ, ← Nat.mul_assoc]
    have s1 := h'.2.2
    have s2 := k'.2.1
    have s3 : 2 ^ (x + a) = 2 ^ (y + b - 1) * 2 := by rw [← Nat.pow_succ]; congr 1; have := k'.1; omega
    omega
theorem hi_bounds {O U x y : Nat} : (x : Int) - y - 1 ≤ hiOf O U x y ∧ hiOf O U x y ≤ (x : Int) - y := by
  unfold hiOf
  split <;> omega

/-- What the unit is good for: the whole part has 53 digits of 2, or fewer where the unit is the least one. -/
theorem unit_is {O U x y : Nat} (h : Len2 O x) (k : Len2 U y) :
    O * 2 ^ upA (uOf12 (hiOf O U x y)) / (U * 2 ^ upB (uOf12 (hiOf O U x y))) < 9007199254740992 ∧ (4503599627370496 ≤ O * 2 ^ upA (uOf12 (hiOf O U x y)) / (U * 2 ^ upB (uOf12 (hiOf O U x y))) ∨ uOf12 (hiOf O U x y) = -1074) := by
  obtain ⟨h1, h2⟩ := hi_is h k
  generalize hiOf O U x y = g at *
  have hU := k.pos
  have hp : 0 < U * 2 ^ upB (uOf12 g) := Nat.mul_pos hU (Nat.two_pow_pos _)
  obtain ⟨u, hu⟩ : ∃ u, u = 52 := ⟨_, rfl⟩
  have e52 : 4503599627370496 = 2 ^ u := by rw [hu]
  have e53 : 9007199254740992 = 2 ^ (u + 1) := by rw [hu]
  refine ⟨?_, ?_⟩
  · rw [e53]
    refine Nat.div_lt_of_lt_mul ?_
    rw [Nat.mul_assoc, ← Nat.pow_add]
    refine lt_scale h2 ?_
    unfold upA upB uOf12
    split <;> omega
  · by_cases c : g - 52 < -1074
    · right; unfold uOf12; rw [if_pos c]
    · left
      rw [Nat.le_div_iff_mul_le hp, e52, Nat.mul_comm (2 ^ u), Nat.mul_assoc, ← Nat.pow_add]
      refine le_scale h1 ?_
      unfold upA upB uOf12
      rw [if_neg c]
      omega

/-- The nearest pattern to a quotient, in units of 2^-1074. -/
theorem near_unit {O U x y : Nat} {u : Int} (h : Len2 O x) (k : Len2 U y) (hu : u = uOf12 (hiOf O U x y)) :
    NearIs (O * uu 1074) U (min (upQ (O * 2 ^ upA u / (U * 2 ^ upB u)) (O * 2 ^ upA u % (U * 2 ^ upB u)) (U * 2 ^ upB u) + (u + 1074).toNat * 4503599627370496) 9218868437227405312) := by
  obtain ⟨h1, h2⟩ := unit_is h k
  rw [← hu] at h1 h2
  have hU := k.pos
  have hub : -1074 ≤ u := by rw [hu]; unfold uOf12; split <;> omega
  obtain ⟨n, hn⟩ : ∃ n : Nat, (n : Int) = u + 1074 := ⟨(u + 1074).toNat, by omega⟩
  rw [show (u + 1074).toNat = n by omega]
  obtain ⟨N, hN⟩ : ∃ N : Nat, N = 1074 := ⟨_, rfl⟩
  rw [← hN]
  obtain ⟨c, hc⟩ : ∃ c : Nat, c + upA u = N := ⟨N - upA u, by unfold upA; omega⟩
  have hnc : upB u + c = n := by unfold upB; unfold upA at hc; omega
  have eU : U * 2 ^ upB u * 2 ^ c = U * 2 ^ n := by rw [Nat.mul_assoc, ← Nat.pow_add, hnc]
  have eO : O * 2 ^ upA u * 2 ^ c = O * uu N := by rw [Nat.mul_assoc, ← Nat.pow_add, Nat.add_comm (upA u), hc]; rfl
  have hpos : 0 < U * 2 ^ upB u := Nat.mul_pos hU (Nat.two_pow_pos _)
  have hdm := Nat.div_add_mod (O * 2 ^ upA u) (U * 2 ^ upB u)
  have hlt := Nat.mod_lt (O * 2 ^ upA u) hpos
  generalize O * 2 ^ upA u / (U * 2 ^ upB u) = q at *
  generalize O * 2 ^ upA u % (U * 2 ^ upB u) = r at *
  have hpc := Nat.two_pow_pos c
  have hq : O * uu N = q * (U * 2 ^ n) + r * 2 ^ c := by
    rw [← eU, ← eO, ← hdm, Nat.add_mul, Nat.mul_comm _ q, Nat.mul_assoc]
  have hr : r * 2 ^ c < U * 2 ^ n := by rw [← eU]; exact Nat.mul_lt_mul_of_pos_right hlt hpc
  have := near_div (k := n) hU hq hr h1 (by rcases h2 with h2 | h2; exact .inl h2; exact .inr (by omega))
  have eq : upQ q (r * 2 ^ c) (U * 2 ^ n) = upQ q r (U * 2 ^ upB u) := by
    unfold upQ
    rw [← eU]
    generalize U * 2 ^ upB u = D at *
    have a1 : D * 2 ^ c < 2 * (r * 2 ^ c) ↔ D < 2 * r := by
      rw [← Nat.mul_assoc]
      exact Nat.mul_lt_mul_right hpc
    have a2 : 2 * (r * 2 ^ c) = D * 2 ^ c ↔ 2 * r = D := by
      rw [← Nat.mul_assoc]
      exact Nat.mul_left_inj (by omega)
    simp only [a1, a2]
  rw [eq] at this
  exact this

/-! ### Decimals beyond all bounds, as the program has them -/
theorem dn324 : uu 1075 ≤ 10 ^ 324 := by decide +kernel
theorem up309 : ∀ n, n = 1024 → 2 ^ n ≤ 10 ^ 309 := by
  intro n hn
  rw [hn]
  decide +kernel
theorem gone_dn {l : List UInt8} {x : Int} (hd : Dgs l) (hx : x < -323) : NearIs (dA l x) (dB l x) 0 := by
  refine near_none (dB_pos l x) ?_
  unfold dA dB
  have h1 := Nat.le_of_lt (nd_lt hd)
  have e1 : (x - (l.length : Int)).toNat = 0 := by omega
  rw [e1, Nat.pow_zero, Nat.mul_one]
  have s1 : 2 * (nd l * uu 1074) ≤ 2 * (10 ^ l.length * uu 1074) := Nat.mul_le_mul_left 2 (Nat.mul_le_mul_right _ h1)
  have s2 : 2 * (10 ^ l.length * uu 1074) = 10 ^ l.length * uu 1075 := by rw [show uu 1075 = 2 * uu 1074 from uu_step 1074]; exact Nat.mul_left_comm _ _ _
  have s3 := dn324
  obtain ⟨b, hb⟩ : ∃ b, b = 324 := ⟨_, rfl⟩
  rw [← hb] at s3
  have s4 : 10 ^ l.length * uu 1075 ≤ 10 ^ l.length * 10 ^ b := Nat.mul_le_mul_left _ s3
  rw [← Nat.pow_add] at s4
  have s5 : 10 ^ (l.length + b) ≤ 10 ^ ((l.length : Int) - x).toNat := Nat.pow_le_pow_right (by decide) (by omega)
  rw [s2] at s1
  exact Nat.le_trans s1 (Nat.le_trans s4 s5)
theorem gone_up {l : List UInt8} {x : Int} (h1 : 10 ^ (l.length - 1) ≤ nd l) (hl : 1 ≤ l.length) (hx : 309 < x) : NearIs (dA l x) (dB l x) 9218868437227405312 := by
  obtain ⟨n, hn⟩ : ∃ n, n = 2098 := ⟨_, rfl⟩
  refine near_beyond hn (dB_pos l x) ?_
  unfold dA dB
  obtain ⟨a, ha⟩ : ∃ a, a = 1024 := ⟨_, rfl⟩
  have p1 := up309 a ha
  obtain ⟨b, hb⟩ : ∃ b, b = 309 := ⟨_, rfl⟩
  rw [← hb] at p1
  rw [uu_split (n := n) (a := a) (b := 1074) (by omega)]
  clear hn
  generalize 2 ^ a = P at *
  have s1 : P * uu 1074 * 10 ^ ((l.length : Int) - x).toNat ≤ 10 ^ b * uu 1074 * 10 ^ ((l.length : Int) - x).toNat := Nat.mul_le_mul_right _ (Nat.mul_le_mul_right _ p1)
  have s2 : 10 ^ b * uu 1074 * 10 ^ ((l.length : Int) - x).toNat = 10 ^ (b + ((l.length : Int) - x).toNat) * uu 1074 := by rw [Nat.pow_add]; exact Nat.mul_right_comm _ _ _
  have s3 : 10 ^ (b + ((l.length : Int) - x).toNat) * uu 1074 ≤ 10 ^ (l.length - 1 + (x - (l.length : Int)).toNat) * uu 1074 := Nat.mul_le_mul_right _ (Nat.pow_le_pow_right (by decide) (by omega))
  have s4 : 10 ^ (l.length - 1 + (x - (l.length : Int)).toNat) * uu 1074 ≤ nd l * 10 ^ (x - (l.length : Int)).toNat * uu 1074 := by
    rw [Nat.pow_add]
    exact Nat.mul_le_mul_right _ (Nat.mul_le_mul_right _ h1)
  rw [s2] at s1
  exact Nat.le_trans s1 (Nat.le_trans s3 s4)

/-- Noughts ahead are an exponent. -/
theorem front_split (l : List UInt8) : ∃ k : Nat, l = List.replicate k 48 ++ Lib.trimLeftB l 48 ∧ (Lib.trimLeftB l 48 = [] ∨ (Lib.trimLeftB l 48).getD 0 0 ≠ 48) := by
  induction l with
  | nil => exact ⟨0, rfl, .inl rfl⟩
  | cons c m ih =>
    unfold Lib.trimLeftB at *
    by_cases hc : c = 48
    · obtain ⟨k, h1, h2⟩ := ih
      subst hc
      refine ⟨k + 1, ?_, ?_⟩
      · rw [List.replicate_succ]
        simp only [List.dropWhile_cons, beq_self_eq_true, if_true, List.cons_append]
        rw [← h1]
      · simpa [List.dropWhile_cons] using h2
    · refine ⟨0, ?_, .inr ?_⟩
      · simp [hc]
      · simp [hc]
end Go.Proofs.YtemkllnnemadeaaDoor
