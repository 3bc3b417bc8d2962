/-
  The fewest digits that are read as a pattern, in units of 10^-1074: pure. No condition beyond what each lemma asks.
  The text of a double by its fewest digits: that it is a number of JSON, which number, how long it is: pure. No condition beyond what each lemma asks.
  What Digits and Text of stage 13 may answer, that this is one answer alone, and what the laws ask of it: pure. No condition beyond what each lemma asks.
  What the program reckons on its way to the fewest digits, that it finds them: pure. No condition beyond what each lemma asks.
  A double's place among the whole numbers of its unit, and that the number found tells its fewest digits: pure. No condition beyond what each lemma asks.
  What the document's Digits looks at, of so many digits: pure. No condition beyond what each lemma asks.
-/
import Derived.Test.YtojpfmlmalmlcaaGreatDoorNearPure
import Derived.Test.YtojpfmlmalmlcaaGreatDoorWholeMath
namespace Go.Proofs.YtojpfmlmalmlcaaGreatDoor
open Go.RowKit
/-- 5^1074 under a name: the number N of units of 10^-1074 is N / FF units of 2^-1074. -/
def f5 (n : Nat) : Nat := 5 ^ n
def FF : Nat := f5 1074
theorem f5_pos (n : Nat) : 0 < f5 n := Nat.pow_pos (by decide)
theorem FF_pos : 0 < FF := f5_pos _
theorem f5_two (n : Nat) : uu n * f5 n = 10 ^ n := by
  unfold f5 uu
  rw [← Nat.mul_pow]
theorem FF_is (n : Nat) (hn : n = 1074) : f5 n = FF := by
  unfold FF
  rw [hn]
theorem FF_two : ∀ n, n = 1074 → uu n * FF = 10 ^ n := by
  intro n hn
  rw [← FF_is n hn]
  exact f5_two n
/-- Between two numbers that are read as p all are. -/
theorem near_between {A B A1 B1 A2 B2 p : Nat} (hB : 0 < B) (hB1 : 0 < B1) (hB2 : 0 < B2) (h1 : NearIs A1 B1 p) (h2 : NearIs A2 B2 p) (h12 : A1 * B ≤ A * B1) (h23 : A * B2 ≤ A2 * B) (he : ∃ q, NearIs A B q) : NearIs A B p := by
  obtain ⟨q, hq⟩ := he
  have e1 := near_mono hB1 hB h12 h1 hq
  have e2 := near_mono hB hB2 h23 hq h2
  have : p = q := Nat.le_antisymm e1 e2
  rw [this]
  exact hq
/-- Digits whose last place is not below 10^-1074 as a number of units. -/
def unitsOf (l : List UInt8) (x : Int) : Nat := nd l * 10 ^ (x - (l.length : Int) + 1074).toNat
set_option maxRecDepth 100000 in
theorem units_eq {l : List UInt8} {x : Int} (h : -1074 ≤ x - (l.length : Int)) : dA l x * FF = unitsOf l x * dB l x := by
  have key : ∀ N n : Nat, N = 1074 → n = l.length → -((N : Nat) : Int) ≤ x - (n : Int) → nd l * 10 ^ (x - (n : Int)).toNat * uu N * FF = nd l * 10 ^ (x - (n : Int) + (N : Int)).toNat * 10 ^ ((n : Int) - x).toNat := by
    intro N n hN hn h
    rw [Nat.mul_assoc, FF_two N hN, Nat.mul_assoc, Nat.mul_assoc, ← Nat.pow_add, ← Nat.pow_add]
    congr 2
    omega
  unfold dA dB unitsOf
  exact key 1074 l.length rfl rfl h
theorem units_near {l : List UInt8} {x : Int} {p : Nat} (h : -1074 ≤ x - (l.length : Int)) : NearIs (dA l x) (dB l x) p ↔ NearIs (unitsOf l x) FF p :=
  ⟨fun k => near_same (dB_pos _ _) FF_pos (units_eq h) k, fun k => near_same FF_pos (dB_pos _ _) (units_eq h).symm k⟩
theorem len2_some {N : Nat} (h : N ≠ 0) : ∃ x, Len2 N x := by
  have key : ∀ k N : Nat, N ≤ k → N ≠ 0 → ∃ x, Len2 N x := by
    intro k
    induction k with
    | zero => intro N h1 h2; omega
    | succ k ih =>
      intro N h1 h2
      by_cases h3 : N = 1
      · exact ⟨1, by decide, by rw [h3]; decide, by rw [h3]; decide⟩
      · obtain ⟨x, a, b, c⟩ := ih (N / 2) (by omega) (by omega)
        refine ⟨x + 1, by omega, ?_, ?_⟩
        · rw [Nat.add_sub_cancel, show x = (x - 1) + 1 by omega, Nat.pow_succ]
          omega
        · rw [Nat.pow_succ]
          omega
  exact key N N (Nat.le_refl _) h
/-- There is a nearest pattern to each number of units. -/
theorem units_some (N : Nat) : ∃ p, NearIs N FF p := by
  by_cases h0 : N = 0
  · exact ⟨0, near_none FF_pos (by omega)⟩
  · have hO : N ≠ 0 := h0
    have hU : FF * uu 1074 ≠ 0 := by have := Nat.mul_pos FF_pos (uu_pos 1074); omega
    obtain ⟨x, hx⟩ : ∃ x, Len2 N x := len2_some hO
    obtain ⟨y, hy⟩ : ∃ y, Len2 (FF * uu 1074) y := len2_some hU
    have hn := near_unit hx hy rfl
    exact ⟨_, near_same (by omega) FF_pos (by rw [Nat.mul_assoc, Nat.mul_comm (uu 1074)]) hn⟩
/-! ### Of so many digits the two beside the number -/
/-- The number of units of a pattern. -/
def VV (p : Nat) : Nat := vN p * FF
theorem VV_near {p : Nat} (h : p ≤ 9218868437227405311) : NearIs (VV p) FF p := near_exact FF_pos h rfl
/-- A number that has no more digits lies not between those two. -/
theorem beside_le {V T i : Nat} (hT : 0 < T) (h : i * T ≤ V) : i * T ≤ V / T * T := Nat.mul_le_mul_right _ ((Nat.le_div_iff_mul_le hT).2 h)
theorem beside_gt {V T i : Nat} (hT : 0 < T) (h : V < i * T) : (V / T + 1) * T ≤ i * T := Nat.mul_le_mul_right _ ((Nat.div_lt_iff_lt_mul hT).2 h)
def Hit (p V t : Nat) : Prop := NearIs (V / 10 ^ t * 10 ^ t) FF p ∨ NearIs ((V / 10 ^ t + 1) * 10 ^ t) FF p
theorem hit_le {p V t A B : Nat} (hp : p ≤ 9218868437227405311) (hV : V = VV p) (hB : 0 < B) (hA : NearIs A B p) (h : A * FF ≤ V / 10 ^ t * 10 ^ t * B) : Hit p V t := by
  left
  refine near_between FF_pos hB FF_pos hA (VV_near hp) h ?_ (units_some _)
  rw [← hV]
  exact Nat.mul_le_mul_right _ (Nat.div_mul_le_self V _)
theorem hit_ge {p V t A B : Nat} (hp : p ≤ 9218868437227405311) (hV : V = VV p) (hB : 0 < B) (hA : NearIs A B p) (h : (V / 10 ^ t + 1) * 10 ^ t * B ≤ A * FF) : Hit p V t := by
  right
  refine near_between FF_pos FF_pos hB (VV_near hp) hA ?_ h (units_some _)
  rw [← hV]
  refine Nat.mul_le_mul_right _ (Nat.le_of_lt ?_)
  exact Nat.lt_mul_of_div_lt (Nat.lt_succ_self _) (ten_pos t)
/-- Digits below a power of ten, digits from a power of ten on. -/
theorem digits_low {l : List UInt8} {y : Int} {W : Nat} (hd : Dgs l) (h : y + 1074 ≤ (W : Int)) : dA l y * FF ≤ 10 ^ W * dB l y := by
  have key : ∀ N n : Nat, N = 1074 → n = l.length → y + (N : Int) ≤ (W : Int) → nd l * 10 ^ (y - (n : Int)).toNat * uu N * FF ≤ 10 ^ W * 10 ^ ((n : Int) - y).toNat := by
    intro N n hN hn h
    have h1 := Nat.le_of_lt (nd_lt hd)
    rw [← hn] at h1
    rw [Nat.mul_assoc, FF_two N hN, Nat.mul_assoc, ← Nat.pow_add, ← Nat.pow_add]
    refine Nat.le_trans (Nat.mul_le_mul_right _ h1) ?_
    rw [← Nat.pow_add]
    exact Nat.pow_le_pow_right (by decide) (by omega)
  unfold dA dB
  exact key 1074 l.length rfl rfl h
theorem digits_high {l : List UInt8} {y : Int} {W : Nat} (h1 : 10 ^ (l.length - 1) ≤ nd l) (hl : 1 ≤ l.length) (h : (W : Int) < y + 1074) : 10 ^ W * dB l y ≤ dA l y * FF := by
  have key : ∀ N n : Nat, N = 1074 → n = l.length → (W : Int) < y + (N : Int) → 10 ^ W * 10 ^ ((n : Int) - y).toNat ≤ nd l * 10 ^ (y - (n : Int)).toNat * uu N * FF := by
    intro N n hN hn h
    rw [← hn] at h1 hl
    rw [Nat.mul_assoc, FF_two N hN, Nat.mul_assoc, ← Nat.pow_add, ← Nat.pow_add]
    refine Nat.le_trans ?_ (Nat.mul_le_mul_right _ h1)
    rw [← Nat.pow_add]
    exact Nat.pow_le_pow_right (by decide) (by omega)
  unfold dA dB
  exact key 1074 l.length rfl rfl h
/-- Whatever digits are read as p: of as many the two beside the number are. -/
theorem beside {p V W : Nat} {l : List UInt8} {y : Int} (hp : p ≤ 9218868437227405311) (hV : V = VV p) (hW : 1 ≤ W) (h1 : 10 ^ (W - 1) ≤ V) (h2 : V < 10 ^ W) (hd : Dgs l) (hne : l ≠ []) (hf : l.getD 0 0 ≠ 48) (hj : l.length ≤ W)
    (hn : NearIs (dA l y) (dB l y) p) : Hit p V (W - l.length) := by
  have hl : 1 ≤ l.length := by have := List.length_pos_iff.2 hne; omega
  obtain ⟨t, ht⟩ : ∃ t, t = W - l.length := ⟨_, rfl⟩
  rw [← ht]
  have hT := ten_pos t
  have hge := nd_ge hd hne hf
  rcases Int.lt_trichotomy (y + 1074) (W : Int) with c | c | c
  · refine hit_le hp hV (dB_pos l y) hn ?_
    refine Nat.le_trans (digits_low (W := W - 1) hd (by omega)) (Nat.mul_le_mul_right _ ?_)
    rw [show W - 1 = (l.length - 1) + t by omega, Nat.pow_add] at h1 ⊢
    exact beside_le hT h1
  · have hu : unitsOf l y = nd l * 10 ^ t := by unfold unitsOf; congr 2; omega
    have he := units_eq (l := l) (x := y) (by omega)
    rw [hu] at he
    rcases Nat.lt_or_ge V (nd l * 10 ^ t) with k | k
    · refine hit_ge hp hV (dB_pos l y) hn ?_
      rw [he]
      exact Nat.mul_le_mul_right _ (beside_gt hT k)
    · refine hit_le hp hV (dB_pos l y) hn ?_
      rw [he]
      exact Nat.mul_le_mul_right _ (beside_le hT k)
  · refine hit_ge hp hV (dB_pos l y) hn ?_
    refine Nat.le_trans (Nat.mul_le_mul_right _ ?_) (digits_high (W := W) hge hl (by omega))
    rw [show W = l.length + t by omega, Nat.pow_add] at h2 ⊢
    exact beside_gt hT h2
/-! ### Seventeen digits are enough -/
theorem pow_small {n : Nat} (hn : n = 53) : 2 ^ n < 10 ^ 16 := by rw [hn]; decide
theorem vN_gap {p : Nat} (h0 : p ≠ 0) : ∃ u, vN p = vN (p - 1) + u ∧ vN p ≤ 9007199254740992 * u ∧ vN p + u ≤ vN (p + 1) := by
  have h1 := vN_step (p - 1)
  rw [show p - 1 + 1 = p by omega] at h1
  have h2 := vN_step p
  have hle : 2 ^ ((p - 1) / 4503599627370496 - 1) ≤ 2 ^ (p / 4503599627370496 - 1) := Nat.pow_le_pow_right (by decide) (by omega)
  refine ⟨_, h1, ?_, by omega⟩
  clear h1 h2 hle
  by_cases c : p < 4503599627370496
  · rw [vN_low c, show (p - 1) / 4503599627370496 - 1 = 0 by omega, Nat.pow_zero]
    omega
  · by_cases c1 : p % 4503599627370496 = 0
    · by_cases c2 : p / 4503599627370496 = 1
      · rw [vN_at c c1 (q := 0) (by omega), show (p - 1) / 4503599627370496 - 1 = 0 by omega, Nat.pow_zero]
        decide
      · obtain ⟨e, he⟩ : ∃ e, p / 4503599627370496 - 1 = e + 1 := ⟨p / 4503599627370496 - 2, by omega⟩
        rw [vN_at c c1 he, show (p - 1) / 4503599627370496 - 1 = e by omega, Nat.pow_succ]
        generalize 2 ^ e = x
        omega
    · rw [vN_at c rfl rfl, show (p - 1) / 4503599627370496 - 1 = p / 4503599627370496 - 1 by omega]
      exact Nat.mul_le_mul_right _ (by omega)
theorem seventeen {p V W : Nat} (h0 : p ≠ 0) (hp : p ≤ 9218868437227405311) (hV : V = VV p) (hW : 17 ≤ W) (h1 : 10 ^ (W - 1) ≤ V) : Hit p V (W - 17) := by
  obtain ⟨u, g1, g2, g3⟩ := vN_gap h0
  have hF := FF_pos
  obtain ⟨T, hT⟩ : ∃ T, T = 10 ^ (W - 17) := ⟨_, rfl⟩
  have hTp : 0 < T := by rw [hT]; exact ten_pos _
  have hTV : 10000000000000000 * T ≤ V := by
    rw [show W - 1 = 16 + (W - 17) by omega, Nat.pow_add, ← hT] at h1
    exact h1
  unfold Hit
  rw [← hT]
  have hdm := Nat.div_add_mod V T
  have hr := Nat.mod_lt V hTp
  rw [Nat.mul_comm] at hdm
  obtain ⟨a, ha⟩ : ∃ a, a = vN (p - 1) * FF := ⟨_, rfl⟩
  obtain ⟨U, hU⟩ : ∃ U, U = u * FF := ⟨_, rfl⟩
  obtain ⟨b, hb⟩ : ∃ b, b = vN (p + 1) * FF := ⟨_, rfl⟩
  have e1 : V = a + U := by rw [hV, VV, g1, Nat.add_mul, ha, hU]
  have e2 : V ≤ 9007199254740992 * U := by
    rw [hV, VV, hU, ← Nat.mul_assoc]
    exact Nat.mul_le_mul_right _ g2
  have e3 : V + U ≤ b := by
    rw [hb, hV, VV, hU, ← Nat.add_mul]
    exact Nat.mul_le_mul_right _ g3
  have hTU : T < U := by omega
  have lowS : (vN (p - 1) + vN p) * FF = a + V := by rw [Nat.add_mul, ← ha, hV, VV]
  have highS : (vN p + vN (p + 1)) * FF = V + b := by rw [Nat.add_mul, ← hb, hV, VV]
  by_cases c : 2 * (V % T) ≤ T
  · left
    generalize V / T * T = Q at *
    generalize V % T = r at *
    refine ⟨by omega, .inr (.inl ?_), .inr (.inl ?_)⟩
    · rw [lowS]; omega
    · rw [highS]; omega
  · right
    rw [Nat.add_mul, Nat.one_mul]
    generalize V / T * T = Q at *
    generalize V % T = r at *
    refine ⟨by omega, .inr (.inl ?_), .inr (.inl ?_)⟩
    · rw [lowS]; omega
    · rw [highS]; omega
/-! ### What Digits answers -/
/-- Which of the two, where both are read as p. -/
def pick (V t : Nat) : Nat := if 2 * (V % 10 ^ t) < 10 ^ t ∨ (2 * (V % 10 ^ t) = 10 ^ t ∧ V / 10 ^ t % 2 = 0) then V / 10 ^ t else V / 10 ^ t + 1
/-- Of n digits Q is the nearest that is read as p. -/
def Best (p V t Q : Nat) : Prop :=
  (NearIs (V / 10 ^ t * 10 ^ t) FF p ∧ ¬ NearIs ((V / 10 ^ t + 1) * 10 ^ t) FF p ∧ Q = V / 10 ^ t) ∨ (¬ NearIs (V / 10 ^ t * 10 ^ t) FF p ∧ NearIs ((V / 10 ^ t + 1) * 10 ^ t) FF p ∧ Q = V / 10 ^ t + 1) ∨
    (NearIs (V / 10 ^ t * 10 ^ t) FF p ∧ NearIs ((V / 10 ^ t + 1) * 10 ^ t) FF p ∧ Q = pick V t)
theorem Best.hit {p V t Q : Nat} (h : Best p V t Q) : Hit p V t := by
  rcases h with ⟨h, _⟩ | ⟨_, h, _⟩ | ⟨h, _⟩
  · exact .inl h
  · exact .inr h
  · exact .inl h
theorem Best.near {p V t Q : Nat} (h : Best p V t Q) : NearIs (Q * 10 ^ t) FF p := by
  rcases h with ⟨h, _, rfl⟩ | ⟨_, h, rfl⟩ | ⟨h, h', rfl⟩
  · exact h
  · exact h
  · unfold pick
    split
    · exact h
    · exact h'
theorem Best.one {p V t Q Q' : Nat} (h : Best p V t Q) (k : Best p V t Q') : Q = Q' := by
  rcases h with ⟨h1, h2, rfl⟩ | ⟨h1, h2, rfl⟩ | ⟨h1, h2, rfl⟩ <;> rcases k with ⟨k1, k2, rfl⟩ | ⟨k1, k2, rfl⟩ | ⟨k1, k2, rfl⟩
  · rfl
  · exact absurd h1 k1
  · exact absurd k2 h2
  · exact absurd k1 h1
  · rfl
  · exact absurd k1 h1
  · exact absurd h2 k2
  · exact absurd h1 k1
  · rfl
theorem Best.le {p V t Q : Nat} (h : Best p V t Q) : V / 10 ^ t ≤ Q ∧ Q ≤ V / 10 ^ t + 1 := by
  rcases h with ⟨_, _, rfl⟩ | ⟨_, _, rfl⟩ | ⟨_, _, rfl⟩
  · omega
  · omega
  · unfold pick; split <;> omega
/-- The fewest digits that are read as p; of several the nearest ones. -/
def ShAns (p : Nat) (d : List UInt8) (x : Int) : Prop :=
  Trim d ∧ ∃ W n Q, 1 ≤ n ∧ n ≤ W ∧ 10 ^ (W - 1) ≤ VV p ∧ VV p < 10 ^ W ∧ (∀ j, 1 ≤ j → j < n → ¬ Hit p (VV p) (W - j)) ∧ Best p (VV p) (W - n) Q ∧ dA d x * FF = Q * 10 ^ (W - n) * dB d x
theorem width_one {V W W' : Nat} (h1 : 10 ^ (W - 1) ≤ V) (h2 : V < 10 ^ W) (k1 : 10 ^ (W' - 1) ≤ V) (k2 : V < 10 ^ W') (hW : 1 ≤ W) (hW' : 1 ≤ W') : W = W' := by
  have key : ∀ {a b : Nat}, 10 ^ (a - 1) ≤ V → V < 10 ^ b → 1 ≤ b → a ≤ b := by
    intro a b h k hb
    apply Nat.le_of_not_lt
    intro hlt
    have : 10 ^ b ≤ 10 ^ (a - 1) := Nat.pow_le_pow_right (by decide) (by omega)
    omega
  exact Nat.le_antisymm (key h1 k2 hW') (key k1 h2 hW)
/-- There is one answer alone. -/
theorem sh_one {p : Nat} {d d' : List UInt8} {x x' : Int} (h : ShAns p d x) (k : ShAns p d' x') : d = d' ∧ x = x' := by
  obtain ⟨h0, W, n, Q, h1, h2, h3, h4, h5, h6, h7⟩ := h
  obtain ⟨k0, W', n', Q', k1, k2, k3, k4, k5, k6, k7⟩ := k
  obtain rfl := width_one h3 h4 k3 k4 (by omega) (by omega)
  have hn : n = n' := by
    rcases Nat.lt_trichotomy n n' with c | c | c
    · exact absurd h6.hit (k5 n h1 c)
    · exact c
    · exact absurd k6.hit (h5 n' k1 c)
  subst hn
  obtain rfl := h6.one k6
  have e : dA d x * dB d' x' = dA d' x' * dB d x := by
    apply Nat.eq_of_mul_eq_mul_right FF_pos
    rw [Nat.mul_right_comm, h7, Nat.mul_right_comm (dA d' x'), k7]
    exact Nat.mul_right_comm _ _ _
  rcases cmpD_num (x := x) (y := x') h0 k0 with ⟨_, c⟩ | ⟨c, _⟩ | ⟨_, c⟩
  · omega
  · unfold cmpD at c
    by_cases c1 : x < x' ∨ (x = x' ∧ Op.bytesLess d d' = true)
    · rw [if_pos c1] at c; cases c
    · rw [if_neg c1] at c
      by_cases c2 : x = x' ∧ d = d'
      · exact ⟨c2.2, c2.1⟩
      · rw [if_neg c2] at c; cases c
  · omega
/-- It is read as p. -/
theorem sh_near {p : Nat} {d : List UInt8} {x : Int} (h : ShAns p d x) : NearIs (dA d x) (dB d x) p := by
  obtain ⟨_, W, n, Q, _, _, _, _, _, h6, h7⟩ := h
  exact near_same FF_pos (dB_pos _ _) h7.symm h6.near
/-! ### How many digits, how great an exponent -/
theorem last_digit {d : List UInt8} (h : Trim d) : nd d % 10 ≠ 0 := by
  obtain ⟨a, c, rfl⟩ : ∃ a c, d = a ++ [c] := ⟨d.dropLast, d.getLast h.any, (List.dropLast_concat_getLast h.any).symm⟩
  have hc := h.dgs c (by simp)
  have hl := h.last
  unfold Tl at hl
  rw [List.getLast?_append, List.getLast?_singleton] at hl
  have h48 : c ≠ 48 := fun e => hl (by rw [e]; rfl)
  have h4 : c.toNat ≠ 48 := fun e => h48 (UInt8.toNat_inj.1 e)
  rw [nd_snoc]
  unfold isD12 at hc
  unfold dv
  omega
theorem no_ten {a b i : Nat} (h : a % 10 ≠ 0) (e : a = b * 10 ^ i) : i = 0 := by
  cases i with
  | zero => rfl
  | succ i =>
    exfalso
    rw [Nat.pow_succ, ← Nat.mul_assoc] at e
    omega
/-- Digits' number in units, whatever their power. -/
theorem units_of {d : List UInt8} {x : Int} {N : Nat} (h : dA d x * FF = N * dB d x) (ht : Trim d) : ∃ z : Nat, N = nd d * 10 ^ z ∧ (z : Int) = x - (d.length : Int) + 1074 := by
  have key : ∀ M n : Nat, M = 1074 → n = d.length → nd d * 10 ^ (x - (n : Int)).toNat * uu M * FF = N * 10 ^ ((n : Int) - x).toNat → ∃ z : Nat, N = nd d * 10 ^ z ∧ (z : Int) = x - (n : Int) + (M : Int) := by
    intro M n hM hn h
    rw [Nat.mul_assoc, FF_two M hM, Nat.mul_assoc, ← Nat.pow_add] at h
    obtain ⟨a, ha⟩ : ∃ a, a = (x - (n : Int)).toNat + M := ⟨_, rfl⟩
    obtain ⟨b, hb⟩ : ∃ b, b = ((n : Int) - x).toNat := ⟨_, rfl⟩
    rw [← ha, ← hb] at h
    have hab : b ≤ a := by
      apply Nat.le_of_not_lt
      intro hlt
      obtain ⟨i, rfl⟩ : ∃ i, b = a + (i + 1) := ⟨b - a - 1, by omega⟩
      rw [Nat.pow_add 10 a, Nat.mul_left_comm] at h
      have := Nat.eq_of_mul_eq_mul_right (ten_pos a) (h.trans (Nat.mul_comm _ _))
      exact absurd (no_ten (last_digit ht) this) (by omega)
    obtain ⟨z, rfl⟩ := Nat.exists_eq_add_of_le hab
    refine ⟨z, ?_, by omega⟩
    apply Nat.eq_of_mul_eq_mul_right (ten_pos b)
    rw [← h, Nat.pow_add, Nat.mul_assoc, Nat.mul_comm (10 ^ z)]
  exact key 1074 d.length rfl rfl (by unfold dA dB at h; exact h)
theorem sh_len {p : Nat} {d : List UInt8} {x : Int} (h0 : p ≠ 0) (hp : p ≤ 9218868437227405311) (h : ShAns p d x) : d.length ≤ 17 ∧ ∀ l y, Dgs l → l ≠ [] → l.getD 0 0 ≠ 48 → NearIs (dA l y) (dB l y) p → d.length ≤ l.length := by
  obtain ⟨ht, W, n, Q, h1, h2, h3, h4, h5, h6, h7⟩ := h
  obtain ⟨z, hz, hzx⟩ := units_of h7 ht
  have hq : Q ≤ 10 ^ n := by
    have := h6.le.2
    have h8 : VV p / 10 ^ (W - n) < 10 ^ n := by
      rw [Nat.div_lt_iff_lt_mul (ten_pos _), ← Nat.pow_add, show n + (W - n) = W by omega]
      exact h4
    omega
  have hd : 10 ^ (d.length - 1) ≤ nd d := nd_ge ht.dgs ht.any ht.front
  have hl1 : 1 ≤ d.length := by have := List.length_pos_iff.2 ht.any; omega
  have key : d.length ≤ n := by
    apply Nat.le_of_not_lt
    intro hlt
    have e1 : 10 ^ n ≤ nd d := Nat.le_trans (Nat.pow_le_pow_right (by decide) (by omega)) hd
    -- the number of units has no more noughts than Q's
    rcases Nat.lt_or_ge z (W - n) with c | c
    · obtain ⟨i, hi⟩ : ∃ i, W - n = z + (i + 1) := ⟨W - n - z - 1, by omega⟩
      rw [hi, Nat.pow_add, ← Nat.mul_assoc, Nat.mul_right_comm] at hz
      have := Nat.eq_of_mul_eq_mul_right (ten_pos z) hz
      exact absurd (no_ten (last_digit ht) this.symm) (by omega)
    · obtain ⟨i, rfl⟩ := Nat.exists_eq_add_of_le c
      rw [Nat.pow_add, Nat.mul_comm (10 ^ (W - n)), ← Nat.mul_assoc] at hz
      have e2 := Nat.eq_of_mul_eq_mul_right (ten_pos _) hz
      have e3 : nd d * 1 ≤ nd d * 10 ^ i := Nat.mul_le_mul_left _ (ten_pos i)
      have e4 : nd d = 1 * 10 ^ n := by omega
      exact absurd (no_ten (last_digit ht) e4) (by omega)
  constructor
  · apply Nat.le_of_not_lt
    intro hlt
    exact h5 17 (by omega) (by omega) (seventeen h0 hp rfl (by omega) h3)
  · intro l y ld lne lf ln
    rcases Nat.lt_or_ge l.length n with c | c
    · exfalso
      exact h5 l.length (by have := List.length_pos_iff.2 lne; omega) c (beside hp rfl (by omega) h3 h4 ld lne lf (by omega) ln)
    · omega
/-- Its exponent is within the bounds of all patterns. -/
theorem sh_exp {p : Nat} {d : List UInt8} {x : Int} (h0 : p ≠ 0) (hp : p ≤ 9218868437227405311) (h : ShAns p d x) : -323 ≤ x ∧ x ≤ 309 := by
  have hn := sh_near h
  have ht := h.1
  have hd : 10 ^ (d.length - 1) ≤ nd d := nd_ge ht.dgs ht.any ht.front
  have hl1 : 1 ≤ d.length := by have := List.length_pos_iff.2 ht.any; omega
  constructor
  · refine Decidable.byContradiction fun hlt => ?_
    have hlt : x < -323 := by omega
    exact h0 (near_one (dB_pos _ _) hn (gone_dn ht.dgs hlt))
  · refine Decidable.byContradiction fun hlt => ?_
    have := near_one (dB_pos _ _) hn (gone_up hd hl1 (by omega))
    omega
/-! ### The exact digits, and the two beside the number -/
theorem fine_exact {p : Nat} {D : List UInt8} {X : Int} (h : Fine D X (2 * vN p)) : ∃ z : Nat, VV p = nd D * 10 ^ z ∧ (z : Int) = X - (D.length : Int) + 1074 := by
  refine units_of ?_ h.trim
  have hn := h.num
  have e : dA D X = vN p * dB D X := by rw [Nat.mul_assoc] at hn; omega
  rw [e, VV]
  exact Nat.mul_right_comm _ _ _
theorem fine_width {p : Nat} {D : List UInt8} {z W : Nat} (ht : Trim D) (h : VV p = nd D * 10 ^ z) (hW : W = D.length + z) : 1 ≤ W ∧ 10 ^ (W - 1) ≤ VV p ∧ VV p < 10 ^ W := by
  have hl1 : 1 ≤ D.length := by have := List.length_pos_iff.2 ht.any; omega
  have g1 := nd_ge ht.dgs ht.any ht.front
  have g2 := nd_lt ht.dgs
  refine ⟨by omega, ?_, ?_⟩
  · rw [h, hW, show D.length + z - 1 = (D.length - 1) + z by omega, Nat.pow_add]
    exact Nat.mul_le_mul_right _ g1
  · rw [h, hW, Nat.pow_add]
    exact Nat.mul_lt_mul_of_pos_right g2 (ten_pos z)
theorem fine_cut {p : Nat} {D : List UInt8} {z W n : Nat} (hd : Dgs D) (h : VV p = nd D * 10 ^ z) (hW : W = D.length + z) (hn : n ≤ D.length) :
    VV p / 10 ^ (W - n) = nd (D.take n) ∧ VV p % 10 ^ (W - n) = nd (D.drop n) * 10 ^ z := by
  have e1 : nd D = nd (D.take n) * 10 ^ (D.length - n) + nd (D.drop n) := by
    have := nd_append (D.take n) (D.drop n)
    rw [List.take_append_drop, List.length_drop] at this
    exact this
  have e2 : nd (D.drop n) < 10 ^ (D.length - n) := by
    have := nd_lt (l := D.drop n) (fun c hc => hd c (List.mem_of_mem_drop hc))
    rwa [List.length_drop] at this
  have e3 : W - n = (D.length - n) + z := by omega
  have e4 : VV p = nd (D.drop n) * 10 ^ z + 10 ^ (W - n) * nd (D.take n) := by
    rw [h, e1, e3, Nat.pow_add, Nat.add_mul]
    rw [Nat.mul_comm (10 ^ (D.length - n) * 10 ^ z), ← Nat.mul_assoc, Nat.add_comm]
  have e5 : nd (D.drop n) * 10 ^ z < 10 ^ (W - n) := by
    rw [e3, Nat.pow_add]
    exact Nat.mul_lt_mul_of_pos_right e2 (ten_pos z)
  rw [e4]
  constructor
  · rw [Nat.add_mul_div_left _ _ (ten_pos _), Nat.div_eq_of_lt e5, Nat.zero_add]
  · rw [Nat.add_mul_mod_self_left, Nat.mod_eq_of_lt e5]
end Go.Proofs.YtojpfmlmalmlcaaGreatDoor

namespace Go.Proofs.YtojpfmlmalmlcaaGreatDoor
open Go.RowKit
open Go.Lib (decDigits itoa)
def shBody (d : List UInt8) (x : Int) : List UInt8 :=
  if 1 ≤ x ∧ x ≤ 21 ∧ (d.length : Int) ≤ x then d ++ List.replicate (x.toNat - d.length) 48
  else if 1 ≤ x ∧ x ≤ 21 then d.take x.toNat ++ 46 :: d.drop x.toNat
  else if -5 ≤ x ∧ x ≤ 0 then 48 :: 46 :: (List.replicate (-x).toNat 48 ++ d)
  else d.take 1 ++ ((if 1 < d.length then 46 :: d.drop 1 else []) ++ 101 :: (if x < 1 then 45 :: decDigits (1 - x).toNat else 43 :: decDigits (x - 1).toNat))
def shSign (s : Bool) (b : List UInt8) : List UInt8 := if s then 45 :: b else b
theorem isD_of {c : UInt8} (h : isD12 c) : isD c = true := decide_eq_true h
theorem isD_nought : isD 48 = true := by decide
theorem all_noughts (n : Nat) : ∀ c ∈ List.replicate n (48 : UInt8), isD c = true := fun c hc => by rw [(List.mem_replicate.1 hc).2]; exact isD_nought
theorem take_front {d : List UInt8} {k : Nat} (h0 : d ≠ []) (hk : 1 ≤ k) : (d.take k) ≠ [] ∧ (d.take k).getD 0 0 = d.getD 0 0 := by
  cases d with
  | nil => exact absurd rfl h0
  | cons c m =>
    obtain ⟨j, rfl⟩ : ∃ j, k = j + 1 := ⟨k - 1, by omega⟩
    exact ⟨by simp, by simp⟩
theorem plain_of {l : List UInt8} (hd : ∀ c ∈ l, isD c = true) (h0 : l ≠ []) (hf : l.getD 0 0 ≠ 48) : plain l = true := by
  unfold plain
  rw [digs_iff.2 ⟨hd, h0⟩]
  simp only [Bool.true_and, Bool.or_eq_true, bne_iff_ne]
  exact .inr hf
/-- A text as a number of JSON without a sign: what its parts are, and that they tell the same number. -/
def STells (b d : List UInt8) (x : Int) : Prop :=
  lexU b ≠ 0 ∧ b.getD 0 0 ≠ 45 ∧ b ≠ [] ∧ ∃ ip fp E, JN b false ip fp E ∧ ∀ p, NearIs (dA d x) (dB d x) p → NearIs (dA (ip ++ fp) ((ip.length : Int) + E)) (dB (ip ++ fp) ((ip.length : Int) + E)) p
theorem front_minus {b : List UInt8} {c : UInt8} {t : List UInt8} (h : b = c :: t) (hc : isD c = true) : b.getD 0 0 ≠ 45 ∧ b ≠ [] := by
  subst h
  exact ⟨by simpa using ne_minus hc, by simp⟩
theorem front_digit {a r : List UInt8} (h : ∀ c ∈ a, isD c = true) (h0 : a ≠ []) : (a ++ r).getD 0 0 ≠ 45 ∧ (a ++ r) ≠ [] := by
  cases a with
  | nil => exact absurd rfl h0
  | cons c t => exact front_minus (b := (c :: t) ++ r) rfl (h c List.mem_cons_self)
theorem tells_a {d : List UInt8} {x : Int} (ht : Trim d) (h : (d.length : Int) ≤ x) : STells (d ++ List.replicate (x.toNat - d.length) 48) d x := by
  have hd : ∀ c ∈ d, isD c = true := fun c hc => isD_of (ht.dgs c hc)
  have hall : ∀ c ∈ d ++ List.replicate (x.toNat - d.length) 48, isD c = true := fun c hc => by
    rcases List.mem_append.1 hc with hc | hc
    · exact hd c hc
    · exact all_noughts _ c hc
  have hne : d ++ List.replicate (x.toNat - d.length) 48 ≠ [] := by simp [ht.any]
  have hfront : (d ++ List.replicate (x.toNat - d.length) 48).getD 0 0 ≠ 48 := by rw [getD_append_left ht.any]; exact ht.front
  have hlen : ((d ++ List.replicate (x.toNat - d.length) 48).length : Int) = x := by simp; omega
  refine ⟨by rw [lexU_digits (plain_of hall hne hfront)]; decide, (front_digit hd ht.any).1, hne, _, [], 0, ⟨[], [], by simp, digs_iff.2 ⟨hall, hne⟩, .inl ⟨rfl, rfl⟩, .inl ⟨rfl, rfl⟩⟩, fun p hp => ?_⟩
  rw [List.append_nil, Int.add_zero, hlen]
  exact noughts_behind _ hp
theorem tells_b {d : List UInt8} {x : Int} (ht : Trim d) (h1 : 1 ≤ x) (h : x < (d.length : Int)) : STells (d.take x.toNat ++ 46 :: d.drop x.toNat) d x := by
  have hd : ∀ c ∈ d, isD c = true := fun c hc => isD_of (ht.dgs c hc)
  obtain ⟨t1, t2⟩ := take_front (k := x.toNat) ht.any (by omega)
  have ht1 : ∀ c ∈ d.take x.toNat, isD c = true := fun c hc => hd c (List.mem_of_mem_take hc)
  have ht2 : ∀ c ∈ d.drop x.toNat, isD c = true := fun c hc => hd c (List.mem_of_mem_drop hc)
  have hdne : d.drop x.toNat ≠ [] := by simp; omega
  have hdd : digs (d.drop x.toNat) = true := digs_iff.2 ⟨ht2, hdne⟩
  have hp := plain_of ht1 t1 (by rw [t2]; exact ht.front)
  have hlen : ((d.take x.toNat).length : Int) = x := by rw [List.length_take]; omega
  refine ⟨by rw [lexU_frac hp (noE ht2), hdd]; decide, (front_digit ht1 t1).1, (front_digit ht1 t1).2, _, d.drop x.toNat, 0, ⟨46 :: d.drop x.toNat, [], by simp, digs_iff.2 ⟨ht1, t1⟩, .inr ⟨rfl, hdd⟩, .inl ⟨rfl, rfl⟩⟩, fun p hp => ?_⟩
  rw [List.take_append_drop, hlen, Int.add_zero]
  exact hp
theorem tells_c {d : List UInt8} {x : Int} (ht : Trim d) (h : x ≤ 0) : STells (48 :: 46 :: (List.replicate (-x).toNat 48 ++ d)) d x := by
  have hd : ∀ c ∈ d, isD c = true := fun c hc => isD_of (ht.dgs c hc)
  have hall : ∀ c ∈ List.replicate (-x).toNat 48 ++ d, isD c = true := fun c hc => by
    rcases List.mem_append.1 hc with hc | hc
    · exact all_noughts _ c hc
    · exact hd c hc
  have hne : List.replicate (-x).toNat 48 ++ d ≠ [] := by simp [ht.any]
  have hdd := digs_iff.2 ⟨hall, hne⟩
  have hp : plain [48] = true := by decide
  refine ⟨by rw [show (48 : UInt8) :: 46 :: (List.replicate (-x).toNat 48 ++ d) = [48] ++ 46 :: (List.replicate (-x).toNat 48 ++ d) from rfl, lexU_frac hp (noE hall), hdd]; decide, by simp, by simp, [48], List.replicate (-x).toNat 48 ++ d, 0,
    ⟨46 :: (List.replicate (-x).toNat 48 ++ d), [], by simp, by decide, .inr ⟨rfl, hdd⟩, .inl ⟨rfl, rfl⟩⟩, fun p hp => ?_⟩
  obtain ⟨n, hn⟩ : ∃ n : Nat, (n : Int) = -x := ⟨(-x).toNat, by omega⟩
  rw [show (-x).toNat = n by omega]
  have e : [48] ++ (List.replicate n 48 ++ d) = List.replicate (n + 1) 48 ++ d := by rw [List.replicate_succ]; rfl
  obtain ⟨e1, e2⟩ := noughts_ahead d (n + 1) x
  rw [e, show (([48] : List UInt8).length : Int) + 0 = x + ((n + 1 : Nat) : Int) by simp; omega, e1, e2]
  exact hp
theorem nd_dec_digs (u : Nat) : nd (decDigits u) = u := nd_dec u
theorem tells_d {d : List UInt8} {x : Int} (ht : Trim d) : STells (d.take 1 ++ ((if 1 < d.length then 46 :: d.drop 1 else []) ++ 101 :: (if x < 1 then 45 :: decDigits (1 - x).toNat else 43 :: decDigits (x - 1).toNat))) d x := by
  have hd : ∀ c ∈ d, isD c = true := fun c hc => isD_of (ht.dgs c hc)
  obtain ⟨t1, t2⟩ := take_front (k := 1) ht.any (Nat.le_refl _)
  have ht1 : ∀ c ∈ d.take 1, isD c = true := fun c hc => hd c (List.mem_of_mem_take hc)
  have ht2 : ∀ c ∈ d.drop 1, isD c = true := fun c hc => hd c (List.mem_of_mem_drop hc)
  have hp := plain_of ht1 t1 (by rw [t2]; exact ht.front)
  have hl1 : 1 ≤ d.length := by have := List.length_pos_iff.2 ht.any; omega
  have hlen : ((d.take 1).length : Int) = 1 := by rw [List.length_take]; omega
  have he : isE 101 = true := by decide
  -- the exponent
  obtain ⟨pl, u, hpl, hu, hE⟩ : ∃ pl u, (pl = [] ∨ pl = [43] ∨ pl = [45]) ∧ (if x < 1 then 45 :: decDigits (1 - x).toNat else 43 :: decDigits (x - 1).toNat) = pl ++ decDigits u ∧ x - 1 = if pl = [45] then -(u : Int) else (u : Int) := by
    by_cases c : x < 1
    · exact ⟨[45], (1 - x).toNat, .inr (.inr rfl), by rw [if_pos c]; rfl, by rw [if_pos rfl]; omega⟩
    · exact ⟨[43], (x - 1).toNat, .inr (.inl rfl), by rw [if_neg c]; rfl, by rw [if_neg (by decide)]; omega⟩
  rw [hu]
  have hx : digs (unsign (pl ++ decDigits u)) = true := by rw [unsign_plus hpl (dec_digs u)]; exact dec_digs u
  have hex : ∃ (c : UInt8) (pl' y : List UInt8), 101 :: (pl ++ decDigits u) = c :: (pl' ++ y) ∧ isE c = true ∧ (pl' = [] ∨ pl' = [43] ∨ pl' = [45]) ∧ digs y = true ∧ x - 1 = if pl' = [45] then -(nd y : Int) else (nd y : Int) :=
    ⟨101, pl, decDigits u, rfl, he, hpl, dec_digs u, by rw [nd_dec]; exact hE⟩
  by_cases c : 1 < d.length
  · rw [if_pos c]
    have hdne : d.drop 1 ≠ [] := fun h => by have := congrArg List.length h; rw [List.length_drop, List.length_nil] at this; omega
    have hdd : digs (d.drop 1) = true := digs_iff.2 ⟨ht2, hdne⟩
    have hlex : lexU (d.take 1 ++ (46 :: d.drop 1 ++ 101 :: (pl ++ decDigits u))) = 2 := by rw [lexU_both hp hdd he, hx]; rfl
    refine ⟨by rw [hlex]; decide, (front_digit ht1 t1).1, (front_digit ht1 t1).2, _, d.drop 1, x - 1, ⟨46 :: d.drop 1, _, by simp, digs_iff.2 ⟨ht1, t1⟩, .inr ⟨rfl, hdd⟩, .inr hex⟩, fun p hp => ?_⟩
    rw [List.take_append_drop, hlen, show (1 : Int) + (x - 1) = x by omega]
    exact hp
  · rw [if_neg c]
    have hdt : d.take 1 = d := List.take_of_length_le (by omega)
    have hlex : lexU (d.take 1 ++ ([] ++ 101 :: (pl ++ decDigits u))) = 2 := by rw [List.nil_append, lexU_exp hp he, hx]; rfl
    refine ⟨by rw [hlex]; decide, (front_digit ht1 t1).1, (front_digit ht1 t1).2, _, [], x - 1, ⟨[], _, by simp, digs_iff.2 ⟨ht1, t1⟩, .inl ⟨rfl, rfl⟩, .inr hex⟩, fun p hp => ?_⟩
    rw [List.append_nil, hlen, show (1 : Int) + (x - 1) = x by omega, hdt]
    exact hp
theorem tells_body {d : List UInt8} {x : Int} (ht : Trim d) : STells (shBody d x) d x := by
  unfold shBody
  by_cases c1 : 1 ≤ x ∧ x ≤ 21 ∧ (d.length : Int) ≤ x
  · rw [if_pos c1]; exact tells_a ht c1.2.2
  · rw [if_neg c1]
    by_cases c2 : 1 ≤ x ∧ x ≤ 21
    · rw [if_pos c2]; exact tells_b ht c2.1 (by omega)
    · rw [if_neg c2]
      by_cases c3 : -5 ≤ x ∧ x ≤ 0
      · rw [if_pos c3]; exact tells_c ht c3.2
      · rw [if_neg c3]; exact tells_d ht
theorem dec_short {u : Nat} (h : u < 1000) : (decDigits u).length ≤ 3 := by
  rw [decDigits]
  split
  · simp
  · rw [decDigits]
    split
    · simp
    · rw [decDigits]
      split
      · simp
      · omega
/-- A sign, at most 24 bytes. -/
theorem body_len {d : List UInt8} {x : Int} (ht : Trim d) (hl : d.length ≤ 17) (hx : -400 ≤ x ∧ x ≤ 400) : (shBody d x).length ≤ 24 := by
  have hl1 : 1 ≤ d.length := by have := List.length_pos_iff.2 ht.any; omega
  unfold shBody
  by_cases c1 : 1 ≤ x ∧ x ≤ 21 ∧ (d.length : Int) ≤ x
  · rw [if_pos c1, List.length_append, List.length_replicate]; omega
  · rw [if_neg c1]
    by_cases c2 : 1 ≤ x ∧ x ≤ 21
    · rw [if_pos c2, List.length_append, List.length_cons, List.length_take, List.length_drop]; omega
    · rw [if_neg c2]
      by_cases c3 : -5 ≤ x ∧ x ≤ 0
      · rw [if_pos c3, List.length_cons, List.length_cons, List.length_append, List.length_replicate]; omega
      · rw [if_neg c3, List.length_append, List.length_append, List.length_cons, List.length_take]
        have e1 : (if 1 < d.length then 46 :: d.drop 1 else []).length ≤ d.length := by split <;> simp <;> omega
        have e2 : (if x < 1 then 45 :: decDigits (1 - x).toNat else 43 :: decDigits (x - 1).toNat).length ≤ 4 := by
          split
          · have := dec_short (u := (1 - x).toNat) (by omega); rw [List.length_cons]; omega
          · have := dec_short (u := (x - 1).toNat) (by omega); rw [List.length_cons]; omega
        omega
end Go.Proofs.YtojpfmlmalmlcaaGreatDoor

namespace Go.Proofs.YtojpfmlmalmlcaaGreatDoor
open Go.RowKit
open Go.Lib (decDigits itoa)
theorem k_two {r : Nat} (h : kOf r = 2) : r ≠ 0 ∧ r ≤ 9218868437227405311 := by
  unfold kOf at h
  split at h
  · omega
  · split at h
    · omega
    · split at h <;> omega
theorem k_of {r : Nat} : (r = 0 ∧ kOf r = 1) ∨ (kOf r = 2) ∨ (r = 9218868437227405312 ∧ kOf r = 3) ∨ (9218868437227405312 < r ∧ kOf r = 4) := by
  unfold kOf
  split
  · exact .inl ⟨by assumption, rfl⟩
  · split
    · exact .inr (.inl rfl)
    · split
      · exact .inr (.inr (.inl ⟨by assumption, rfl⟩))
      · exact .inr (.inr (.inr ⟨by omega, rfl⟩))
def DigAns (r : Nat) (d : List UInt8) (x : Int) (ok : Bool) : Prop := (kOf r ≠ 2 ∧ d = [] ∧ x = 0 ∧ ok = false) ∨ (kOf r = 2 ∧ ShAns r d x ∧ ok = true)
theorem dig_one {r : Nat} {d d' : List UInt8} {x x' : Int} {b b' : Bool} (h : DigAns r d x b) (k : DigAns r d' x' b') : d = d' ∧ x = x' ∧ b = b' := by
  rcases h with ⟨h0, rfl, rfl, rfl⟩ | ⟨h0, h1, rfl⟩ <;> rcases k with ⟨k0, rfl, rfl, rfl⟩ | ⟨k0, k1, rfl⟩
  · exact ⟨rfl, rfl, rfl⟩
  · exact absurd k0 h0
  · exact absurd h0 k0
  · obtain ⟨e1, e2⟩ := sh_one h1 k1
    exact ⟨e1, e2, rfl⟩
def txNaN : List UInt8 := [78, 97, 78]
def txInf : List UInt8 := [73, 110, 102, 105, 110, 105, 116, 121]
def TextAns (s : Bool) (r : Nat) (t : List UInt8) : Prop :=
  (kOf r = 4 ∧ t = txNaN) ∨ (kOf r = 3 ∧ t = shSign s txInf) ∨ (kOf r = 1 ∧ t = shSign s [48]) ∨ (kOf r = 2 ∧ ∃ d x, ShAns r d x ∧ t = shSign s (shBody d x))
theorem text_one {s : Bool} {r : Nat} {t t' : List UInt8} (h : TextAns s r t) (k : TextAns s r t') : t = t' := by
  rcases h with ⟨h0, rfl⟩ | ⟨h0, rfl⟩ | ⟨h0, rfl⟩ | ⟨h0, d, x, h1, rfl⟩ <;> rcases k with ⟨k0, rfl⟩ | ⟨k0, rfl⟩ | ⟨k0, rfl⟩ | ⟨k0, d', x', k1, rfl⟩ <;>
    first
    | rfl
    | (exfalso; omega)
    | skip
  obtain ⟨rfl, rfl⟩ := sh_one h1 k1
  rfl
/-- The other sign's text. -/
theorem text_form {s : Bool} {r : Nat} {t t' : List UInt8} (h : TextAns s r t) (k : TextAns (!s) r t') (h4 : kOf r ≠ 4) : (s = true → t = 45 :: t') ∧ (s = false → t' = 45 :: t) := by
  rcases h with ⟨h0, rfl⟩ | ⟨h0, rfl⟩ | ⟨h0, rfl⟩ | ⟨h0, d, x, h1, rfl⟩ <;> rcases k with ⟨k0, rfl⟩ | ⟨k0, rfl⟩ | ⟨k0, rfl⟩ | ⟨k0, d', x', k1, rfl⟩ <;>
    first
    | (exfalso; omega)
    | (obtain ⟨rfl, rfl⟩ := sh_one h1 k1; cases s <;> exact ⟨fun h => by cases h <;> rfl, fun h => by cases h <;> rfl⟩)
    | (cases s <;> exact ⟨fun h => by cases h <;> rfl, fun h => by cases h <;> rfl⟩)
theorem text_nan {s s' : Bool} {r : Nat} {t t' : List UInt8} (h : TextAns s r t) (k : TextAns s' r t') (h4 : kOf r = 4) : t = txNaN ∧ t' = txNaN := by
  rcases h with ⟨_, rfl⟩ | ⟨h0, _⟩ | ⟨h0, _⟩ | ⟨h0, _⟩
  · rcases k with ⟨_, rfl⟩ | ⟨k0, _⟩ | ⟨k0, _⟩ | ⟨k0, _⟩
    · exact ⟨rfl, rfl⟩
    all_goals omega
  all_goals omega
/-- A text without a sign, with one. -/
theorem jn_sign {b ip fp : List UInt8} {E : Int} (s : Bool) (h : JN b false ip fp E) : JN (shSign s b) s ip fp E := by
  obtain ⟨fr, ex, hb, rest⟩ := h
  refine ⟨fr, ex, ?_, rest⟩
  cases s
  · exact hb
  · show 45 :: b = [45] ++ _
    rw [hb]
    rfl
set_option maxRecDepth 100000 in
theorem lex_sign {b : List UInt8} (s : Bool) (h : lexU b ≠ 0) (h45 : b.getD 0 0 ≠ 45) (h0 : b ≠ []) : lexP (shSign s b) ≠ 0 := by
  have e : lexP b = lexU b := by
    rw [lexP_trim]
    congr 1
    cases b with
    | nil => exact absurd rfl h0
    | cons c t =>
      have : c ≠ 45 := by simpa using h45
      simp [trim, this]
  cases s
  · show lexP b ≠ 0
    rw [e]; exact h
  · show lexP (45 :: b) ≠ 0
    rw [lexP_minus h0 h45, e]; exact h
/-- What is parsed of a text that tells a pattern. -/
theorem parse_tells {s : Bool} {b d : List UInt8} {x : Int} {r a : Nat} {e : Int} (h : STells b d x) (hn : NearIs (dA d x) (dB d x) r) (hr : r ≤ 9218868437227405311) (hl : (shSign s b).length ≤ 300) (hp : ParseAns (shSign s b) a e) : a = pat s r ∧ e = 0 := by
  obtain ⟨l0, l1, l2, ip, fp, E, hj, ht⟩ := h
  have hlex := lex_sign s l0 l1 l2
  have hj2 := jn_sign s hj
  rcases hp with ⟨h0, _⟩ | ⟨_, h1, _⟩ | ⟨_, _, n, ip', fp', E', hj', p, hp, rfl, rfl⟩
  · exact absurd h0 hlex
  · omega
  · obtain ⟨rfl, rfl, rfl, rfl⟩ := jn_one hj' hj2
    cases near_one (dB_pos _ _) hp (ht _ hn)
    exact ⟨if_neg (by omega), if_neg (by omega)⟩
theorem nought_tells : STells [48] [48] 1 := ⟨by decide, by decide, by decide, [48], [], 0, ⟨[], [], rfl, by decide, .inl ⟨rfl, rfl⟩, .inl ⟨rfl, rfl⟩⟩, fun _ hp => hp⟩
theorem nought_near : NearIs (dA [48] 1) (dB [48] 1) 0 := by
  have e : nd [48] = 0 := by decide
  rw [dA_zero e]
  exact near_none (dB_pos _ _) (by omega)
theorem sign_len (s : Bool) (b : List UInt8) : (shSign s b).length ≤ b.length + 1 := by cases s <;> simp [shSign]
/-- What the law on the way back asks. -/
theorem back_all {s : Bool} {r a : Nat} {t : List UInt8} {e : Int} (h : TextAns s r t) (hp : ParseAns t a e) :
    (2 < kOf r ∧ e = 3 ∧ a = 0) ∨ (¬ 2 < kOf r ∧ e = 0 ∧ a = pat s r ∧ lexP t ≠ 0 ∧ t.length ≤ 25) := by
  rcases h with ⟨h0, rfl⟩ | ⟨h0, rfl⟩ | ⟨h0, rfl⟩ | ⟨h0, d, x, h1, rfl⟩
  · left
    have hl : lexP txNaN = 0 := by decide
    rcases hp with ⟨_, rfl, rfl⟩ | ⟨k, _⟩ | ⟨k, _⟩
    · exact ⟨by omega, rfl, rfl⟩
    · exact absurd hl k
    · exact absurd hl k
  · left
    have hl : lexP (shSign s txInf) = 0 := by cases s <;> decide
    rcases hp with ⟨_, rfl, rfl⟩ | ⟨k, _⟩ | ⟨k, _⟩
    · exact ⟨by omega, rfl, rfl⟩
    · exact absurd hl k
    · exact absurd hl k
  · right
    have hr : r = 0 := by
      rcases k_of (r := r) with ⟨h, _⟩ | h | ⟨_, h⟩ | ⟨_, h⟩
      · exact h
      all_goals omega
    subst hr
    have hlen := sign_len s [48]
    obtain ⟨e1, e2⟩ := parse_tells nought_tells nought_near (by decide) (Nat.le_trans hlen (by decide)) hp
    exact ⟨by omega, e2, e1, lex_sign s nought_tells.1 nought_tells.2.1 nought_tells.2.2.1, Nat.le_trans hlen (by decide)⟩
  · right
    obtain ⟨r0, r1⟩ := k_two h0
    have hx := sh_exp r0 r1 h1
    have hl := body_len (x := x) h1.1 (sh_len r0 r1 h1).1 (by omega)
    have hlen := sign_len s (shBody d x)
    have ht := tells_body (x := x) h1.1
    obtain ⟨e1, e2⟩ := parse_tells ht (sh_near h1) r1 (by omega) hp
    exact ⟨by omega, e2, e1, lex_sign s ht.1 ht.2.1 ht.2.2.1, by omega⟩
/-- A decimal has a nearest pattern. -/
theorem dec_near (l : List UInt8) (x : Int) : ∃ p, NearIs (dA l x) (dB l x) p := by
  by_cases h0 : dA l x = 0
  · exact ⟨0, by rw [h0]; exact near_none (dB_pos _ _) (by omega)⟩
  · have hU : dB l x * uu 1074 ≠ 0 := by have := Nat.mul_pos (dB_pos l x) (uu_pos 1074); omega
    obtain ⟨a, ha⟩ := len2_some h0
    obtain ⟨b, hb⟩ := len2_some hU
    exact ⟨_, near_same (by omega) (dB_pos _ _) (by rw [Nat.mul_assoc, Nat.mul_comm (uu 1074)]) (near_unit ha hb rfl)⟩
/-- With the noughts at either end left out they are no fewer than the pattern's own. -/
theorem least_all {p k j : Nat} {l l1 l2 d : List UInt8} {x y : Int} (h0 : p ≠ 0) (hp : p ≤ 9218868437227405311) (hd : Dgs l) (hn : NearIs (dA l x) (dB l x) p) (hs : ShAns p d y) (hl : l = List.replicate k 48 ++ l1) (h1 : l1 = [] ∨ l1.getD 0 0 ≠ 48) (hl1 : l1 = l2 ++ List.replicate j 48) : d.length ≤ l2.length := by
  obtain ⟨e1, e2⟩ := noughts_ahead l1 k (x - (k : Int))
  rw [show x - (k : Int) + (k : Int) = x by omega, ← hl] at e1 e2
  rw [e1, e2] at hn
  have hd1 : Dgs l1 := by rw [hl] at hd; exact hd.right
  obtain ⟨q, hq⟩ := dec_near l2 (x - (k : Int))
  have hq2 := noughts_behind j hq
  rw [← hl1] at hq2
  cases near_one (dB_pos _ _) hn hq2
  have hne : l2 ≠ [] := by
    rintro rfl
    rw [List.nil_append] at hl1
    have hz : l1 = [] := by
      rcases h1 with h | h
      · exact h
      · cases j with
        | zero => exact hl1
        | succ j => exact absurd (by rw [hl1, List.replicate_succ]; rfl) h
    subst hz
    rw [dA_zero rfl] at hn
    exact h0 (near_one (dB_pos _ _) hn (near_none (dB_pos _ _) (by omega)))
  refine (sh_len h0 hp hs).2 l2 _ ?_ hne ?_ hq
  · rw [hl1] at hd1; exact hd1.left
  · rcases h1 with h | h
    · rw [hl1] at h
      exact absurd (List.append_eq_nil_iff.1 h).1 hne
    · cases l2 with
      | nil => exact absurd rfl hne
      | cons c m => rw [hl1] at h; simpa using h
end Go.Proofs.YtojpfmlmalmlcaaGreatDoor

namespace Go.Proofs.YtojpfmlmalmlcaaGreatDoor
open Go.RowKit
open Go.Lib (decDigits itoa)

/-! ### The power of ten that is not above -/
/-- The power of ten not above 2^(H - 1074), and 1074. -/
def TT (H : Nat) : Nat := (H * 78913 + 196790094) / 262144
def ttCheck (F H : Nat) : Bool := Nat.ble (10 ^ TT H) (2 ^ H * F) && Nat.blt (2 ^ H * F) (10 ^ (TT H + 1))
theorem tt_all : (List.range 2098).all (ttCheck FF) = true := by kernel_rfl
theorem tt_is {H : Nat} (h : H < 2098) : 10 ^ TT H ≤ 2 ^ H * FF ∧ 2 ^ H * FF < 10 ^ (TT H + 1) := by
  have := List.all_eq_true.1 tt_all H (List.mem_range.2 h)
  unfold ttCheck at this
  rw [Bool.and_eq_true] at this
  exact ⟨Nat.le_of_ble_eq_true this.1, Nat.le_of_ble_eq_true this.2⟩
theorem tt_bounds {H : Nat} (h : H < 2098) : 750 ≤ TT H ∧ TT H ≤ 1382 := by
  unfold TT
  omega
/-- As the program reckons it. -/
theorem tt_prog {H : Nat} {h : Int} (e : h = (H : Int) - 1074) : h * 78913 / 262144 = (TT H : Int) - 1074 := by
  unfold TT
  omega

/-! ### Quotients -/
theorem quot_div {n over under G Y : Nat} (hu : 0 < under) (hG : 0 < G) (h : over * G = Y * under) : n * over / under = n * Y / G ∧ (n * over % under = 0 ↔ n * Y % G = 0) := by
  have e : n * over * G = n * Y * under := by rw [Nat.mul_assoc, h, Nat.mul_assoc]
  constructor
  · rw [← Nat.mul_div_mul_right (n * over) under hG, ← Nat.mul_div_mul_right (n * Y) G hu, e, Nat.mul_comm G]
  · have k : n * over % under * G = n * Y % G * under := by
      rw [← Nat.mul_mod_mul_right, ← Nat.mul_mod_mul_right, e, Nat.mul_comm G]
    constructor
    · intro h0
      rw [h0, Nat.zero_mul] at k
      rcases Nat.mul_eq_zero.1 k.symm with h | h
      · exact h
      · omega
    · intro h0
      rw [h0, Nat.zero_mul] at k
      rcases Nat.mul_eq_zero.1 k with h | h
      · exact h
      · omega
/-- The quotient as the program lays it: 2^(e - 2) times 10^(-unit), as one of whole numbers. -/
theorem quot_is {a1 a2 b1 b2 k U : Nat} (hN : ∀ N, N = 1074 → a1 + 2 + N = k + a2 ∧ b1 + U = N + b2) : 10 ^ b1 * 2 ^ a1 * (4 * 10 ^ U) = 2 ^ k * FF * (10 ^ b2 * 2 ^ a2) := by
  obtain ⟨N, hN0⟩ : ∃ N : Nat, N = 1074 := ⟨_, rfl⟩
  obtain ⟨h1, h2⟩ := hN N hN0
  apply Nat.eq_of_mul_eq_mul_right (Nat.two_pow_pos N)
  have s1 : ∀ a b c d e : Nat, a * b * (c * d) * e = b * c * e * (a * d) := fun a b c d e => by ac_rfl
  have s2 : ∀ a f b c d : Nat, a * f * (b * c) * d = a * c * (d * f * b) := fun a f b c d => by ac_rfl
  have e1 : 10 ^ b1 * 2 ^ a1 * (4 * 10 ^ U) * 2 ^ N = 2 ^ (a1 + 2 + N) * 10 ^ (b1 + U) := by
    rw [Nat.pow_add 10 b1, Nat.pow_add 2 (a1 + 2), Nat.pow_add 2 a1, show (2 : Nat) ^ 2 = 4 from rfl]
    exact s1 _ _ _ _ _
  have e2 : 2 ^ k * FF * (10 ^ b2 * 2 ^ a2) * 2 ^ N = 2 ^ (k + a2) * 10 ^ (N + b2) := by
    rw [Nat.pow_add 2 k, Nat.pow_add 10 N, ← FF_two N hN0, uu]
    exact s2 _ _ _ _ _
  rw [e1, e2, h1, h2]

/-! ### Where a number lies -/
/-- The lower and the upper bound, each as twice the middle, in units. -/
def LLow (p : Nat) : Nat := (vN (p - 1) + vN p) * FF
def HHigh (p : Nat) : Nat := (vN p + vN (p + 1)) * FF
def shLeast (D L p : Nat) : Nat := if L % D = 0 ∧ p % 2 = 0 then L / D else L / D + 1
def shMost (D H p : Nat) : Nat := if H % D = 0 ∧ p % 2 = 1 then H / D - 1 else H / D
theorem div_lt_mul {L D N : Nat} (hD : 0 < D) : L < N * D ↔ L / D < N := (Nat.div_lt_iff_lt_mul hD).symm
theorem div_eq_mul {L D N : Nat} (hD : 0 < D) : L = N * D ↔ L / D = N ∧ L % D = 0 := by
  constructor
  · rintro rfl
    exact ⟨Nat.mul_div_cancel _ hD, Nat.mul_mod_left _ _⟩
  · rintro ⟨rfl, h⟩
    have := Nat.div_add_mod L D
    rw [h, Nat.add_zero, Nat.mul_comm] at this
    exact this.symm
theorem least_is {L D N p : Nat} (hD : 0 < D) : (L < N * D ∨ (p % 2 = 0 ∧ L = N * D)) ↔ shLeast D L p ≤ N := by
  rw [div_lt_mul hD, div_eq_mul hD]
  unfold shLeast
  split <;> omega
theorem most_is {H D N p : Nat} (hD : 0 < D) (h1 : 1 ≤ H / D) : (N * D < H ∨ (p % 2 = 0 ∧ N * D = H)) ↔ N ≤ shMost D H p := by
  have e : N * D < H ↔ (N < H / D ∨ (N = H / D ∧ H % D ≠ 0)) := by
    have h2 := Nat.div_add_mod H D
    have h3 := Nat.mod_lt H hD
    generalize H / D = q at *
    generalize H % D = r at *
    subst h2
    constructor
    · intro h
      rcases Nat.lt_trichotomy N q with c | c | c
      · exact .inl c
      · subst c
        rw [Nat.mul_comm] at h
        exact .inr ⟨rfl, by omega⟩
      · exfalso
        have : (q + 1) * D ≤ N * D := Nat.mul_le_mul_right _ c
        rw [Nat.add_mul, Nat.one_mul, Nat.mul_comm q] at this
        omega
    · rintro (c | ⟨rfl, c⟩)
      · have : (N + 1) * D ≤ q * D := Nat.mul_le_mul_right _ c
        rw [Nat.add_mul, Nat.one_mul, Nat.mul_comm q] at this
        omega
      · rw [Nat.mul_comm]
        omega
  rw [e, eq_comm (a := N * D), div_eq_mul hD]
  unfold shMost
  split <;> omega
theorem near_bounds {p U N : Nat} (h0 : p ≠ 0) (hp : p ≤ 9218868437227405311) (h1 : 1 ≤ HHigh p / (2 * 10 ^ U)) :
    NearIs (N * 10 ^ U) FF p ↔ shLeast (2 * 10 ^ U) (LLow p) p ≤ N ∧ N ≤ shMost (2 * 10 ^ U) (HHigh p) p := by
  have hD : 0 < 2 * 10 ^ U := by have := ten_pos U; omega
  rw [← least_is hD, ← most_is hD h1, show N * (2 * 10 ^ U) = 2 * (N * 10 ^ U) by ac_rfl]
  unfold NearIs LLow HHigh
  constructor
  · rintro ⟨_, h2, h3⟩
    exact ⟨by omega, by omega⟩
  · rintro ⟨h2, h3⟩
    exact ⟨by omega, by omega, by omega⟩

/-! ### The nearest multiple -/
/-- Whether the multiple above is to be taken. -/
def nearUp (A step : Nat) (just : Bool) : Bool := if A % step = step / 2 ∧ just = true then decide (A / step % 2 = 1) else decide (step / 2 ≤ A % step)
/-- What the program answers of one step. -/
def nrst (A least most step : Nat) (just : Bool) : Option Nat :=
  if A - A % step < least ∧ most < A - A % step + step then none
  else if most < A - A % step + step ∨ (least ≤ A - A % step ∧ nearUp A step just = false) then some (A - A % step) else some (A - A % step + step)
theorem down_is (A s : Nat) : A - A % s = A / s * s := by
  have := Nat.div_add_mod A s
  rw [Nat.mul_comm] at this
  omega
theorem pick_is {V A T U s : Nat} {just : Bool} (hA : A = V / 10 ^ U) (hj : just = decide (V % 10 ^ U = 0)) (hs : s % 2 = 0) (hs0 : 0 < s) (hT : 10 ^ T = s * 10 ^ U) :
    pick V T = (if nearUp A s just then A / s + 1 else A / s) := by
  have e1 : V / 10 ^ T = A / s := by rw [hT, Nat.mul_comm, hA, Nat.div_div_eq_div_mul]
  have e2 : V % 10 ^ T = A % s * 10 ^ U + V % 10 ^ U := by
    rw [hT, Nat.mul_comm s, Nat.mod_mul, ← hA, Nat.add_comm, Nat.mul_comm]
  have hU := ten_pos U
  have hr := Nat.mod_lt V hU
  have hl := Nat.mod_lt A hs0
  obtain ⟨h, rfl⟩ : ∃ h, s = 2 * h := ⟨s / 2, by omega⟩
  unfold pick nearUp
  rw [e1, e2, hT, hj, show 2 * h / 2 = h by omega]
  generalize V % 10 ^ U = r0 at *
  generalize 10 ^ U = D at *
  generalize A % (2 * h) = l at *
  generalize A / (2 * h) = q at *
  have key : (2 * (l * D + r0) < 2 * h * D ↔ l < h) ∧ (2 * (l * D + r0) = 2 * h * D ↔ l = h ∧ r0 = 0) := by
    rw [Nat.mul_assoc]
    rcases Nat.lt_trichotomy l h with c | c | c
    · have : (l + 1) * D ≤ h * D := Nat.mul_le_mul_right _ c
      rw [Nat.add_mul, Nat.one_mul] at this
      exact ⟨⟨fun _ => c, fun _ => by omega⟩, ⟨fun _ => by omega, fun _ => by omega⟩⟩
    · subst c
      exact ⟨⟨fun _ => by omega, fun _ => by omega⟩, ⟨fun _ => ⟨rfl, by omega⟩, fun k => by omega⟩⟩
    · have : (h + 1) * D ≤ l * D := Nat.mul_le_mul_right _ c
      rw [Nat.add_mul, Nat.one_mul] at this
      exact ⟨⟨fun _ => by omega, fun _ => by omega⟩, ⟨fun _ => by omega, fun _ => by omega⟩⟩
  simp only [key.1, key.2]
  by_cases c : l < h
  · rw [if_pos (.inl c), if_neg (show ¬ (l = h ∧ decide (r0 = 0) = true) by omega)]
    rw [if_neg (by simp; omega)]
  · by_cases c1 : l = h ∧ r0 = 0
    · obtain ⟨c1, c2⟩ := c1
      rw [if_pos (show l = h ∧ decide (r0 = 0) = true from ⟨c1, by simp [c2]⟩)]
      by_cases c3 : q % 2 = 0
      · rw [if_pos (.inr ⟨⟨c1, c2⟩, c3⟩), if_neg (by simp; omega)]
      · rw [if_neg (by omega), if_pos (by simp; omega)]
    · rw [if_neg (by omega), if_neg (show ¬ (l = h ∧ decide (r0 = 0) = true) by simp; omega), if_pos (by simp; omega)]

/-- What stands fast where a double lies. -/
structure Lies (p U A least most : Nat) (just : Bool) : Prop where
  p0 : p ≠ 0
  pm : p ≤ 9218868437227405311
  at_ : A = VV p / 10 ^ U
  just_ : just = decide (VV p % 10 ^ U = 0)
  least_ : least = shLeast (2 * 10 ^ U) (LLow p) p
  most_ : most = shMost (2 * 10 ^ U) (HHigh p) p
  high : 1 ≤ HHigh p / (2 * 10 ^ U)
theorem Lies.near {p U A least most : Nat} {just : Bool} (h : Lies p U A least most just) {N : Nat} : NearIs (N * 10 ^ U) FF p ↔ least ≤ N ∧ N ≤ most := by
  rw [h.least_, h.most_]
  exact near_bounds h.p0 h.pm h.high
theorem low_lt (p : Nat) (h0 : p ≠ 0) : LLow p < 2 * VV p ∧ 2 * VV p < HHigh p := by
  have h1 := vN_up (p - 1)
  rw [show p - 1 + 1 = p by omega] at h1
  have h2 := vN_up p
  have hF := FF_pos
  unfold LLow HHigh VV
  rw [← Nat.mul_assoc]
  exact ⟨Nat.mul_lt_mul_of_pos_right (by omega) hF, Nat.mul_lt_mul_of_pos_right (by omega) hF⟩
theorem Lies.mid {p U A least most : Nat} {just : Bool} (h : Lies p U A least most just) {N : Nat} : (N ≤ A → N ≤ most) ∧ (A < N → least ≤ N) := by
  have hD : 0 < 2 * 10 ^ U := by have := ten_pos U; omega
  obtain ⟨l1, l2⟩ := low_lt p h.p0
  constructor
  · intro hN
    rw [h.most_, ← most_is hD h.high]
    left
    refine Nat.lt_of_le_of_lt ?_ l2
    rw [show N * (2 * 10 ^ U) = 2 * (N * 10 ^ U) by ac_rfl]
    refine Nat.mul_le_mul_left _ ?_
    rw [h.at_] at hN
    exact (Nat.le_div_iff_mul_le (ten_pos U)).1 hN
  · intro hN
    rw [h.least_, ← least_is hD]
    left
    refine Nat.lt_trans l1 ?_
    rw [show N * (2 * 10 ^ U) = 2 * (N * 10 ^ U) by ac_rfl]
    refine Nat.mul_lt_mul_of_pos_left ?_ (by decide)
    rw [h.at_] at hN
    exact (Nat.div_lt_iff_lt_mul (ten_pos U)).1 hN

/-- One step: the two of so many digits beside the number. -/
theorem nrst_is {p U A least most s T : Nat} {just : Bool} (h : Lies p U A least most just) (hs : s % 2 = 0) (hs0 : 0 < s) (hT : 10 ^ T = s * 10 ^ U) :
    (nrst A least most s just = none → ¬ Hit p (VV p) T) ∧ (∀ N, nrst A least most s just = some N → ∃ Q, Best p (VV p) T Q ∧ N = Q * s) := by
  have e1 : VV p / 10 ^ T = A / s := by rw [hT, Nat.mul_comm, h.at_, Nat.div_div_eq_div_mul]
  have hd : NearIs (VV p / 10 ^ T * 10 ^ T) FF p ↔ least ≤ A / s * s := by
    rw [e1, hT, ← Nat.mul_assoc, h.near]
    exact ⟨fun k => k.1, fun k => ⟨k, h.mid.1 (Nat.div_mul_le_self A s)⟩⟩
  have hu : NearIs ((VV p / 10 ^ T + 1) * 10 ^ T) FF p ↔ A / s * s + s ≤ most := by
    rw [e1, hT, ← Nat.mul_assoc, h.near, Nat.add_mul, Nat.one_mul]
    refine ⟨fun k => k.2, fun k => ⟨h.mid.2 ?_, k⟩⟩
    have h1 := Nat.div_add_mod A s
    have h2 := Nat.mod_lt A hs0
    rw [Nat.mul_comm] at h1
    omega
  have hp := pick_is h.at_ h.just_ hs hs0 hT
  unfold nrst Hit
  rw [down_is, hd, hu]
  constructor
  · intro k
    split at k
    · omega
    · split at k <;> cases k
  · intro N k
    unfold Best
    rw [hd, hu, hp, e1]
    split at k
    · cases k
    · split at k
      · rename_i c1 c2
        cases k
        refine ⟨A / s, ?_, rfl⟩
        by_cases c3 : A / s * s + s ≤ most
        · rcases c2 with c2 | c2
          · omega
          · exact .inr (.inr ⟨c2.1, c3, by rw [c2.2]; rfl⟩)
        · exact .inl ⟨by omega, c3, rfl⟩
      · rename_i c1 c2
        cases k
        refine ⟨A / s + 1, ?_, by rw [Nat.add_mul, Nat.one_mul]⟩
        by_cases c3 : least ≤ A / s * s
        · refine .inr (.inr ⟨c3, by omega, ?_⟩)
          have : nearUp A s just = true := by
            cases hb : nearUp A s just
            · exact absurd (.inr ⟨c3, hb⟩) c2
            · rfl
          rw [this]; rfl
        · exact .inr (.inl ⟨c3, by omega, rfl⟩)

end Go.Proofs.YtojpfmlmalmlcaaGreatDoor

namespace Go.Proofs.YtojpfmlmalmlcaaGreatDoor
open Go.RowKit
open Go.Lib (decDigits itoa)

/-- What the program starts with. -/
structure Starts (r m L H k T : Nat) (e unit : Int) (U : Nat) : Prop where
  r0 : r ≠ 0
  rm : r < 9218868437227405312
  m_ : m = mOf r
  e_ : e = eOf r
  k_ : (k : Int) = e + 1074
  v_ : vN r = m * 2 ^ k
  s_ : vN r + vN (r + 1) = (2 * m + 1) * 2 ^ k
  l_ : Len2 m L
  lb : L ≤ 53
  h_ : H = L - 1 + k
  hb : H < 2098
  t_ : T = TT H
  u_ : unit = (T : Int) - 1091
  U_ : U = T - 17
theorem starts_of {r : Nat} (h : kOf r = 2) : ∃ m L H k T e unit U, Starts r m L H k T e unit U := by
  obtain ⟨r0, rm⟩ := k_two h
  have rm' : r < 9218868437227405312 := by omega
  obtain ⟨k, k1, k2, k3⟩ := vN_split r0 rm'
  have hm : mOf r ≠ 0 ∧ mOf r < 9007199254740992 := by
    unfold mOf
    split
    · omega
    · omega
  obtain ⟨L, hL⟩ := len2_some hm.1
  have hlb : L ≤ 53 := by
    apply Nat.le_of_not_lt
    intro hlt
    have h1 := hL.2.1
    have h2 : 2 ^ 53 ≤ 2 ^ (L - 1) := Nat.pow_le_pow_right (by decide) (by omega)
    omega
  have he := eb12 r
  exact ⟨_, L, _, k, _, _, _, _, ⟨r0, rm', rfl, rfl, k1, k2, k3, hL, hlb, rfl, by have := hL.1; omega, rfl, rfl, rfl⟩⟩

variable {r m L H k T : Nat} {e unit : Int} {U : Nat}
theorem Starts.tb (h : Starts r m L H k T e unit U) : 750 ≤ T ∧ T ≤ 1382 := by
  rw [h.t_]; exact tt_bounds h.hb
theorem Starts.eb (h : Starts r m L H k T e unit U) : -1074 ≤ e ∧ e ≤ 971 := by
  rw [h.e_]; exact eb12 r
theorem Starts.mb (h : Starts r m L H k T e unit U) : 1 ≤ m ∧ m < 9007199254740992 := by
  have h1 := h.l_
  refine ⟨h1.pos, Nat.lt_of_lt_of_le h1.2.2 ?_⟩
  exact Nat.le_trans (Nat.pow_le_pow_right (by decide) h.lb) (by decide)
/-- The number in units lies from 10^17 up to below 20 times that. -/
theorem Starts.size (h : Starts r m L H k T e unit U) : 10 ^ 17 * 10 ^ U ≤ VV r ∧ VV r < 20 * 10 ^ 17 * 10 ^ U := by
  obtain ⟨t1, t2⟩ := tt_is h.hb
  have ht := h.tb
  obtain ⟨N, hN⟩ : ∃ N, N = 17 := ⟨_, rfl⟩
  have eT : T = N + U := by have := h.U_; omega
  rw [← h.t_] at t1 t2
  rw [h.h_, Nat.pow_add] at t1 t2
  have hV : VV r = m * (2 ^ k * FF) := by unfold VV; rw [h.v_, Nat.mul_assoc]
  have hm := h.l_.2
  have hL : 2 ^ L = 2 * 2 ^ (L - 1) := by
    have h1 := h.l_.1
    rw [show L = (L - 1) + 1 by omega, Nat.pow_succ, Nat.add_sub_cancel]
    omega
  rw [hL] at hm
  rw [Nat.mul_assoc] at t1 t2
  have hY : 0 < 2 ^ k * FF := Nat.mul_pos (Nat.two_pow_pos k) FF_pos
  rw [hV, ← hN]
  rw [eT, Nat.pow_succ] at t2
  rw [eT] at t1
  rw [Nat.pow_add] at t1 t2
  generalize 2 ^ k * FF = Y at *
  constructor
  · exact Nat.le_trans t1 (Nat.mul_le_mul_right _ hm.1)
  · have s1 : m * Y < 2 * 2 ^ (L - 1) * Y := Nat.mul_lt_mul_of_pos_right hm.2 hY
    rw [Nat.mul_assoc] at s1
    have s2 : 20 * 10 ^ N * 10 ^ U = 20 * (10 ^ N * 10 ^ U) := Nat.mul_assoc _ _ _
    rw [s2]
    generalize 10 ^ N * 10 ^ U = D at *
    have s3 : 2 ^ (L - 1) * Y < 10 * D := by omega
    omega

/-- The quotient that the program lays. -/
def ovr (e unit : Int) : Nat := 10 ^ (-unit).toNat * 2 ^ (e - 2).toNat
def und (e unit : Int) : Nat := 10 ^ (- -unit).toNat * 2 ^ (-(e - 2)).toNat
theorem und_pos : 0 < und e unit := Nat.mul_pos (ten_pos _) (Nat.two_pow_pos _)
theorem Starts.quo (h : Starts r m L H k T e unit U) : ovr e unit * (4 * 10 ^ U) = 2 ^ k * FF * und e unit := by
  unfold ovr und
  have h1 := h.k_; have h2 := h.u_; have h3 := h.U_; have h4 := h.tb; have h5 := h.eb
  exact quot_is fun N hN => ⟨by omega, by omega⟩
theorem four_pos (U : Nat) : 0 < 4 * 10 ^ U := by have := ten_pos U; omega
theorem Starts.at_is (h : Starts r m L H k T e unit U) : 4 * m * ovr e unit / und e unit = VV r / 10 ^ U ∧ (4 * m * ovr e unit % und e unit = 0 ↔ VV r % 10 ^ U = 0) := by
  obtain ⟨q1, q2⟩ := quot_div (n := 4 * m) und_pos (four_pos U) h.quo
  have g1 : ∀ a b c : Nat, 4 * a * (b * c) = 4 * (a * b * c) := fun a b c => by ac_rfl
  have e1 : 4 * m * (2 ^ k * FF) = 4 * VV r := by unfold VV; rw [h.v_]; exact g1 _ _ _
  rw [q1, q2, e1, Nat.mul_div_mul_left _ _ (by decide), Nat.mul_mod_mul_left]
  exact ⟨rfl, by omega⟩
theorem half_is {n X Y : Nat} (hY : n * Y = 2 * X) (D : Nat) : n * Y / (4 * D) = X / (2 * D) ∧ (n * Y % (4 * D) = 0 ↔ X % (2 * D) = 0) := by
  rw [hY, show 4 * D = 2 * (2 * D) by omega, Nat.mul_div_mul_left _ _ (by decide), Nat.mul_mod_mul_left]
  exact ⟨rfl, by omega⟩
theorem Starts.above (h : Starts r m L H k T e unit U) : (4 * m + 2) * (2 ^ k * FF) = 2 * HHigh r := by
  have g1 : ∀ a b c : Nat, 2 * a * (b * c) = 2 * (a * b * c) := fun a b c => by ac_rfl
  unfold HHigh
  rw [h.s_, show 4 * m + 2 = 2 * (2 * m + 1) by omega]
  exact g1 _ _ _
def lowM (m : Nat) (e : Int) : Nat := if m = 4503599627370496 ∧ -1074 < e then 4 * m - 1 else 4 * m - 2
theorem Starts.below (h : Starts r m L H k T e unit U) : lowM m e * (2 ^ k * FF) = 2 * LLow r := by
  have hm := h.mb
  have hs := vN_step (r - 1)
  have r0 := h.r0
  rw [show r - 1 + 1 = r by omega, h.v_] at hs
  obtain ⟨p, hp⟩ : ∃ p, p = (r - 1) / 4503599627370496 - 1 := ⟨_, rfl⟩
  rw [← hp] at hs
  have key : lowM m e * 2 ^ k = 2 * (vN (r - 1) + vN r) := by
    rw [h.v_]
    have hmr := h.m_; have her := h.e_; have hk := h.k_; have rm := h.rm
    unfold mOf at hmr
    unfold eOf at her
    rw [if_neg r0] at her
    unfold lowM
    by_cases c : r < 4503599627370496
    · rw [if_pos c] at hmr her
      rw [if_neg (by omega)]
      have hp0 : p = 0 := by omega
      have hk0 : k = 0 := by omega
      rw [hp0] at hs
      rw [hk0] at hs ⊢
      simp only [Nat.pow_zero, Nat.mul_one] at *
      omega
    · rw [if_neg c, if_pos rm] at hmr her
      by_cases c1 : r % 4503599627370496 = 0
      · by_cases c2 : -1074 < e
        · rw [if_pos ⟨by omega, c2⟩]
          obtain ⟨j, hj⟩ : ∃ j, k = j + 1 := ⟨k - 1, by omega⟩
          have hpj : p = j := by omega
          rw [hpj] at hs
          rw [hj, Nat.pow_succ] at hs ⊢
          generalize 2 ^ j = x at *
          rw [Nat.sub_mul]
          generalize hmx : m * x = y
          have e1 : 4 * m * (x * 2) = 8 * y := by rw [← hmx]; ac_rfl
          have e2 : m * (x * 2) = 2 * y := by rw [← hmx]; ac_rfl
          rw [e2] at hs
          rw [e1, e2]
          omega
        · rw [if_neg (fun h => c2 h.2)]
          have hp0 : p = 0 := by omega
          have hk0 : k = 0 := by omega
          rw [hp0] at hs
          rw [hk0] at hs ⊢
          simp only [Nat.pow_zero, Nat.mul_one] at *
          omega
      · rw [if_neg (by omega)]
        have hpk : p = k := by omega
        rw [hpk] at hs
        generalize 2 ^ k = x at *
        rw [Nat.sub_mul]
        generalize hmx : m * x = y at *
        have e1 : 4 * m * x = 4 * y := by rw [← hmx]; ac_rfl
        rw [e1]
        omega
  unfold LLow
  rw [← Nat.mul_assoc, key, Nat.mul_assoc]

/-- Where it lies, by what the program reckons. -/
theorem Starts.lies (h : Starts r m L H k T e unit U) :
    Lies r U (4 * m * ovr e unit / und e unit) (if lowM m e * ovr e unit % und e unit = 0 ∧ m % 2 = 0 then lowM m e * ovr e unit / und e unit else lowM m e * ovr e unit / und e unit + 1)
      (if (4 * m + 2) * ovr e unit % und e unit = 0 ∧ m % 2 = 1 then (4 * m + 2) * ovr e unit / und e unit - 1 else (4 * m + 2) * ovr e unit / und e unit) (decide (4 * m * ovr e unit % und e unit = 0)) := by
  obtain ⟨a1, a2⟩ := h.at_is
  obtain ⟨b1, b2⟩ := quot_div (n := lowM m e) und_pos (four_pos U) h.quo
  obtain ⟨c1, c2⟩ := quot_div (n := 4 * m + 2) und_pos (four_pos U) h.quo
  obtain ⟨b3, b4⟩ := half_is h.below (10 ^ U)
  obtain ⟨c3, c4⟩ := half_is h.above (10 ^ U)
  have par : m % 2 = r % 2 := by
    have hmr := h.m_; have rm := h.rm
    unfold mOf at hmr
    split at hmr
    · omega
    · omega
  refine ⟨h.r0, by have := h.rm; omega, a1, by rw [decide_eq_decide]; exact a2, ?_, ?_, ?_⟩
  · unfold shLeast
    simp only [b1.trans b3, b2.trans b4, par]
  · unfold shMost
    simp only [c1.trans c3, c2.trans c4, par]
  · have hs := h.size.1
    have hl := (low_lt r h.r0).2
    have hU := ten_pos U
    rw [Nat.le_div_iff_mul_le (by omega)]
    have : 1 * 10 ^ U ≤ 10 ^ 17 * 10 ^ U := Nat.mul_le_mul_right _ (by decide)
    omega

/-- How great the numbers on the way are. -/
theorem Starts.nums (h : Starts r m L H k T e unit U) : 10 ^ 17 ≤ 4 * m * ovr e unit / und e unit ∧ 4 * m * ovr e unit / und e unit < 20 * 10 ^ 17 ∧ (4 * m + 2) * ovr e unit / und e unit < 40 * 10 ^ 17 ∧ 1 ≤ (4 * m + 2) * ovr e unit / und e unit := by
  obtain ⟨a1, -⟩ := h.at_is
  obtain ⟨c1, -⟩ := quot_div (n := 4 * m + 2) und_pos (four_pos U) h.quo
  obtain ⟨c3, -⟩ := half_is h.above (10 ^ U)
  obtain ⟨s1, s2⟩ := h.size
  have hU := ten_pos U
  have hl := (low_lt r h.r0).2
  have hhi : HHigh r ≤ 3 * VV r := by
    have hm := h.mb
    unfold HHigh VV
    rw [h.s_, h.v_]
    rw [← Nat.mul_assoc]
    refine Nat.mul_le_mul_right _ ?_
    rw [← Nat.mul_assoc]
    exact Nat.mul_le_mul_right _ (by omega)
  rw [a1, c1, c3]
  generalize HHigh r = X at *
  generalize VV r = V at *
  generalize 10 ^ U = D at *
  refine ⟨(Nat.le_div_iff_mul_le hU).2 s1, (Nat.div_lt_iff_lt_mul hU).2 s2, (Nat.div_lt_iff_lt_mul (by omega)).2 ?_, (Nat.le_div_iff_mul_le (by omega)).2 ?_⟩
  · have e1 : 40 * 10 ^ 17 * (2 * D) = 4 * (20 * 10 ^ 17 * D) := by omega
    omega
  · have : 1 * D ≤ 10 ^ 17 * D := Nat.mul_le_mul_right _ (by decide)
    omega

/-! ### The answer -/
theorem ten_even {i : Nat} (h : 1 ≤ i) : 10 ^ i % 2 = 0 := by
  obtain ⟨j, rfl⟩ : ∃ j, i = j + 1 := ⟨i - 1, by omega⟩
  rw [Nat.pow_succ]
  omega
theorem few_width {A U V K : Nat} (hA : A = V / 10 ^ U) (h1 : 10 ^ K ≤ A) (h2 : A < 10 ^ (K + 1)) : 10 ^ (K + 1 + U - 1) ≤ V ∧ V < 10 ^ (K + 1 + U) := by
  have hU := ten_pos U
  rw [hA] at h1 h2
  constructor
  · rw [show K + 1 + U - 1 = K + U by omega, Nat.pow_add]
    exact (Nat.le_div_iff_mul_le hU).1 h1
  · rw [Nat.pow_add]
    exact (Nat.div_lt_iff_lt_mul hU).1 h2
/-- There is one at seventeen digits. -/
theorem few_some {p U A l m : Nat} {just : Bool} (h : Lies p U A l m just) (h17 : 10 ^ 17 ≤ A) : ∃ k0, 1 ≤ k0 ∧ 10 ^ k0 ≤ A ∧ nrst A l m (10 ^ k0) just ≠ none := by
  obtain ⟨K, hK1, hK2⟩ : ∃ K, 10 ^ K ≤ A ∧ A < 10 ^ (K + 1) := by
    have key : ∀ n, A < 10 ^ n → ∃ K, 10 ^ K ≤ A ∧ A < 10 ^ (K + 1) := by
      intro n
      induction n with
      | zero => intro h; have : 0 < 10 ^ 17 := ten_pos 17; omega
      | succ n ih =>
        intro hn
        by_cases c : 10 ^ n ≤ A
        · exact ⟨n, c, hn⟩
        · exact ih (by omega)
    exact key A (Nat.lt_pow_self (by decide))
  have hK : 17 ≤ K := by
    apply Nat.le_of_not_lt
    intro hlt
    have : 10 ^ (K + 1) ≤ 10 ^ 17 := Nat.pow_le_pow_right (by decide) (by omega)
    omega
  obtain ⟨w1, w2⟩ := few_width h.at_ hK1 hK2
  have hit := seventeen h.p0 h.pm rfl (W := K + 1 + U) (by omega) w1
  refine ⟨K - 16, by omega, Nat.le_trans (Nat.pow_le_pow_right (by decide) (by omega)) hK1, fun hn => ?_⟩
  have := (nrst_is h (s := 10 ^ (K - 16)) (T := K + 1 + U - 17) (ten_even (by omega)) (ten_pos _) (by rw [← Nat.pow_add]; congr 1; omega)).1 hn
  exact this hit

theorem trim_split (l : List UInt8) : ∃ i : Nat, l = Lib.trimRightB l 48 ++ List.replicate i 48 ∧ Tl (Lib.trimRightB l 48) := by
  have key : ∀ m : List UInt8, ∃ i : Nat, m = List.replicate i 48 ++ m.dropWhile (· == 48) ∧ (m.dropWhile (· == 48)).head? ≠ some 48 := by
    intro m
    induction m with
    | nil => exact ⟨0, rfl, by simp⟩
    | cons c m ih =>
      by_cases hc : c = 48
      · obtain ⟨i, h1, h2⟩ := ih
        subst hc
        refine ⟨i + 1, ?_, ?_⟩
        · rw [List.replicate_succ]
          simp only [List.dropWhile_cons, beq_self_eq_true, if_true, List.cons_append]
          rw [← h1]
        · simpa [List.dropWhile_cons] using h2
      · exact ⟨0, by simp [hc], by simp [hc]⟩
  obtain ⟨i, h1, h2⟩ := key l.reverse
  refine ⟨i, ?_, ?_⟩
  · unfold Lib.trimRightB
    have := congrArg List.reverse h1
    simpa using this
  · unfold Tl Lib.trimRightB
    rw [List.getLast?_reverse]
    exact h2

theorem nd_rep (z : Nat) : nd (List.replicate z 48) = 0 := by
  induction z with
  | zero => rfl
  | succ z ih =>
    have := nd_append [48] (List.replicate z 48)
    rw [ih] at this
    rw [List.replicate_succ]
    exact this.trans (by simp [nd, dv])
theorem dec_front48 {u : Nat} (h : u ≠ 0) : (decDigits u).getD 0 0 ≠ 48 := by
  intro h48
  have hp := dec_plain u
  unfold plain at hp
  rw [Bool.and_eq_true, Bool.or_eq_true] at hp
  rcases hp.2 with e | e
  · have e1 : decDigits u = [48] := by simpa using e
    have := nd_dec u
    rw [e1] at this
    exact h (this.symm.trans (by simp [nd, dv]))
  · rw [h48] at e; exact absurd e (by decide)

/-- The number with the most noughts that is read as the double. -/
def FewR (A : Nat) (j : Bool) (l m N : Nat) : Prop :=
  ∃ K i, 10 ^ K ≤ A ∧ A < 10 ^ (K + 1) ∧ 1 ≤ i ∧ i ≤ K ∧ (∀ k, i < k → k ≤ K → nrst A l m (10 ^ k) j = none) ∧ nrst A l m (10 ^ i) j = some N

theorem few_ans {p U A l m N : Nat} {just : Bool} {unit : Int} (h : Lies p U A l m just) (hu : (U : Int) = unit + 1074) (hf : FewR A just l m N) : ShAns p (Lib.trimRightB (decDigits N) 48) (((decDigits N).length : Int) + unit) := by
  obtain ⟨K, i, h1, h2, h3, h4, h5, h6⟩ := hf
  obtain ⟨w1, w2⟩ := few_width h.at_ h1 h2
  have hT : ∀ k, k ≤ K → K + 1 + U - (K + 1 - k) = k + U := fun k hk => by omega
  obtain ⟨Q, hQ, hN⟩ := (nrst_is h (s := 10 ^ i) (T := i + U) (ten_even h3) (ten_pos _) (Nat.pow_add _ _ _)).2 N h6
  obtain ⟨z, hz, htl⟩ := trim_split (decDigits N)
  obtain ⟨d, hd⟩ : ∃ d, d = Lib.trimRightB (decDigits N) 48 := ⟨_, rfl⟩
  rw [← hd] at hz htl ⊢
  have hnd : nd d * 10 ^ z = N := by
    have e := nd_dec N
    rw [hz, nd_append, nd_rep, List.length_replicate, Nat.add_zero] at e
    exact e
  have hN0 : N ≠ 0 := by
    have e1 : VV p / 10 ^ (i + U) = A / 10 ^ i := by rw [Nat.pow_add, Nat.mul_comm, h.at_, Nat.div_div_eq_div_mul]
    have e2 : 1 ≤ A / 10 ^ i := (Nat.le_div_iff_mul_le (ten_pos i)).2 (by rw [Nat.one_mul]; exact Nat.le_trans (Nat.pow_le_pow_right (by decide) h4) h1)
    have e3 := hQ.le.1
    have e4 : 0 < Q * 10 ^ i := Nat.mul_pos (by omega) (ten_pos i)
    omega
  have hne : d ≠ [] := by
    intro e
    rw [e] at hnd
    exact hN0 (hnd.symm.trans (by simp [nd]))
  have hfr : d.getD 0 0 ≠ 48 := by
    have e := dec_front48 hN0
    rw [hz] at e
    cases d with
    | nil => exact absurd rfl hne
    | cons c t => simpa using e
  have hdg : Dgs d := by
    have e := digs_Dgs (dec_digs N)
    rw [hz] at e
    exact e.left
  have hlen : (decDigits N).length = d.length + z := by rw [hz]; simp
  refine ⟨⟨hdg, hne, hfr, htl⟩, K + 1 + U, K + 1 - i, Q, by omega, by omega, w1, w2, ?_, ?_, ?_⟩
  · intro j j1 j2
    have e : K + 1 + U - j = (K + 1 - j) + U := by omega
    rw [e]
    exact (nrst_is h (s := 10 ^ (K + 1 - j)) (T := K + 1 - j + U) (ten_even (by omega)) (ten_pos _) (Nat.pow_add _ _ _)).1 (h5 _ (by omega) (by omega))
  · rw [hT i h4]; exact hQ
  · rw [hT i h4, units_eq (by omega)]
    congr 1
    unfold unitsOf
    rw [show ((decDigits N).length : Int) + unit - (d.length : Int) + 1074 = ((z + U : Nat) : Int) by omega, Int.toNat_natCast, Nat.pow_add, ← Nat.mul_assoc, hnd, hN, Nat.pow_add, Nat.mul_assoc]
end Go.Proofs.YtojpfmlmalmlcaaGreatDoor

namespace Go.Proofs.YtojpfmlmalmlcaaGreatDoor
open Go.RowKit
/-- The document's 'within'. -/
def withinB (p : Nat) (b a : Int) : Bool := if p % 2 = 0 then decide (0 ≤ b ∧ a ≤ 0) else decide (0 < b ∧ a < 0)
theorem within_near {p : Nat} {a lo hi : List UInt8} {x t z : Int} (h0 : p ≠ 0) (hp : p ≤ 9218868437227405311) (ha : Trim a) (hl : Fine lo t (vN (p - 1) + vN p)) (hh : Fine hi z (vN p + vN (p + 1))) :
    withinB p (cmpD a x lo t) (cmpD a x hi z) = true ↔ NearIs (dA a x) (dB a x) p := by
  have c1 := cmpD_fine' (x := x) hl ha
  have c2 := cmpD_fine' (x := x) hh ha
  unfold withinB NearIs
  generalize dA a x = A at *
  generalize dB a x = B at *
  generalize cmpD a x lo t = b at *
  generalize cmpD a x hi z = e at *
  generalize (vN (p - 1) + vN p) * B = L at *
  generalize (vN p + vN (p + 1)) * B = H at *
  by_cases he : p % 2 = 0
  · rw [if_pos he, decide_eq_true_iff]
    omega
  · rw [if_neg he, decide_eq_true_iff]
    omega
/-- The midpoints, as Exact has them. -/
theorem mid_split {p : Nat} (h0 : p ≠ 0) (hp : p < 9218868437227405312) : 2 * vN p = mOf p * 2 ^ (eOf p + 1075).toNat ∧ vN p + vN (p + 1) = (2 * mOf p + 1) * 2 ^ (eOf p - 1 + 1075).toNat := by
  obtain ⟨k, k1, k2, k3⟩ := vN_split h0 hp
  have e1 : (eOf p + 1075).toNat = k + 1 := by omega
  have e2 : (eOf p - 1 + 1075).toNat = k := by omega
  rw [e1, e2, k3]
  refine ⟨?_, rfl⟩
  rw [k2, Nat.pow_succ, ← Nat.mul_assoc (mOf p), Nat.mul_comm 2]
theorem mid_none : vN 0 + vN 1 = 1 := by rw [vN_low (by decide), vN_low (by decide)]
/-- Which of the two is nearer: the digits that are left held against 5. -/
theorem near_five {b : List UInt8} (hb : Dgs b) (ht : Tl b) : (Op.bytesLess b [53] = true ↔ 2 * nd b < 10 ^ b.length) ∧ (b = [53] ↔ 2 * nd b = 10 ^ b.length) := by
  have h5 : Dgs [53] := fun c hc => by rw [List.mem_singleton.1 hc]; exact ⟨by decide, by decide⟩
  obtain ⟨l1, l2⟩ := lex_num b [53] hb h5 ht (by unfold Tl; decide)
  have e : nd [53] = 5 := by decide
  rw [e, show ([53] : List UInt8).length = 1 from rfl, Nat.pow_one] at l1 l2
  exact ⟨l1.trans (by omega), l2.trans (by omega)⟩
theorem last_parity {a : List UInt8} (hd : Dgs a) (h0 : a ≠ []) : nd a % 2 = dv (a.getD (a.length - 1) 0) % 2 := by
  obtain ⟨m, c, rfl⟩ : ∃ m c, a = m ++ [c] := ⟨a.dropLast, a.getLast h0, (List.dropLast_concat_getLast h0).symm⟩
  rw [nd_snoc]
  have e : (m ++ [c]).getD ((m ++ [c]).length - 1) 0 = c := by simp [List.getD]
  rw [e]
  omega
/-- The document's rule, as the pick. -/
theorem pick_doc {p z W n : Nat} {D : List UInt8} (ht : Trim D) (h : VV p = nd D * 10 ^ z) (hW : W = D.length + z) (h1 : 1 ≤ n) (hn : n < D.length) :
    pick (VV p) (W - n) = if Op.bytesLess (D.drop n) [53] = true ∨ (D.drop n = [53] ∧ dv (D.getD (n - 1) 0) % 2 = 0) then nd (D.take n) else nd (D.take n) + 1 := by
  obtain ⟨e1, e2⟩ := fine_cut ht.dgs h hW (Nat.le_of_lt hn)
  have hbd : Dgs (D.drop n) := fun c hc => ht.dgs c (List.mem_of_mem_drop hc)
  have hbt : Tl (D.drop n) := by
    have hl := ht.last
    unfold Tl
    rw [List.getLast?_drop, if_neg (by omega)]
    exact hl
  obtain ⟨f1, f2⟩ := near_five hbd hbt
  have e3 : 10 ^ (W - n) = 10 ^ (D.drop n).length * 10 ^ z := by rw [← Nat.pow_add, List.length_drop, show W - n = D.length - n + z by omega]
  have hlen : (D.take n).length = n := by rw [List.length_take]; omega
  have par := last_parity (a := D.take n) (fun c hc => ht.dgs c (List.mem_of_mem_take hc)) (fun h => by rw [h] at hlen; simp at hlen; omega)
  rw [hlen] at par
  have e4 : (D.take n).getD (n - 1) 0 = D.getD (n - 1) 0 := by simp [List.getD, show n - 1 < n by omega]
  rw [e4] at par
  have hp := ten_pos z
  unfold pick
  rw [e1, e2, e3, par]
  have g1 : 2 * (nd (D.drop n) * 10 ^ z) < 10 ^ (D.drop n).length * 10 ^ z ↔ 2 * nd (D.drop n) < 10 ^ (D.drop n).length := by
    rw [← Nat.mul_assoc]; exact Nat.mul_lt_mul_right hp
  have g2 : 2 * (nd (D.drop n) * 10 ^ z) = 10 ^ (D.drop n).length * 10 ^ z ↔ 2 * nd (D.drop n) = 10 ^ (D.drop n).length := by
    rw [← Nat.mul_assoc]; exact Nat.mul_left_inj (by omega)
  simp only [g1, g2, f1, f2]
/-- The two candidates of n digits: what each tells. -/
def CandA (W n : Nat) (D a : List UInt8) (X : Int) : Prop := Trim a ∧ dA a X * FF = nd (D.take n) * 10 ^ (W - n) * dB a X
def CandC (W n : Nat) (D c : List UInt8) (y : Int) : Prop := Trim c ∧ dA c y * FF = (nd (D.take n) + 1) * 10 ^ (W - n) * dB c y
theorem cand_near {l : List UInt8} {x : Int} {N p : Nat} (h : dA l x * FF = N * dB l x) : NearIs (dA l x) (dB l x) p ↔ NearIs N FF p :=
  ⟨fun k => near_same (dB_pos _ _) FF_pos h k, fun k => near_same FF_pos (dB_pos _ _) h.symm k⟩
theorem step_hit {p z W n : Nat} {D a c : List UInt8} {X y : Int} (ht : Trim D) (h : VV p = nd D * 10 ^ z) (hW : W = D.length + z) (hn : n < D.length) (ha : CandA W n D a X) (hc : CandC W n D c y) :
    (NearIs (dA a X) (dB a X) p ↔ NearIs (VV p / 10 ^ (W - n) * 10 ^ (W - n)) FF p) ∧ (NearIs (dA c y) (dB c y) p ↔ NearIs ((VV p / 10 ^ (W - n) + 1) * 10 ^ (W - n)) FF p) := by
  obtain ⟨e1, _⟩ := fine_cut ht.dgs h hW (Nat.le_of_lt hn)
  rw [e1]
  exact ⟨cand_near ha.2, cand_near hc.2⟩
theorem step_no {p z W n : Nat} {D a c : List UInt8} {X y : Int} (ht : Trim D) (h : VV p = nd D * 10 ^ z) (hW : W = D.length + z) (hn : n < D.length) (ha : CandA W n D a X) (hc : CandC W n D c y)
    (f : ¬ NearIs (dA a X) (dB a X) p) (g : ¬ NearIs (dA c y) (dB c y) p) : ¬ Hit p (VV p) (W - n) := by
  obtain ⟨h1, h2⟩ := step_hit ht h hW hn ha hc
  rintro (k | k)
  · exact f (h1.2 k)
  · exact g (h2.2 k)
theorem step_ans {p z W n : Nat} {D a c : List UInt8} {X y : Int} (ht : Trim D) (h : VV p = nd D * 10 ^ z) (hW : W = D.length + z) (h1 : 1 ≤ n) (hn : n < D.length) (ha : CandA W n D a X) (hc : CandC W n D c y)
    (hm : ∀ j, 1 ≤ j → j < n → ¬ Hit p (VV p) (W - j)) :
    (NearIs (dA a X) (dB a X) p → ((¬ NearIs (dA c y) (dB c y) p) ∨ (Op.bytesLess (D.drop n) [53] = true ∨ (D.drop n = [53] ∧ dv (D.getD (n - 1) 0) % 2 = 0))) → ShAns p a X) ∧
    (NearIs (dA c y) (dB c y) p → ((¬ NearIs (dA a X) (dB a X) p) ∨ ¬ (Op.bytesLess (D.drop n) [53] = true ∨ (D.drop n = [53] ∧ dv (D.getD (n - 1) 0) % 2 = 0))) → ShAns p c y) := by
  obtain ⟨w1, w2, w3⟩ := fine_width ht h hW
  obtain ⟨k1, k2⟩ := step_hit ht h hW hn ha hc
  obtain ⟨e1, _⟩ := fine_cut ht.dgs h hW (Nat.le_of_lt hn)
  have pk := pick_doc ht h hW h1 hn
  constructor
  · intro f g
    refine ⟨ha.1, W, n, nd (D.take n), h1, by omega, w2, w3, hm, ?_, ha.2⟩
    by_cases gc : NearIs (dA c y) (dB c y) p
    · refine .inr (.inr ⟨k1.1 f, k2.1 gc, ?_⟩)
      rw [pk, if_pos (g.resolve_left (fun hh => hh gc))]
    · exact .inl ⟨k1.1 f, fun k => gc (k2.2 k), e1.symm⟩
  · intro g f
    refine ⟨hc.1, W, n, nd (D.take n) + 1, h1, by omega, w2, w3, hm, ?_, hc.2⟩
    by_cases fc : NearIs (dA a X) (dB a X) p
    · refine .inr (.inr ⟨k1.1 fc, k2.1 g, ?_⟩)
      rw [pk, if_neg (f.resolve_left (fun hh => hh fc))]
    · exact .inr (.inl ⟨fun k => fc (k1.2 k), k2.1 g, by rw [e1]⟩)
/-- No fewer are: the exact ones. -/
theorem end_ans {p z W : Nat} {D : List UInt8} {X : Int} (hp : p ≤ 9218868437227405311) (ht : Trim D) (h : VV p = nd D * 10 ^ z) (hz : (z : Int) = X - (D.length : Int) + 1074) (hW : W = D.length + z)
    (hm : ∀ j, 1 ≤ j → j < D.length → ¬ Hit p (VV p) (W - j)) : ShAns p D X := by
  obtain ⟨w1, w2, w3⟩ := fine_width ht h hW
  have hl1 : 1 ≤ D.length := by have := List.length_pos_iff.2 ht.any; omega
  obtain ⟨e1, e2⟩ := fine_cut ht.dgs h hW (Nat.le_refl _)
  rw [List.take_length] at e1
  rw [List.drop_length, show nd [] = 0 from rfl, Nat.zero_mul] at e2
  have hwz : W - D.length = z := by omega
  rw [hwz] at e1 e2
  have hn : NearIs (VV p / 10 ^ z * 10 ^ z) FF p := by rw [e1, ← h]; exact VV_near hp
  refine ⟨ht, W, D.length, nd D, hl1, by omega, w2, w3, hm, ?_, ?_⟩
  · rw [hwz]
    by_cases g : NearIs ((VV p / 10 ^ z + 1) * 10 ^ z) FF p
    · refine .inr (.inr ⟨hn, g, ?_⟩)
      unfold pick
      rw [e2, if_pos (.inl (by have := ten_pos z; omega)), e1]
    · exact .inl ⟨hn, g, e1.symm⟩
  · rw [hwz, units_eq (by omega)]
    unfold unitsOf
    rw [show (X - (D.length : Int) + 1074).toNat = z by omega]
/-! ### The candidates, by their digits -/
theorem cand_units {W n : Nat} {l : List UInt8} {x : Int} {N i : Nat} (h : nd l * 10 ^ i = N) (hx : x - (l.length : Int) + 1074 = ((W - n + i : Nat) : Int)) : dA l x * FF = N * 10 ^ (W - n) * dB l x := by
  rw [units_eq (by omega)]
  unfold unitsOf
  rw [hx, Int.toNat_natCast, ← h, Nat.pow_add, ← Nat.mul_assoc, Nat.mul_right_comm (nd l)]
/-- What the document's more answers: the last digit that is no 9 one up, those behind it left out; of nines alone 1, and one power more. -/
def MoreR (l c : List UInt8) (carry : Bool) : Prop :=
  (carry = false ∧ ∃ a ch k, l = a ++ ch :: List.replicate k 57 ∧ ch ≠ 57 ∧ c = a ++ [ch + 1]) ∨ (carry = true ∧ l = List.replicate l.length 57 ∧ c = [49])
theorem nd_nines (k : Nat) : nd (List.replicate k 57) + 1 = 10 ^ k := by
  induction k with
  | zero => rfl
  | succ k ih =>
    rw [List.replicate_succ]
    simp only [nd, List.length_replicate, Nat.pow_succ]
    have : dv 57 = 9 := by decide
    rw [this]
    omega
theorem up_dv {ch : UInt8} (h : isD12 ch) (h9 : ch ≠ 57) : isD12 (ch + 1) ∧ dv (ch + 1) = dv ch + 1 ∧ ch + 1 ≠ 48 := by
  have h57 : ch.toNat ≠ 57 := fun e => h9 (UInt8.toNat_inj.1 e)
  unfold isD12 at h
  have e : (ch + 1).toNat = ch.toNat + 1 := by
    rw [UInt8.toNat_add]
    have : (1 : UInt8).toNat = 1 := rfl
    omega
  refine ⟨?_, ?_, fun k => ?_⟩
  · unfold isD12; omega
  · unfold dv; omega
  · have := congrArg UInt8.toNat k
    have h48 : (48 : UInt8).toNat = 48 := rfl
    omega
theorem cand_c {W n : Nat} {D c : List UInt8} {X : Int} {carry : Bool} (ht : Trim D) (h1 : 1 ≤ n) (hn : n ≤ D.length) (hnW : n ≤ W) (hW : (W : Int) = X + 1074) (h : MoreR (D.take n) c carry) : CandC W n D c (if carry then X + 1 else X) := by
  have hlen : (D.take n).length = n := by rw [List.length_take]; omega
  have hdt : Dgs (D.take n) := fun x hx => ht.dgs x (List.mem_of_mem_take hx)
  have hfr : (D.take n).getD 0 0 = D.getD 0 0 := by
    cases D with
    | nil => exact absurd rfl ht.any
    | cons c m =>
      obtain ⟨j, rfl⟩ : ∃ j, n = j + 1 := ⟨n - 1, by omega⟩
      rfl
  have hf := ht.front
  rw [← hfr] at hf
  unfold CandC
  generalize D.take n = l at *
  rcases h with ⟨rfl, a, ch, k, hl, h9, rfl⟩ | ⟨rfl, hl, rfl⟩
  · have hch : isD12 ch := hdt ch (by rw [hl]; simp)
    obtain ⟨u1, u2, u3⟩ := up_dv hch h9
    have hlk : a.length + 1 + k = n := by rw [← hlen, hl]; simp; omega
    refine ⟨⟨?_, by simp, ?_, ?_⟩, cand_units (i := k) ?_ ?_⟩
    · intro x hx
      rcases List.mem_append.1 hx with hx | hx
      · exact hdt x (by rw [hl]; simp [hx])
      · rw [List.mem_singleton.1 hx]; exact u1
    · cases a with
      | nil => simpa using u3
      | cons b m => rw [hl] at hf; simpa using hf
    · rw [List.getLast?_append, List.getLast?_singleton]
      simpa using u3
    · rw [nd_snoc, u2, hl, nd_append, List.length_cons, List.length_replicate]
      simp only [nd, List.length_replicate, Nat.pow_succ]
      have := nd_nines k
      generalize nd (List.replicate k 57) = N at *
      have e : (nd a * 10 + (dv ch + 1)) * 10 ^ k = nd a * (10 ^ k * 10) + (dv ch * 10 ^ k + 10 ^ k) := by grind
      omega
    · rw [if_neg (by decide), List.length_append, List.length_singleton]; omega
  · refine ⟨⟨?_, by simp, by simp, by simp⟩, cand_units (i := n) ?_ ?_⟩
    · intro x hx
      rw [List.mem_singleton.1 hx]
      exact ⟨by decide, by decide⟩
    · rw [hl, hlen, nd_nines]
      show (dv 49 * 10 ^ 0 + 0) * 10 ^ n = 10 ^ n
      rw [show dv 49 = 1 by decide]
      simp
    · rw [if_pos rfl, List.length_singleton]; omega
theorem cand_a {W n i : Nat} {D a : List UInt8} {X : Int} (ht : Trim D) (h1 : 1 ≤ n) (hn : n ≤ D.length) (hnW : n ≤ W) (hW : (W : Int) = X + 1074) (h : D.take n = a ++ List.replicate i 48) (htl : Tl a) : CandA W n D a X := by
  have hlen : (D.take n).length = n := by rw [List.length_take]; omega
  have hdt : Dgs (D.take n) := fun x hx => ht.dgs x (List.mem_of_mem_take hx)
  have hfr : (D.take n).getD 0 0 = D.getD 0 0 := by
    cases D with
    | nil => exact absurd rfl ht.any
    | cons c m =>
      obtain ⟨j, rfl⟩ : ∃ j, n = j + 1 := ⟨n - 1, by omega⟩
      rfl
  have hf := ht.front
  rw [← hfr, h] at hf
  have hne : a ≠ [] := by
    rintro rfl
    rw [List.nil_append] at hf h
    cases i with
    | zero => rw [h] at hlen; simp at hlen; omega
    | succ i => exact hf (by simp [List.replicate_succ])
  have hli : a.length + i = n := by rw [← hlen, h]; simp
  refine ⟨⟨?_, hne, ?_, htl⟩, cand_units (i := i) (by rw [h, nd_noughts]) (by omega)⟩
  · rw [h] at hdt; exact hdt.left
  · cases a with
    | nil => exact absurd rfl hne
    | cons b m => simpa using hf
end Go.Proofs.YtojpfmlmalmlcaaGreatDoor
