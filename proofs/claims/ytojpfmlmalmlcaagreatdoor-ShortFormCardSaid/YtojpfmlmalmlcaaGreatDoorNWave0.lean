/-
  Products of polynomials as double sums, and how parts of two numbers each, multiplied by their values at four points, make them up; pure. No condition beyond what each lemma asks.
  Products of lists: the order does not matter, they go part by part, and their value at a place is the product of both; pure. No condition beyond what each lemma asks.
  Great numbers by digits of 2^16: their value, their one row of digits, and what carrying, dividing by ten, comparing come to; pure. No condition beyond what each lemma asks.
  float64 of any int: a great one stays great; sums and differences of complex numbers with whole parts. No condition beyond what each lemma asks.
-/
import Derived.Test.YtojpfmlmalmlcaaGreatDoorNGauss
namespace Go.Proofs.YtojpfmlmalmlcaaGreatDoor.G
/-- The sum of f 0 .. f (n - 1). -/
def sm : Nat → (Nat → Int) → Int
  | 0, _ => 0
  | n + 1, f => sm n f + f n
theorem sm_zero (f : Nat → Int) : sm 0 f = 0 := rfl
theorem sm_succ (n : Nat) (f : Nat → Int) : sm (n + 1) f = sm n f + f n := rfl
theorem sm_congr {n : Nat} {f g : Nat → Int} (h : ∀ i, i < n → f i = g i) : sm n f = sm n g := by
  induction n with
  | zero => rfl
  | succ n ih => rw [sm_succ, sm_succ, ih (fun i hi => h i (by omega)), h n (by omega)]
theorem sm_none {n : Nat} {f : Nat → Int} (h : ∀ i, i < n → f i = 0) : sm n f = 0 := by
  induction n with
  | zero => rfl
  | succ n ih => rw [sm_succ, ih (fun i hi => h i (by omega)), h n (by omega)]; rfl
theorem sm_add (n : Nat) (f g : Nat → Int) : sm n (fun i => f i + g i) = sm n f + sm n g := by
  induction n with
  | zero => rfl
  | succ n ih => rw [sm_succ, sm_succ, sm_succ, ih]; omega
theorem sm_mul (n : Nat) (c : Int) (f : Nat → Int) : sm n (fun i => c * f i) = c * sm n f := by
  induction n with
  | zero => simp [sm]
  | succ n ih => rw [sm_succ, sm_succ, ih, Int.mul_add]
theorem sm_swap (n m : Nat) (f : Nat → Nat → Int) : sm n (fun i => sm m (fun j => f i j)) = sm m (fun j => sm n (fun i => f i j)) := by
  induction n with
  | zero => rw [sm_zero]; exact (sm_none (fun _ _ => rfl)).symm
  | succ n ih => rw [sm_succ, ih, ← sm_add]; rfl
theorem sm_two (n : Nat) (f : Nat → Int) : sm (2 * n) f = sm n (fun i => f (2 * i) + f (2 * i + 1)) := by
  induction n with
  | zero => rfl
  | succ n ih => rw [show 2 * (n + 1) = 2 * n + 1 + 1 by omega, sm_succ, sm_succ, sm_succ, ih]; omega
theorem sm_more {n m : Nat} {f : Nat → Int} (hm : n ≤ m) (h : ∀ i, n ≤ i → f i = 0) : sm m f = sm n f := by
  obtain ⟨k, rfl⟩ : ∃ k, m = n + k := ⟨m - n, by omega⟩
  clear hm
  induction k with
  | zero => rfl
  | succ k ih => rw [← Nat.add_assoc, sm_succ, ih, h (n + k) (by omega), Int.add_zero]
theorem sm_at (n k : Nat) (f : Nat → Int) : sm n (fun i => if k = i then f i else 0) = if k < n then f k else 0 := by
  induction n with
  | zero => simp [sm]
  | succ n ih =>
    rw [sm_succ, ih]
    by_cases h1 : k < n
    · rw [if_pos h1, if_neg (by omega), if_pos (by omega)]; omega
    · by_cases h2 : k = n
      · subst h2; rw [if_neg h1, if_pos rfl, if_pos (by omega)]; omega
      · rw [if_neg h1, if_neg h2, if_neg (by omega)]; omega
theorem sm_bound {n : Nat} {f : Nat → Int} {B : Int} (h : ∀ i, i < n → 0 ≤ f i ∧ f i ≤ B) : 0 ≤ sm n f ∧ sm n f ≤ n * B := by
  induction n with
  | zero => simp [sm]
  | succ n ih =>
    have h1 := ih (fun i hi => h i (by omega))
    have h2 := h n (by omega)
    rw [sm_succ, Int.natCast_add, Int.add_mul]
    simp
    omega
/-- What is laid up in place t, behind I whole rounds of M steps and J steps of the next one: step (i, j) lays f i j into place s i j. -/
def laid (s : Nat → Nat → Nat) (M I J : Nat) (f : Nat → Nat → Int) (t : Nat) : Int :=
  sm I (fun i => sm M (fun j => if s i j = t then f i j else 0)) + sm J (fun j => if s I j = t then f I j else 0)
theorem laid_first (s : Nat → Nat → Nat) (M : Nat) (f : Nat → Nat → Int) (t : Nat) : laid s M 0 0 f t = 0 := rfl
theorem laid_step (s : Nat → Nat → Nat) (M I J : Nat) (f : Nat → Nat → Int) (t : Nat) : laid s M I (J + 1) f t = laid s M I J f t + if s I J = t then f I J else 0 := by
  unfold laid; rw [sm_succ]; omega
theorem laid_round (s : Nat → Nat → Nat) (M I : Nat) (f : Nat → Nat → Int) (t : Nat) : laid s M (I + 1) 0 f t = laid s M I M f t := by
  unfold laid; rw [sm_succ, sm_zero]; omega
theorem laid_all (s : Nat → Nat → Nat) (M I : Nat) (f : Nat → Nat → Int) (t : Nat) : laid s M I 0 f t = sm I (fun i => sm M (fun j => if s i j = t then f i j else 0)) := by
  unfold laid; rw [sm_zero]; omega
theorem laid_bound {s : Nat → Nat → Nat} {M I J : Nat} {f : Nat → Nat → Int} {t : Nat} {B : Int} (hB : 0 ≤ B) (h : ∀ i j, 0 ≤ f i j ∧ f i j ≤ B) : 0 ≤ laid s M I J f t ∧ laid s M I J f t ≤ ((I * M + J : Nat) : Int) * B := by
  have h1 : ∀ i, i < I → 0 ≤ sm M (fun j => if s i j = t then f i j else 0) ∧ sm M (fun j => if s i j = t then f i j else 0) ≤ M * B := fun i _ => sm_bound (fun j _ => by
    have := h i j
    split <;> omega)
  have h2 := sm_bound h1
  have h3 : 0 ≤ sm J (fun j => if s I j = t then f I j else 0) ∧ sm J (fun j => if s I j = t then f I j else 0) ≤ J * B := sm_bound (fun j _ => by
    have := h I j
    split <;> omega)
  unfold laid
  rw [Int.natCast_add, Int.natCast_mul, Int.add_mul, Int.mul_assoc]
  omega
/-- Number t of the product of two lists. -/
def conv (xs ys : List Int) (t : Nat) : Int := sm xs.length (fun i => sm ys.length (fun j => if i + j = t then xs.getD i 0 * ys.getD j 0 else 0))
/-- The product of two lists. -/
def foldL (xs ys : List Int) : List Int := if xs.length = 0 ∨ ys.length = 0 then [] else (List.range (xs.length + ys.length - 1)).map (conv xs ys)
theorem getD_past {xs : List Int} {i : Nat} (h : xs.length ≤ i) : xs.getD i 0 = 0 := by simp [List.getD, List.getElem?_eq_none h]
theorem conv_more {xs ys : List Int} {n m : Nat} (hn : xs.length ≤ n) (hm : ys.length ≤ m) (t : Nat) : conv xs ys t = sm n (fun i => sm m (fun j => if i + j = t then xs.getD i 0 * ys.getD j 0 else 0)) := by
  unfold conv
  rw [← sm_more hn (f := fun i => sm ys.length (fun j => if i + j = t then xs.getD i 0 * ys.getD j 0 else 0))]
  · refine sm_congr fun i _ => (sm_more hm fun j hj => ?_).symm
    rw [getD_past hj, Int.mul_zero, ite_self]
  · intro i hi
    refine sm_none fun j _ => ?_
    rw [getD_past hi, Int.zero_mul, ite_self]
theorem foldL_length (xs ys : List Int) (hx : xs.length ≠ 0) (hy : ys.length ≠ 0) : (foldL xs ys).length = xs.length + ys.length - 1 := by
  unfold foldL; rw [if_neg (by omega)]; simp
theorem foldL_get (xs ys : List Int) {t : Nat} (hx : xs.length ≠ 0) (hy : ys.length ≠ 0) (ht : t < xs.length + ys.length - 1) : (foldL xs ys).getD t 0 = conv xs ys t := by
  unfold foldL; rw [if_neg (by omega)]; simp [List.getD, ht]
theorem foldL_of {xs ys l : List Int} (hx : xs.length ≠ 0) (hy : ys.length ≠ 0) (hl : l.length = xs.length + ys.length - 1) (h : ∀ t, t < l.length → l.getD t 0 = conv xs ys t) : l = foldL xs ys := by
  apply List.ext_getElem (by rw [foldL_length xs ys hx hy, hl])
  intro i h1 h2
  have e1 := h i h1
  rw [← foldL_get xs ys hx hy (by omega)] at e1
  simpa [List.getD, h1, h2] using e1
/-- What parts i and j give: a number for each of four places. -/
def term (xs ys : List Int) (r i j : Nat) : Int :=
  if r = 0 then xs.getD (2 * i) 0 * ys.getD (2 * j) 0
  else if r = 1 then xs.getD (2 * i) 0 * ys.getD (2 * j + 1) 0 + xs.getD (2 * i + 1) 0 * ys.getD (2 * j) 0
  else if r = 2 then xs.getD (2 * i + 1) 0 * ys.getD (2 * j + 1) 0
  else 0
theorem ite_sum (n : Nat) (c : Prop) [Decidable c] (f : Nat → Int) : (if c then sm n f else 0) = sm n (fun i => if c then f i else 0) := by
  by_cases h : c
  · rw [if_pos h]; exact sm_congr fun i _ => (if_pos h).symm
  · rw [if_neg h]; exact (sm_none fun i _ => if_neg h).symm
theorem spread_one (N M S t r : Nat) (T : Nat → Nat → Int) (hS : ∀ i j, i < N → j < M → i + j < S) :
    sm S (fun s => if 2 * s + r = t then sm N (fun i => sm M (fun j => if i + j = s then T i j else 0)) else 0) = sm N (fun i => sm M (fun j => if 2 * (i + j) + r = t then T i j else 0)) := by
  have e1 : sm S (fun s => if 2 * s + r = t then sm N (fun i => sm M (fun j => if i + j = s then T i j else 0)) else 0)
      = sm S (fun s => sm N (fun i => sm M (fun j => if i + j = s then (if 2 * s + r = t then T i j else 0) else 0))) := by
    refine sm_congr fun s _ => ?_
    rw [ite_sum]
    refine sm_congr fun i _ => ?_
    rw [ite_sum]
    refine sm_congr fun j _ => ?_
    by_cases h1 : 2 * s + r = t <;> by_cases h2 : i + j = s <;> simp [h1, h2]
  rw [e1, sm_swap]
  refine sm_congr fun i hi => ?_
  rw [sm_swap]
  refine sm_congr fun j hj => ?_
  rw [sm_at, if_pos (hS i j hi hj)]
/-- The whole product, out of the products of parts. -/
theorem spread_conv (xs ys : List Int) (N M S t : Nat) (hN : xs.length ≤ 2 * N) (hM : ys.length ≤ 2 * M) (hS : ∀ i j, i < N → j < M → i + j < S) :
    laid (fun s j => 2 * s + j) 4 S 0 (fun s j => laid (fun i j => i + j) M N 0 (term xs ys j) s) t = conv xs ys t := by
  rw [laid_all, conv_more hN hM t, sm_two]
  have e1 : sm S (fun i => sm 4 (fun j => if 2 * i + j = t then laid (fun i j => i + j) M N 0 (term xs ys j) i else 0))
      = sm S (fun s => if 2 * s + 0 = t then sm N (fun i => sm M (fun j => if i + j = s then term xs ys 0 i j else 0)) else 0)
      + sm S (fun s => if 2 * s + 1 = t then sm N (fun i => sm M (fun j => if i + j = s then term xs ys 1 i j else 0)) else 0)
      + sm S (fun s => if 2 * s + 2 = t then sm N (fun i => sm M (fun j => if i + j = s then term xs ys 2 i j else 0)) else 0) := by
    rw [← sm_add, ← sm_add]
    refine sm_congr fun s _ => ?_
    simp only [sm_succ, sm_zero, laid_all]
    have h3 : (if 2 * s + 3 = t then sm N (fun i => sm M (fun j => if i + j = s then term xs ys 3 i j else 0)) else 0) = 0 := by
      rw [sm_none (fun i _ => sm_none (fun j _ => by simp [term])), ite_self]
    rw [h3]
    omega
  rw [e1, spread_one N M S t 0 _ hS, spread_one N M S t 1 _ hS, spread_one N M S t 2 _ hS, ← sm_add, ← sm_add]
  refine sm_congr fun i _ => ?_
  rw [sm_two, sm_two, ← sm_add, ← sm_add, ← sm_add]
  refine sm_congr fun j _ => ?_
  simp only [term]
  have c0 : (2 * i + 2 * j = t) = (2 * (i + j) + 0 = t) := by rw [Nat.mul_add]; rfl
  have c1 : (2 * i + (2 * j + 1) = t) = (2 * (i + j) + 1 = t) := by rw [Nat.mul_add]; simp; omega
  have c2 : (2 * i + 1 + 2 * j = t) = (2 * (i + j) + 1 = t) := by rw [Nat.mul_add]; simp; omega
  have c3 : (2 * i + 1 + (2 * j + 1) = t) = (2 * (i + j) + 2 = t) := by rw [Nat.mul_add]; simp; omega
  simp only [c0, c1, c2, c3]
  generalize xs.getD (2 * i) 0 * ys.getD (2 * j) 0 = p0
  generalize xs.getD (2 * i) 0 * ys.getD (2 * j + 1) 0 = p1
  generalize xs.getD (2 * i + 1) 0 * ys.getD (2 * j) 0 = p2
  generalize xs.getD (2 * i + 1) 0 * ys.getD (2 * j + 1) 0 = p3
  simp
  repeat' split
  all_goals omega
/-- The sums of turned numbers. -/
def tr (way : Int) (p q : Nat → Int) (k : Nat) : Int := sm 4 (fun j => turnRe ((way * j * k) % 4) (p j) (q j))
def ti (way : Int) (p q : Nat → Int) (k : Nat) : Int := sm 4 (fun j => turnIm ((way * j * k) % 4) (p j) (q j))
/-- The value of a polynomial of three numbers at point k. -/
def vr (k : Nat) (c : Nat → Int) : Int := if k = 0 then c 0 + c 1 + c 2 else if k = 2 then c 0 - c 1 + c 2 else c 0 - c 2
def vi (k : Nat) (c : Nat → Int) : Int := if k = 1 then c 1 else if k = 3 then -c 1 else 0
theorem lt4 {k : Nat} (h : k < 4) : k = 0 ∨ k = 1 ∨ k = 2 ∨ k = 3 := by omega
theorem value_tr {c : Nat → Int} (h2 : c 2 = 0) {k : Nat} (hk : k < 4) : tr 1 (fun j => if j < 2 then c j else 0) (fun _ => 0) k = vr k c ∧ ti 1 (fun j => if j < 2 then c j else 0) (fun _ => 0) k = vi k c := by
  rcases lt4 hk with rfl | rfl | rfl | rfl <;> simp [tr, ti, vr, vi, sm, turnRe, turnIm, h2] <;> omega
theorem value_back {c : Nat → Int} (h3 : c 3 = 0) {k : Nat} (hk : k < 4) : tr (-1) (fun j => vr j c) (fun j => vi j c) k = 4 * c k ∧ ti (-1) (fun j => vr j c) (fun j => vi j c) k = 0 := by
  rcases lt4 hk with rfl | rfl | rfl | rfl <;> simp [tr, ti, vr, vi, sm, turnRe, turnIm, h3] <;> omega
theorem value_times (xs ys : List Int) (i j : Nat) {k : Nat} (hk : k < 4) (a b : Nat → Int) (ha : ∀ r, a r = if r < 2 then xs.getD (2 * i + r) 0 else 0) (hb : ∀ r, b r = if r < 2 then ys.getD (2 * j + r) 0 else 0) :
    vr k a * vr k b - vi k a * vi k b = vr k (fun r => term xs ys r i j) ∧ vr k a * vi k b + vi k a * vr k b = vi k (fun r => term xs ys r i j) := by
  simp only [vr, vi, ha, hb, term]
  generalize xs.getD (2 * i) 0 = p at *
  generalize xs.getD (2 * i + 1) 0 = q at *
  generalize ys.getD (2 * j) 0 = u at *
  generalize ys.getD (2 * j + 1) 0 = v at *
  rcases lt4 hk with rfl | rfl | rfl | rfl <;> simp <;> grind
theorem vr_add (k : Nat) (c d : Nat → Int) : vr k (fun r => c r + d r) = vr k c + vr k d := by
  simp only [vr]; (repeat' split) <;> omega
theorem vi_add (k : Nat) (c d : Nat → Int) : vi k (fun r => c r + d r) = vi k c + vi k d := by
  simp only [vi]; (repeat' split) <;> omega
theorem v_bound {k : Nat} {c : Nat → Int} {B : Int} (h : ∀ r, 0 ≤ c r ∧ c r ≤ B) : (-(3 * B) ≤ vr k c ∧ vr k c ≤ 3 * B) ∧ (-(3 * B) ≤ vi k c ∧ vi k c ≤ 3 * B) := by
  have h0 := h 0; have h1 := h 1; have h2 := h 2
  unfold vr vi
  constructor
  · repeat' split
    all_goals omega
  · repeat' split
    all_goals omega
/-- Within the bound of fit ones. -/
def Fit (a : Int) : Prop := -1125899906842624 ≤ a ∧ a ≤ 1125899906842624
instance (a : Int) : Decidable (Fit a) := inferInstanceAs (Decidable (_ ∧ _))
theorem Fit.great {a : Int} (h : Fit a) : Great a := ⟨by have := h.1; omega, by have := h.2; omega⟩
theorem turnRe_abs (r a b : Int) (B : Int) (ha : -B ≤ a ∧ a ≤ B) (hb : -B ≤ b ∧ b ≤ B) : -B ≤ turnRe r a b ∧ turnRe r a b ≤ B := by
  unfold turnRe; repeat' split
  all_goals omega
theorem turnIm_abs (r a b : Int) (B : Int) (ha : -B ≤ a ∧ a ≤ B) (hb : -B ≤ b ∧ b ≤ B) : -B ≤ turnIm r a b ∧ turnIm r a b ≤ B := by
  unfold turnIm; repeat' split
  all_goals omega
theorem t_abs {way : Int} {p q : Nat → Int} {k : Nat} {B : Int} (h : ∀ j, j < 4 → (-B ≤ p j ∧ p j ≤ B) ∧ (-B ≤ q j ∧ q j ≤ B)) : (-(4 * B) ≤ tr way p q k ∧ tr way p q k ≤ 4 * B) ∧ (-(4 * B) ≤ ti way p q k ∧ ti way p q k ≤ 4 * B) := by
  have h0 := h 0 (by omega); have h1 := h 1 (by omega); have h2 := h 2 (by omega); have h3 := h 3 (by omega)
  unfold tr ti
  simp only [sm_succ, sm_zero]
  have a0 := turnRe_abs ((way * (0 : Nat) * k) % 4) _ _ B h0.1 h0.2
  have a1 := turnRe_abs ((way * (1 : Nat) * k) % 4) _ _ B h1.1 h1.2
  have a2 := turnRe_abs ((way * (2 : Nat) * k) % 4) _ _ B h2.1 h2.2
  have a3 := turnRe_abs ((way * (3 : Nat) * k) % 4) _ _ B h3.1 h3.2
  have b0 := turnIm_abs ((way * (0 : Nat) * k) % 4) _ _ B h0.1 h0.2
  have b1 := turnIm_abs ((way * (1 : Nat) * k) % 4) _ _ B h1.1 h1.2
  have b2 := turnIm_abs ((way * (2 : Nat) * k) % 4) _ _ B h2.1 h2.2
  have b3 := turnIm_abs ((way * (3 : Nat) * k) % 4) _ _ B h3.1 h3.2
  omega
end Go.Proofs.YtojpfmlmalmlcaaGreatDoor.G
namespace Go.Proofs.YtojpfmlmalmlcaaGreatDoor.G
theorem conv_comm (xs ys : List Int) (t : Nat) : conv xs ys t = conv ys xs t := by
  unfold conv
  rw [sm_swap]
  refine sm_congr fun j _ => sm_congr fun i _ => ?_
  rw [Nat.add_comm i j, Int.mul_comm]
theorem foldL_comm (xs ys : List Int) : foldL xs ys = foldL ys xs := by
  by_cases h : xs.length = 0 ∨ ys.length = 0
  · unfold foldL
    rw [if_pos h, if_pos (by omega)]
  · refine foldL_of (by omega) (by omega) (by rw [foldL_length xs ys (by omega) (by omega)]; omega) (fun t ht => ?_)
    rw [foldL_length xs ys (by omega) (by omega)] at ht
    rw [foldL_get xs ys (by omega) (by omega) ht, conv_comm]
/-- Two lists, added number by number. -/
def addL (ys zs : List Int) : List Int := (List.range ys.length).map fun i => ys.getD i 0 + zs.getD i 0
theorem addL_length (ys zs : List Int) : (addL ys zs).length = ys.length := by simp [addL]
theorem addL_get (ys zs : List Int) (i : Nat) (h : i < ys.length) : (addL ys zs).getD i 0 = ys.getD i 0 + zs.getD i 0 := by simp [addL, List.getD, h]
theorem conv_add (xs ys zs : List Int) (h : zs.length = ys.length) (t : Nat) : conv xs (addL ys zs) t = conv xs ys t + conv xs zs t := by
  unfold conv
  rw [← sm_add, addL_length, h]
  refine sm_congr fun i _ => ?_
  rw [← sm_add]
  refine sm_congr fun j hj => ?_
  rw [addL_get _ _ _ hj]
  by_cases e : i + j = t
  · rw [if_pos e, if_pos e, if_pos e, Int.mul_add]
  · rw [if_neg e, if_neg e, if_neg e]; rfl
theorem conv_bound {xs ys : List Int} {B : Int} (hB : 0 ≤ B) (h : ∀ i j, 0 ≤ xs.getD i 0 * ys.getD j 0 ∧ xs.getD i 0 * ys.getD j 0 ≤ B) (t : Nat) : 0 ≤ conv xs ys t ∧ conv xs ys t ≤ xs.length * (ys.length * B) := by
  unfold conv
  refine sm_bound fun i _ => sm_bound fun j _ => ?_
  have := h i j
  split <;> omega
/-- The value of a list at a place. -/
def ev (X : Int) : List Int → Int
  | [] => 0
  | a :: r => a + X * ev X r
theorem sm_first (n : Nat) (f : Nat → Int) : sm (n + 1) f = f 0 + sm n (fun i => f (i + 1)) := by
  induction n with
  | zero => simp [sm]
  | succ n ih => rw [sm_succ, ih, sm_succ]; omega
set_option maxRecDepth 100000 in
theorem ev_sum (X : Int) (xs : List Int) : ev X xs = sm xs.length (fun i => xs.getD i 0 * X ^ i) := by
  induction xs with
  | nil => rfl
  | cons a r ih =>
    rw [List.length_cons, sm_first]
    show a + X * ev X r = _
    rw [ih, ← sm_mul]
    congr 1
    · simp
    · refine sm_congr fun i _ => ?_
      simp only [List.getD_cons_succ]
      rw [Int.pow_succ]
      grind
theorem sm_mul_right (n : Nat) (c : Int) (f : Nat → Int) : sm n (fun i => f i * c) = sm n f * c := by
  rw [Int.mul_comm, ← sm_mul]
  exact sm_congr fun i _ => Int.mul_comm _ _
/-- The product's value is the product of both. -/
theorem ev_fold (X : Int) (xs ys : List Int) : ev X (foldL xs ys) = ev X xs * ev X ys := by
  by_cases h : xs.length = 0 ∨ ys.length = 0
  · have e : foldL xs ys = [] := by unfold foldL; rw [if_pos h]
    rw [e]
    rcases h with h | h
    · rw [List.eq_nil_of_length_eq_zero h]; simp [ev]
    · rw [List.eq_nil_of_length_eq_zero h]; simp [ev]
  · rw [ev_sum, ev_sum, ev_sum, foldL_length xs ys (by omega) (by omega)]
    have e1 : sm (xs.length + ys.length - 1) (fun t => (foldL xs ys).getD t 0 * X ^ t)
        = sm (xs.length + ys.length - 1) (fun t => sm xs.length (fun i => sm ys.length (fun j => if i + j = t then xs.getD i 0 * ys.getD j 0 * X ^ t else 0))) := by
      refine sm_congr fun t ht => ?_
      rw [foldL_get xs ys (by omega) (by omega) ht, conv, ← sm_mul_right]
      refine sm_congr fun i _ => ?_
      rw [← sm_mul_right]
      refine sm_congr fun j _ => ?_
      by_cases e : i + j = t
      · rw [if_pos e, if_pos e]
      · rw [if_neg e, if_neg e, Int.zero_mul]
    rw [e1, sm_swap, ← sm_mul_right]
    refine sm_congr fun i hi => ?_
    rw [sm_swap, ← sm_mul]
    refine sm_congr fun j hj => ?_
    rw [sm_at (xs.length + ys.length - 1) (i + j) (fun t => xs.getD i 0 * ys.getD j 0 * X ^ t), if_pos (by omega), Int.pow_add]
    grind
/-- Numbers brought below 32768. -/
def fewL (xs : List Int) : List Int := xs.map fun x => x % 32768
theorem fewL_length (xs : List Int) : (fewL xs).length = xs.length := by simp [fewL]
theorem fewL_get (xs : List Int) (i : Nat) : (fewL xs).getD i 0 = xs.getD i 0 % 32768 := by
  by_cases h : i < xs.length
  · simp [fewL, List.getD, h]
  · simp [fewL, List.getD, List.getElem?_eq_none (show xs.length ≤ i by omega)]
set_option maxRecDepth 100000 in
theorem fewL_snoc (xs : List Int) (i : Nat) (h : i < xs.length) : fewL (xs.take (i + 1)) = fewL (xs.take i) ++ [xs.getD i 0 % 32768] := by
  rw [List.take_succ_eq_append_getElem h]
  unfold fewL
  rw [List.map_append]
  congr 1
  simp [List.getD, h]
end Go.Proofs.YtojpfmlmalmlcaaGreatDoor.G
namespace Go.Proofs.YtojpfmlmalmlcaaGreatDoor.G
/-- The number of a row of digits, the lowest one first. -/
def nv : List Nat → Nat
  | [] => 0
  | x :: r => x + 65536 * nv r
def Dg (xs : List Nat) : Prop := ∀ x ∈ xs, x < 65536
/-- The row of digits of a number. -/
def dg (n : Nat) : List Nat := if _h : n = 0 then [] else n % 65536 :: dg (n / 65536)
termination_by n
decreasing_by omega
theorem dg_zero : dg 0 = [] := by unfold dg; rfl
theorem dg_pos {n : Nat} (h : n ≠ 0) : dg n = n % 65536 :: dg (n / 65536) := by rw [dg, dif_neg h]
theorem nv_nil : nv [] = 0 := rfl
theorem nv_cons (x : Nat) (r : List Nat) : nv (x :: r) = x + 65536 * nv r := rfl
theorem Dg.nil : Dg [] := fun _ h => by cases h
theorem Dg.cons {x : Nat} {r : List Nat} (hx : x < 65536) (h : Dg r) : Dg (x :: r) := fun y hy => by
  rcases List.mem_cons.1 hy with rfl | hy
  · exact hx
  · exact h y hy
theorem Dg.head {x : Nat} {r : List Nat} (h : Dg (x :: r)) : x < 65536 := h x (by simp)
theorem Dg.tail {x : Nat} {r : List Nat} (h : Dg (x :: r)) : Dg r := fun y hy => h y (by simp [hy])
theorem Dg.append {xs ys : List Nat} (h : Dg xs) (k : Dg ys) : Dg (xs ++ ys) := fun y hy => by
  rcases List.mem_append.1 hy with hy | hy
  · exact h y hy
  · exact k y hy
theorem Dg.take {xs : List Nat} (h : Dg xs) (n : Nat) : Dg (xs.take n) := fun y hy => h y (List.mem_of_mem_take hy)
theorem Dg.drop {xs : List Nat} (h : Dg xs) (n : Nat) : Dg (xs.drop n) := fun y hy => h y (List.mem_of_mem_drop hy)
theorem Dg.get {xs : List Nat} (h : Dg xs) (i : Nat) : xs.getD i 0 < 65536 := by
  by_cases hi : i < xs.length
  · simp only [List.getD, hi, List.getElem?_eq_getElem, Option.getD_some]
    exact h _ (List.getElem_mem _)
  · simp [List.getD, List.getElem?_eq_none (Nat.le_of_not_lt hi)]
theorem Dg.one {x : Nat} (h : x < 65536) : Dg [x] := Dg.cons h Dg.nil
theorem Dg.noughts (n : Nat) : Dg (List.replicate n 0) := fun x hx => by
  rw [List.eq_of_mem_replicate hx]; omega
theorem dg_dg (n : Nat) : Dg (dg n) := by
  induction n using Nat.strongRecOn with
  | _ n ih =>
    by_cases h : n = 0
    · subst h; rw [dg_zero]; exact Dg.nil
    · rw [dg_pos h]
      exact Dg.cons (Nat.mod_lt _ (by omega)) (ih _ (by omega))
theorem nv_dg (n : Nat) : nv (dg n) = n := by
  induction n using Nat.strongRecOn with
  | _ n ih =>
    by_cases h : n = 0
    · subst h; rw [dg_zero]; rfl
    · rw [dg_pos h, nv_cons, ih _ (by omega)]
      omega
theorem nv_append (xs ys : List Nat) : nv (xs ++ ys) = nv xs + 65536 ^ xs.length * nv ys := by
  induction xs with
  | nil => simp [nv]
  | cons x r ih =>
    rw [List.cons_append, nv_cons, nv_cons, ih, List.length_cons, Nat.pow_succ]
    generalize 65536 ^ r.length = p
    grind
theorem nv_snoc (xs : List Nat) (d : Nat) : nv (xs ++ [d]) = nv xs + 65536 ^ xs.length * d := by rw [nv_append]; simp [nv]
theorem nv_noughts (n : Nat) : nv (List.replicate n 0) = 0 := by
  induction n with
  | zero => rfl
  | succ n ih => rw [List.replicate_succ, nv_cons, ih]
theorem pow_posB (k : Nat) : 0 < 65536 ^ k := Nat.pow_pos (by omega)
theorem nv_lt {xs : List Nat} (h : Dg xs) : nv xs < 65536 ^ xs.length := by
  induction xs with
  | nil => simp [nv]
  | cons x r ih =>
    have h1 := ih h.tail
    have h2 := h.head
    rw [nv_cons, List.length_cons, Nat.pow_succ]
    generalize 65536 ^ r.length = p at *
    omega
theorem take_drop_nv (xs : List Nat) (i : Nat) (h : i ≤ xs.length) : nv xs = nv (xs.take i) + 65536 ^ i * nv (xs.drop i) := by
  have e := nv_append (xs.take i) (xs.drop i)
  rw [List.take_append_drop, List.length_take, Nat.min_eq_left h] at e
  exact e
theorem drop_nv (xs : List Nat) (i : Nat) (h : i < xs.length) : nv (xs.drop i) = xs.getD i 0 + 65536 * nv (xs.drop (i + 1)) := by
  rw [List.drop_eq_getElem_cons h, nv_cons]
  simp [List.getD, h]
theorem take_next (xs : List Nat) (i : Nat) (h : i < xs.length) : xs.take (i + 1) = xs.take i ++ [xs.getD i 0] := by
  rw [List.take_succ_eq_append_getElem h]
  simp [List.getD, h]
theorem take_nv (xs : List Nat) (i : Nat) (h : i < xs.length) : nv (xs.take (i + 1)) = nv (xs.take i) + 65536 ^ i * xs.getD i 0 := by
  rw [take_next xs i h, nv_snoc, List.length_take, Nat.min_eq_left (by omega)]
theorem nv_past {xs : List Nat} {i : Nat} (h : xs.length ≤ i) : xs.getD i 0 = 0 := by simp [List.getD, List.getElem?_eq_none h]
theorem take_nv' (xs : List Nat) (i : Nat) : nv (xs.take (i + 1)) = nv (xs.take i) + 65536 ^ i * xs.getD i 0 := by
  by_cases h : i < xs.length
  · exact take_nv xs i h
  · rw [List.take_of_length_le (by omega), List.take_of_length_le (by omega), nv_past (by omega), Nat.mul_zero, Nat.add_zero]
theorem nv_set (xs : List Nat) (i d : Nat) (h : i < xs.length) : nv (xs.set i d) + 65536 ^ i * xs.getD i 0 = nv xs + 65536 ^ i * d := by
  induction xs generalizing i with
  | nil => simp at h
  | cons x r ih =>
    cases i with
    | zero => simp only [List.set_cons_zero, nv_cons, Nat.pow_zero, List.getD_cons_zero]; omega
    | succ i =>
      have e := ih i (by simpa using h)
      simp only [List.set_cons_succ, nv_cons, List.getD_cons_succ, Nat.pow_succ]
      generalize 65536 ^ i = p at *
      rw [Nat.mul_comm p, Nat.mul_assoc, Nat.mul_assoc]
      omega
theorem Dg.set {xs : List Nat} (h : Dg xs) {i d : Nat} (hd : d < 65536) : Dg (xs.set i d) := fun y hy => by
  rcases List.mem_or_eq_of_mem_set hy with hy | rfl
  · exact h y hy
  · exact hd
/-- A row whose last digit is not 0 is the row of its number. -/
theorem dg_nv {xs : List Nat} (h : Dg xs) (hl : xs.length = 0 ∨ xs.getD (xs.length - 1) 0 ≠ 0) : dg (nv xs) = xs := by
  induction xs with
  | nil => exact dg_zero
  | cons x r ih =>
    have h1 := h.head
    have hr : dg (nv r) = r := by
      refine ih h.tail ?_
      by_cases h0 : r.length = 0
      · exact .inl h0
      · right
        rcases hl with hl | hl
        · simp at hl
        · rw [List.length_cons, show r.length + 1 - 1 = (r.length - 1) + 1 by omega, List.getD_cons_succ] at hl
          exact hl
    have hne : nv (x :: r) ≠ 0 := by
      rw [nv_cons]
      rcases hl with hl | hl
      · simp at hl
      · by_cases h0 : r.length = 0
        · have e : r = [] := List.eq_nil_of_length_eq_zero h0
          subst e
          simp at hl
          omega
        · intro hz
          have hz' : nv r = 0 := by omega
          rw [hz', dg_zero] at hr
          exact h0 (by rw [← hr]; rfl)
    rw [dg_pos hne, nv_cons]
    rw [show (x + 65536 * nv r) % 65536 = x by omega, show (x + 65536 * nv r) / 65536 = nv r by omega, hr]
theorem dg_last (n k : Nat) (h : (dg n).length = k + 1) : (dg n).getD k 0 ≠ 0 := by
  induction n using Nat.strongRecOn generalizing k with
  | _ n ih =>
    by_cases h0 : n = 0
    · subst h0; rw [dg_zero] at h; simp at h
    · rw [dg_pos h0] at h ⊢
      rw [List.length_cons] at h
      cases k with
      | zero =>
        have e : dg (n / 65536) = [] := List.eq_nil_of_length_eq_zero (by omega)
        have e2 := nv_dg (n / 65536)
        rw [e] at e2
        have e3 : n / 65536 = 0 := e2.symm
        rw [List.getD_cons_zero]
        omega
      | succ k =>
        rw [List.getD_cons_succ]
        exact ih _ (by omega) k (by omega)
theorem dg_len (n k : Nat) : (dg n).length ≤ k ↔ n < 65536 ^ k := by
  induction k generalizing n with
  | zero =>
    constructor
    · intro h
      have e : dg n = [] := List.eq_nil_of_length_eq_zero (by omega)
      have e2 := nv_dg n
      rw [e] at e2
      have e3 : n = 0 := e2.symm
      subst e3
      decide
    · intro h
      have e3 : n = 0 := by simpa using h
      subst e3
      rw [dg_zero]; simp
  | succ k ih =>
    by_cases h0 : n = 0
    · subst h0
      rw [dg_zero]
      simp [Nat.pow_pos]
    · rw [dg_pos h0, List.length_cons, Nat.succ_le_succ_iff, ih, Nat.pow_succ]
      exact Nat.div_lt_iff_lt_mul (by omega)
theorem dg_ge {xs : List Nat} (h : Dg xs) (hv : xs.length = 0 ∨ 65536 ^ (xs.length - 1) ≤ nv xs) : dg (nv xs) = xs := by
  refine dg_nv h ?_
  rcases hv with hv | hv
  · exact .inl hv
  · by_cases h0 : xs.length = 0
    · exact .inl h0
    · right
      intro hz
      have e := take_nv xs (xs.length - 1) (by omega)
      rw [show xs.length - 1 + 1 = xs.length by omega, List.take_length, hz, Nat.mul_zero, Nat.add_zero] at e
      have l := nv_lt (h.take (xs.length - 1))
      rw [List.length_take, Nat.min_eq_left (by omega)] at l
      omega
theorem nv_dg_ge {n k : Nat} (h : k < (dg n).length) : 65536 ^ k ≤ n := by
  rcases Nat.lt_or_ge n (65536 ^ k) with h1 | h1
  · have := (dg_len n k).2 h1
    omega
  · exact h1
/-- A nought at the end is left out. -/
theorem trim_step {xs : List Nat} {k : Nat} (hk : xs.length = k + 1) (h : xs.getD k 0 = 0) : nv (xs.take k) = nv xs := by
  have e := take_nv xs k (by omega)
  rw [← hk, List.take_length, h, Nat.mul_zero, Nat.add_zero] at e
  exact e.symm
theorem nv_inj {xs ys : List Nat} (hx : Dg xs) (hy : Dg ys) (hl : xs.length = ys.length) (h : nv xs = nv ys) : xs = ys := by
  induction xs generalizing ys with
  | nil => exact (List.eq_nil_of_length_eq_zero hl.symm).symm
  | cons x r ih =>
    cases ys with
    | nil => simp at hl
    | cons y s =>
      rw [nv_cons, nv_cons] at h
      have h1 := hx.head; have h2 := hy.head
      have e1 : x = y := by omega
      have e2 : nv r = nv s := by omega
      rw [e1, ih hx.tail hy.tail (by simpa using hl) e2]
/-- Is it a number of at most 256 digits? -/
def isN (xs : List Nat) : Bool := decide (xs.length ≤ 256 ∧ (xs.length = 0 ∨ xs.getD (xs.length - 1) 0 ≠ 0))
def top : Nat := 65536 ^ 256
theorem isN_dg {xs : List Nat} (h : Dg xs) (hi : isN xs = true) : dg (nv xs) = xs ∧ nv xs < top := by
  have h1 := of_decide_eq_true hi
  have e := dg_nv h h1.2
  refine ⟨e, ?_⟩
  have := (dg_len (nv xs) 256).1 (by rw [e]; exact h1.1)
  exact this
theorem isN_of (n : Nat) : isN (dg n) = decide (n < top) := by
  unfold isN
  have e : ((dg n).length ≤ 256 ∧ ((dg n).length = 0 ∨ (dg n).getD ((dg n).length - 1) 0 ≠ 0)) ↔ n < top := by
    constructor
    · intro h
      exact (dg_len n 256).1 h.1
    · intro h
      refine ⟨(dg_len n 256).2 h, ?_⟩
      by_cases h0 : (dg n).length = 0
      · exact .inl h0
      · right
        exact dg_last n _ (by omega)
  exact decide_eq_decide.2 e
theorem top_len {n : Nat} (h : n < top) : (dg n).length ≤ 256 := (dg_len n 256).2 h
/-- Which is greater. -/
def cp (a b : Nat) : Int := if a < b then -1 else if b < a then 1 else 0
theorem cp_lt {a b : Nat} (h : a < b) : cp a b = -1 := if_pos h
theorem cp_gt {a b : Nat} (h : b < a) : cp a b = 1 := by unfold cp; rw [if_neg (by omega), if_pos h]
theorem cp_eq (a : Nat) : cp a a = 0 := by unfold cp; simp
theorem cmp_len {a b : Nat} (h : (dg a).length < (dg b).length) : a < b := by
  have h1 := (dg_len a (dg a).length).1 (Nat.le_refl _)
  have h2 := nv_dg_ge h
  omega
/-- The highest digit that is another one. -/
theorem cmp_at {xs ys : List Nat} (hx : Dg xs) (hl : xs.length = ys.length) {i : Nat} (hi : i < xs.length) (hd : xs.drop (i + 1) = ys.drop (i + 1)) (h : xs.getD i 0 < ys.getD i 0) : nv xs < nv ys := by
  rw [take_drop_nv xs i (by omega), take_drop_nv ys i (by omega), drop_nv xs i hi, drop_nv ys i (by omega), hd]
  have l := nv_lt (hx.take i)
  rw [List.length_take, Nat.min_eq_left (by omega)] at l
  generalize nv (xs.take i) = p at *
  generalize nv (ys.take i) = q at *
  generalize nv (ys.drop (i + 1)) = t at *
  generalize 65536 ^ i = P at *
  generalize xs.getD i 0 = x at *
  generalize ys.getD i 0 = y at *
  have h1 : P * (x + 65536 * t) + P ≤ P * (y + 65536 * t) := by
    rw [← Nat.mul_succ]
    exact Nat.mul_le_mul_left P (by omega)
  omega
theorem ev_eq (xs : List Nat) : ev 65536 (xs.map fun x : Nat => (x : Int)) = (nv xs : Int) := by
  induction xs with
  | nil => rfl
  | cons x r ih =>
    rw [List.map_cons]
    show (x : Int) + 65536 * ev 65536 (r.map fun x : Nat => (x : Int)) = _
    rw [ih, nv_cons]
    omega
theorem ev_append (X : Int) (l m : List Int) : ev X (l ++ m) = ev X l + X ^ l.length * ev X m := by
  induction l with
  | nil => simp [ev]
  | cons a r ih =>
    rw [List.cons_append]
    show a + X * ev X (r ++ m) = a + X * ev X r + X ^ (r.length + 1) * ev X m
    rw [ih, Int.pow_succ]
    grind
theorem ev_take (l : List Int) (i : Nat) (h : i < l.length) : ev 65536 (l.take (i + 1)) = ev 65536 (l.take i) + 65536 ^ i * l.getD i 0 := by
  rw [List.take_succ_eq_append_getElem h, ev_append, List.length_take, Nat.min_eq_left (by omega)]
  simp [ev, List.getD, h]
/-- One digit more is carried. -/
theorem carry_step {O c x v e : Int} {p : Int} (h : O + p * c = e) (v' : v = c + x) : O + p * (v % 65536) + (p * 65536) * (v / 65536) = e + p * x := by
  subst v'
  have h1 : c + x = 65536 * ((c + x) / 65536) + (c + x) % 65536 := (Int.mul_ediv_add_emod (c + x) 65536).symm
  generalize (c + x) / 65536 = q at *
  generalize (c + x) % 65536 = r at *
  have : c = 65536 * q + r - x := by omega
  subst this h
  grind
theorem carry_end {a t : Nat} {c e : Int} {p : Nat} (h : (a : Int) + (p : Int) * c = e) (ha : a < p) (he : 0 ≤ e) (ht : t = e.toNat) : 0 ≤ c ∧ t = a + p * c.toNat := by
  have hc : 0 ≤ c := by
    rcases Int.lt_or_le c 0 with hc | hc
    · exfalso
      have h1 : (p : Int) * c ≤ (p : Int) * (-1) := Int.mul_le_mul_of_nonneg_left (by omega) (by omega)
      omega
    · exact hc
  refine ⟨hc, ?_⟩
  obtain ⟨k, rfl⟩ := Int.eq_ofNat_of_zero_le hc
  subst ht h
  have e1 : (a : Int) + (p : Int) * (k : Int) = ((a + p * k : Nat) : Int) := by simp
  rw [e1, Int.toNat_natCast, Int.toNat_natCast]
theorem ten_step {O c x v : Nat} {p X k : Nat} (h : O + p * c = 10 * X + k) (hv : v = c + 10 * x) : O + p * (v % 65536) + p * 65536 * (v / 65536) = 10 * (X + p * x) + k := by
  have h1 : v = 65536 * (v / 65536) + v % 65536 := (Nat.div_add_mod v 65536).symm
  generalize v / 65536 = q at *
  generalize v % 65536 = r at *
  have h2 : p * c + 10 * (p * x) = p * (65536 * q + r) := by rw [← h1, hv]; grind
  grind
theorem tenth_step {L Q l x t q r : Nat} (h : L = 10 * Q + l) (ht : t = l * 65536 + x) (hq : q = t / 10) (hr : r = t % 10) : x + 65536 * L = 10 * (q + 65536 * Q) + r := by
  omega
end Go.Proofs.YtojpfmlmalmlcaaGreatDoor.G
namespace Go.Proofs.YtojpfmlmalmlcaaGreatDoor.G
open Ieee
theorem cut_ge (s : Bool) (n d : Nat) (h : d ≤ n.log2) : n / 2 ^ d ≤ Toward.even.cut s n d := by
  unfold Toward.cut
  rw [Nat.min_eq_left (by omega), Nat.one_shiftLeft]
  exact Nat.le_add_right _ _
theorem rung_num {L c b : Nat} (hL : 53 ≤ L) (hc : b ≤ c) : 1076 * b ≤ (L + 1022) * b + c := by
  have h : 1075 * b ≤ (L + 1022) * b := Nat.mul_le_mul_right _ (by omega)
  have e : 1076 * b = 1075 * b + b := by rw [show (1076 : Nat) = 1075 + 1 from rfl, Nat.add_mul, Nat.one_mul]
  rw [e]
  exact Nat.add_le_add h hc
theorem rung_ge {s : Bool} {n : Nat} (h : 9007199254740992 ≤ n) : ∃ r, double.nearest s n 0 = double.word s r ∧ 4845873199050653696 ≤ r ∧ r ≤ 9218868437227405312 := by
  have hn : n ≠ 0 := by omega
  have hL : 53 ≤ n.log2 := (Nat.le_log2 hn).2 h
  have hl := Nat.log2_self_le hn
  obtain ⟨L, e⟩ : ∃ L, n.log2 = L := ⟨_, rfl⟩
  have hlast : max ((0 : Int) + (n.log2 : Int) - (52 : Nat)) (-1074) = ((L - 52 : Nat) : Int) := by rw [e] at hL ⊢; omega
  have hk := cut_ge s n (L - 52) (by omega)
  have hk2 : 4503599627370496 ≤ n / 2 ^ (L - 52) := by
    rw [Nat.le_div_iff_mul_le (Nat.two_pow_pos _)]
    rw [e] at hl
    calc 4503599627370496 * 2 ^ (L - 52) = 2 ^ 52 * 2 ^ (L - 52) := rfl
      _ = 2 ^ L := by rw [← Nat.pow_add]; congr 1; omega
      _ ≤ n := hl
  refine ⟨min ((((L - 52 : Nat) : Int) - (-1074)).toNat * 4503599627370496 + Toward.even.cut s n (L - 52)) 9218868437227405312, ?_, ?_, Nat.min_le_right _ _⟩
  · have h0 : double.nearest s n 0 = (if n = 0 then double.word s 0 else
      let last := max ((0 : Int) + (n.log2 : Int) - (52 : Nat)) (-1074)
      let kept := Toward.even.cut s (n <<< ((0 : Int) - last).toNat) (last - 0).toNat
      double.word s (min ((last - (-1074)).toNat * 4503599627370496 + kept) 9218868437227405312)) := rfl
    rw [h0, if_neg hn]
    simp only [hlast]
    have z1 : ((0 : Int) - ((L - 52 : Nat) : Int)).toNat = 0 := by omega
    have z2 : (((L - 52 : Nat) : Int) - 0).toNat = L - 52 := by omega
    rw [z1, z2, Nat.shiftLeft_zero]
  · obtain ⟨c, hc⟩ : ∃ c, Toward.even.cut s n (L - 52) = c := ⟨_, rfl⟩
    obtain ⟨f, hf⟩ : ∃ f, n / 2 ^ (L - 52) = f := ⟨_, rfl⟩
    rw [hc, hf] at hk
    rw [hf] at hk2
    rw [hc]
    rw [e] at hL
    have z : (((L - 52 : Nat) : Int) - (-1074)).toNat = L + 1022 := by omega
    rw [z]
    have hn2 := rung_num hL (Nat.le_trans hk2 hk)
    exact Nat.le_min.2 ⟨Nat.le_trans (by decide) hn2, by decide⟩
/-- float64 of a great number is great. -/
theorem float_great {n m : Int} (h : 9007199254740992 ≤ n.natAbs) (hw : Whole (floatOfInt .f64 n) m) : 9007199254740992 ≤ m.natAbs := by
  obtain ⟨_, hm⟩ := hw
  have e0 : floatOfInt .f64 n = double.nearest (decide (n < 0)) n.natAbs 0 := rfl
  obtain ⟨r, e1, r1, r2⟩ := rung_ge (s := decide (n < 0)) h
  rw [e0, e1, read_word _ r (by omega)] at hm
  generalize decide (n < 0) = s at hm
  rw [if_neg (by omega)] at hm
  by_cases hr : r < 9218868437227405312
  · rw [if_pos hr] at hm
    obtain ⟨k, hk⟩ : ∃ k : Nat, (-1074 + ((r / 4503599627370496 - 1 : Nat) : Int)) = ((k + 1 : Nat) : Int) := ⟨r / 4503599627370496 - 1076, by omega⟩
    have hf := hm.flat (p := k + 1) (q := 0) (by rw [hk]; simp)
    obtain ⟨e2, _⟩ := num_abs hf
    rw [Nat.pow_zero, Nat.mul_one, Nat.pow_succ] at e2
    rw [← e2]
    have : 1 ≤ 2 ^ k := Nat.one_le_two_pow
    calc 9007199254740992 = 4503599627370496 * (1 * 2) := rfl
      _ ≤ (4503599627370496 + r % 4503599627370496) * (2 ^ k * 2) := Nat.mul_le_mul (by omega) (by omega)
  · rw [if_neg hr, if_pos (by omega)] at hm
    obtain ⟨_, _, _, h0, _⟩ := hm
    cases h0
/-- float64 of a number is fit just if the number is. -/
theorem float_fit {n m : Int} (hw : Whole (floatOfInt .f64 n) m) (hm : Fit m) : n = m := by
  by_cases h : n.natAbs < 9007199254740992
  · exact (whole_of_int n h).one hw
  · have := float_great (by omega) hw
    have := hm.1; have := hm.2
    omega
theorem float_lt (n : Int) : floatOfInt .f64 n < 18446744073709551616 := by
  have := double.write_lt (.number (n < 0) n.natAbs 0)
  have e : 2 ^ double.width = 18446744073709551616 := by decide
  rw [e] at this
  exact this
theorem whole_fit {a : Int} (h : Fit a) : Whole (floatOfInt .f64 a) a := whole_of_int a (by have := h.1; have := h.2; omega)
/-- A sum, a difference of complex numbers. -/
theorem Whole.csum {x y u v : Nat} {a b c d : Int} (ha : Whole x a) (hb : Whole y b) (hc : Whole u c) (hd : Whole v d) (h1 : (a + c).natAbs < 9007199254740992) (h2 : (b + d).natAbs < 9007199254740992) :
    ∃ re im, (∀ {P : Program} {t : TypeId} (w : World), (binOp .add t (.complex .f64 x y) (.complex .f64 u v)).run P w = .ok (.complex .f64 re im) w) ∧ Whole re (a + c) ∧ Whole im (b + d) := by
  obtain ⟨r1, e1, w1⟩ := ha.add hc h1
  obtain ⟨r2, e2, w2⟩ := hb.add hd h2
  exact ⟨r1, r2, fun w => run_complex_sum w .add (.inl rfl) _ _ _ _ _ _ _ _ (by simp [cSumBits, e1, e2]), w1, w2⟩
theorem Whole.cdif {x y u v : Nat} {a b c d : Int} (ha : Whole x a) (hb : Whole y b) (hc : Whole u c) (hd : Whole v d) (h1 : (a - c).natAbs < 9007199254740992) (h2 : (b - d).natAbs < 9007199254740992) :
    ∃ re im, (∀ {P : Program} {t : TypeId} (w : World), (binOp .sub t (.complex .f64 x y) (.complex .f64 u v)).run P w = .ok (.complex .f64 re im) w) ∧ Whole re (a - c) ∧ Whole im (b - d) := by
  obtain ⟨r1, e1, w1⟩ := ha.sub hc h1
  obtain ⟨r2, e2, w2⟩ := hb.sub hd h2
  exact ⟨r1, r2, fun w => run_complex_sum w .sub (.inr rfl) _ _ _ _ _ _ _ _ (by simp [cSumBits, e1, e2]), w1, w2⟩
end Go.Proofs.YtojpfmlmalmlcaaGreatDoor.G
