/-
  Products of polynomials as double sums, and how parts of two numbers each, multiplied by their values at four points, make them up; pure. No condition beyond what each lemma asks.
-/
import Derived.Test.YtcejbkmmiklhbaaGaussB8
namespace Go.Proofs.Ytcejbkmmiklhbaa

/-- The sum of f 0 .. f (n - 1). -/
def sm : Nat → (Nat → Int) → Int
  | 0, _ => 0
  | n + 1, f => sm n f + f n
theorem sm_zero (f : Nat → Int) : sm 0 f = 0 := rfl
theorem sm_succ (n : Nat) (f : Nat → Int) : sm (n + 1) f = sm n f + f n := rfl
theorem sm_congr {n : Nat} {f g : Nat → Int} (h : ∀ i, i < n → f i = g i) : sm n f = sm n g := by
  induction n with
  | zero => rfl
  | succ n ih => rw [sm_succ, sm_succ, ih (fun i hi => h i (by omega)), h n (by omega)]
theorem sm_none {n : Nat} {f : Nat → Int} (h : ∀ i, i < n → f i = 0) : sm n f = 0 := by
  induction n with
  | zero => rfl
  | succ n ih => rw [sm_succ, ih (fun i hi => h i (by omega)), h n (by omega)]; rfl
theorem sm_add (n : Nat) (f g : Nat → Int) : sm n (fun i => f i + g i) = sm n f + sm n g := by
  induction n with
  | zero => rfl
  | succ n ih => rw [sm_succ, sm_succ, sm_succ, ih]; omega
theorem sm_mul (n : Nat) (c : Int) (f : Nat → Int) : sm n (fun i => c * f i) = c * sm n f := by
  induction n with
  | zero => simp [sm]
  | succ n ih => rw [sm_succ, sm_succ, ih, Int.mul_add]
theorem sm_swap (n m : Nat) (f : Nat → Nat → Int) : sm n (fun i => sm m (fun j => f i j)) = sm m (fun j => sm n (fun i => f i j)) := by
  induction n with
  | zero => rw [sm_zero]; exact (sm_none (fun _ _ => rfl)).symm
  | succ n ih => rw [sm_succ, ih, ← sm_add]; rfl
theorem sm_two (n : Nat) (f : Nat → Int) : sm (2 * n) f = sm n (fun i => f (2 * i) + f (2 * i + 1)) := by
  induction n with
  | zero => rfl
  | succ n ih => rw [show 2 * (n + 1) = 2 * n + 1 + 1 by omega, sm_succ, sm_succ, sm_succ, ih]; omega
theorem sm_more {n m : Nat} {f : Nat → Int} (hm : n ≤ m) (h : ∀ i, n ≤ i → f i = 0) : sm m f = sm n f := by
  obtain ⟨k, rfl⟩ : ∃ k, m = n + k := ⟨m - n, by omega⟩
  clear hm
  induction k with
  | zero => rfl
  | succ k ih => rw [← Nat.add_assoc, sm_succ, ih, h (n + k) (by omega), Int.add_zero]
theorem sm_at (n k : Nat) (f : Nat → Int) : sm n (fun i => if k = i then f i else 0) = if k < n then f k else 0 := by
  induction n with
  | zero => simp [sm]
  | succ n ih =>
    rw [sm_succ, ih]
    by_cases h1 : k < n
    · rw [if_pos h1, if_neg (by omega), if_pos (by omega)]; omega
    · by_cases h2 : k = n
      · subst h2; rw [if_neg h1, if_pos rfl, if_pos (by omega)]; omega
      · rw [if_neg h1, if_neg h2, if_neg (by omega)]; omega
theorem sm_bound {n : Nat} {f : Nat → Int} {B : Int} (h : ∀ i, i < n → 0 ≤ f i ∧ f i ≤ B) : 0 ≤ sm n f ∧ sm n f ≤ n * B := by
  induction n with
  | zero => simp [sm]
  | succ n ih =>
    have h1 := ih (fun i hi => h i (by omega))
    have h2 := h n (by omega)
    rw [sm_succ, Int.natCast_add, Int.add_mul]
    simp
    omega

/-- What is laid up in place t, behind I whole rounds of M steps and J steps of the next one: step (i, j) lays f i j into place s i j. -/
def laid (s : Nat → Nat → Nat) (M I J : Nat) (f : Nat → Nat → Int) (t : Nat) : Int :=
  sm I (fun i => sm M (fun j => if s i j = t then f i j else 0)) + sm J (fun j => if s I j = t then f I j else 0)
theorem laid_first (s : Nat → Nat → Nat) (M : Nat) (f : Nat → Nat → Int) (t : Nat) : laid s M 0 0 f t = 0 := rfl
theorem laid_step (s : Nat → Nat → Nat) (M I J : Nat) (f : Nat → Nat → Int) (t : Nat) : laid s M I (J + 1) f t = laid s M I J f t + if s I J = t then f I J else 0 := by
  unfold laid; rw [sm_succ]; omega
theorem laid_round (s : Nat → Nat → Nat) (M I : Nat) (f : Nat → Nat → Int) (t : Nat) : laid s M (I + 1) 0 f t = laid s M I M f t := by
  unfold laid; rw [sm_succ, sm_zero]; omega
theorem laid_all (s : Nat → Nat → Nat) (M I : Nat) (f : Nat → Nat → Int) (t : Nat) : laid s M I 0 f t = sm I (fun i => sm M (fun j => if s i j = t then f i j else 0)) := by
  unfold laid; rw [sm_zero]; omega
theorem laid_bound {s : Nat → Nat → Nat} {M I J : Nat} {f : Nat → Nat → Int} {t : Nat} {B : Int} (hB : 0 ≤ B) (h : ∀ i j, 0 ≤ f i j ∧ f i j ≤ B) : 0 ≤ laid s M I J f t ∧ laid s M I J f t ≤ ((I * M + J : Nat) : Int) * B := by
  have h1 : ∀ i, i < I → 0 ≤ sm M (fun j => if s i j = t then f i j else 0) ∧ sm M (fun j => if s i j = t then f i j else 0) ≤ M * B := fun i _ => sm_bound (fun j _ => by
    have := h i j
    split <;> omega)
  have h2 := sm_bound h1
  have h3 : 0 ≤ sm J (fun j => if s I j = t then f I j else 0) ∧ sm J (fun j => if s I j = t then f I j else 0) ≤ J * B := sm_bound (fun j _ => by
    have := h I j
    split <;> omega)
  unfold laid
  rw [Int.natCast_add, Int.natCast_mul, Int.add_mul, Int.mul_assoc]
  omega

/-- Number t of the product of two lists. -/
def conv (xs ys : List Int) (t : Nat) : Int := sm xs.length (fun i => sm ys.length (fun j => if i + j = t then xs.getD i 0 * ys.getD j 0 else 0))
/-- The product of two lists. -/
def foldL (xs ys : List Int) : List Int := if xs.length = 0 ∨ ys.length = 0 then [] else (List.range (xs.length + ys.length - 1)).map (conv xs ys)

theorem getD_past {xs : List Int} {i : Nat} (h : xs.length ≤ i) : xs.getD i 0 = 0 := by simp [List.getD, List.getElem?_eq_none h]
theorem conv_more {xs ys : List Int} {n m : Nat} (hn : xs.length ≤ n) (hm : ys.length ≤ m) (t : Nat) : conv xs ys t = sm n (fun i => sm m (fun j => if i + j = t then xs.getD i 0 * ys.getD j 0 else 0)) := by
  unfold conv
  rw [← sm_more hn (f := fun i => sm ys.length (fun j => if i + j = t then xs.getD i 0 * ys.getD j 0 else 0))]
  · refine sm_congr fun i _ => (sm_more hm fun j hj => ?_).symm
    rw [getD_past hj, Int.mul_zero, ite_self]
  · intro i hi
    refine sm_none fun j _ => ?_
    rw [getD_past hi, Int.zero_mul, ite_self]
theorem foldL_length (xs ys : List Int) (hx : xs.length ≠ 0) (hy : ys.length ≠ 0) : (foldL xs ys).length = xs.length + ys.length - 1 := by
  unfold foldL; rw [if_neg (by omega)]; simp
theorem foldL_get (xs ys : List Int) {t : Nat} (hx : xs.length ≠ 0) (hy : ys.length ≠ 0) (ht : t < xs.length + ys.length - 1) : (foldL xs ys).getD t 0 = conv xs ys t := by
  unfold foldL; rw [if_neg (by omega)]; simp [List.getD, ht]
theorem foldL_of {xs ys l : List Int} (hx : xs.length ≠ 0) (hy : ys.length ≠ 0) (hl : l.length = xs.length + ys.length - 1) (h : ∀ t, t < l.length → l.getD t 0 = conv xs ys t) : l = foldL xs ys := by
  apply List.ext_getElem (by rw [foldL_length xs ys hx hy, hl])
  intro i h1 h2
  have e1 := h i h1
  rw [← foldL_get xs ys hx hy (by omega)] at e1
  simpa [List.getD, h1, h2] using e1

/-- What parts i and j give: a number for each of four places. -/
def term (xs ys : List Int) (r i j : Nat) : Int :=
  if r = 0 then xs.getD (2 * i) 0 * ys.getD (2 * j) 0
  else if r = 1 then xs.getD (2 * i) 0 * ys.getD (2 * j + 1) 0 + xs.getD (2 * i + 1) 0 * ys.getD (2 * j) 0
  else if r = 2 then xs.getD (2 * i + 1) 0 * ys.getD (2 * j + 1) 0
  else 0

theorem ite_sum (n : Nat) (c : Prop) [Decidable c] (f : Nat → Int) : (if c then sm n f else 0) = sm n (fun i => if c then f i else 0) := by
  by_cases h : c
  · rw [if_pos h]; exact sm_congr fun i _ => (if_pos h).symm
  · rw [if_neg h]; exact (sm_none fun i _ => if_neg h).symm
theorem spread_one (N M S t r : Nat) (T : Nat → Nat → Int) (hS : ∀ i j, i < N → j < M → i + j < S) :
    sm S (fun s => if 2 * s + r = t then sm N (fun i => sm M (fun j => if i + j = s then T i j else 0)) else 0) = sm N (fun i => sm M (fun j => if 2 * (i + j) + r = t then T i j else 0)) := by
  have e1 : sm S (fun s => if 2 * s + r = t then sm N (fun i => sm M (fun j => if i + j = s then T i j else 0)) else 0)
      = sm S (fun s => sm N (fun i => sm M (fun j => if i + j = s then (if 2 * s + r = t then T i j else 0) else 0))) := by
    refine sm_congr fun s _ => ?_
    rw [ite_sum]
    refine sm_congr fun i _ => ?_
    rw [ite_sum]
    refine sm_congr fun j _ => ?_
    by_cases h1 : 2 * s + r = t <;> by_cases h2 : i + j = s <;> simp [h1, h2]
  rw [e1, sm_swap]
  refine sm_congr fun i hi => ?_
  rw [sm_swap]
  refine sm_congr fun j hj => ?_
  rw [sm_at, if_pos (hS i j hi hj)]

/-- The whole product, out of the products of parts. -/
theorem spread_conv (xs ys : List Int) (N M S t : Nat) (hN : xs.length ≤ 2 * N) (hM : ys.length ≤ 2 * M) (hS : ∀ i j, i < N → j < M → i + j < S) :
    laid (fun s j => 2 * s + j) 4 S 0 (fun s j => laid (fun i j => i + j) M N 0 (term xs ys j) s) t = conv xs ys t := by
  rw [laid_all, conv_more hN hM t, sm_two]
  have e1 : sm S (fun i => sm 4 (fun j => if 2 * i + j = t then laid (fun i j => i + j) M N 0 (term xs ys j) i else 0))
      = sm S (fun s => if 2 * s + 0 = t then sm N (fun i => sm M (fun j => if i + j = s then term xs ys 0 i j else 0)) else 0)
      + sm S (fun s => if 2 * s + 1 = t then sm N (fun i => sm M (fun j => if i + j = s then term xs ys 1 i j else 0)) else 0)
      + sm S (fun s => if 2 * s + 2 = t then sm N (fun i => sm M (fun j => if i + j = s then term xs ys 2 i j else 0)) else 0) := by
    rw [← sm_add, ← sm_add]
    refine sm_congr fun s _ => ?_
    simp only [sm_succ, sm_zero, laid_all]
    have h3 : (if 2 * s + 3 = t then sm N (fun i => sm M (fun j => if i + j = s then term xs ys 3 i j else 0)) else 0) = 0 := by
      rw [sm_none (fun i _ => sm_none (fun j _ => by simp [term])), ite_self]
    rw [h3]
    omega
  rw [e1, spread_one N M S t 0 _ hS, spread_one N M S t 1 _ hS, spread_one N M S t 2 _ hS, ← sm_add, ← sm_add]
  refine sm_congr fun i _ => ?_
  rw [sm_two, sm_two, ← sm_add, ← sm_add, ← sm_add]
  refine sm_congr fun j _ => ?_
  simp only [term]
  have c0 : (2 * i + 2 * j = t) = (2 * (i + j) + 0 = t) := by rw [Nat.mul_add]; rfl
  have c1 : (2 * i + (2 * j + 1) = t) = (2 * (i + j) + 1 = t) := by rw [Nat.mul_add]; simp; omega
  have c2 : (2 * i + 1 + 2 * j = t) = (2 * (i + j) + 1 = t) := by rw [Nat.mul_add]; simp; omega
  have c3 : (2 * i + 1 + (2 * j + 1) = t) = (2 * (i + j) + 2 = t) := by rw [Nat.mul_add]; simp; omega
  simp only [c0, c1, c2, c3]
  generalize xs.getD (2 * i) 0 * ys.getD (2 * j) 0 = p0
  generalize xs.getD (2 * i) 0 * ys.getD (2 * j + 1) 0 = p1
  generalize xs.getD (2 * i + 1) 0 * ys.getD (2 * j) 0 = p2
  generalize xs.getD (2 * i + 1) 0 * ys.getD (2 * j + 1) 0 = p3
  simp
  repeat' split
  all_goals omega

/-- The sums of turned numbers. -/
def tr (way : Int) (p q : Nat → Int) (k : Nat) : Int := sm 4 (fun j => turnRe ((way * j * k) % 4) (p j) (q j))
def ti (way : Int) (p q : Nat → Int) (k : Nat) : Int := sm 4 (fun j => turnIm ((way * j * k) % 4) (p j) (q j))

/-- The value of a polynomial of three numbers at point k. -/
def vr (k : Nat) (c : Nat → Int) : Int := if k = 0 then c 0 + c 1 + c 2 else if k = 2 then c 0 - c 1 + c 2 else c 0 - c 2
def vi (k : Nat) (c : Nat → Int) : Int := if k = 1 then c 1 else if k = 3 then -c 1 else 0

theorem lt4 {k : Nat} (h : k < 4) : k = 0 ∨ k = 1 ∨ k = 2 ∨ k = 3 := by omega

theorem value_tr {c : Nat → Int} (h2 : c 2 = 0) {k : Nat} (hk : k < 4) : tr 1 (fun j => if j < 2 then c j else 0) (fun _ => 0) k = vr k c ∧ ti 1 (fun j => if j < 2 then c j else 0) (fun _ => 0) k = vi k c := by
  rcases lt4 hk with rfl | rfl | rfl | rfl <;> simp [tr, ti, vr, vi, sm, turnRe, turnIm, h2] <;> omega
theorem value_back {c : Nat → Int} (h3 : c 3 = 0) {k : Nat} (hk : k < 4) : tr (-1) (fun j => vr j c) (fun j => vi j c) k = 4 * c k ∧ ti (-1) (fun j => vr j c) (fun j => vi j c) k = 0 := by
  rcases lt4 hk with rfl | rfl | rfl | rfl <;> simp [tr, ti, vr, vi, sm, turnRe, turnIm, h3] <;> omega
theorem value_times (xs ys : List Int) (i j : Nat) {k : Nat} (hk : k < 4) (a b : Nat → Int) (ha : ∀ r, a r = if r < 2 then xs.getD (2 * i + r) 0 else 0) (hb : ∀ r, b r = if r < 2 then ys.getD (2 * j + r) 0 else 0) :
    vr k a * vr k b - vi k a * vi k b = vr k (fun r => term xs ys r i j) ∧ vr k a * vi k b + vi k a * vr k b = vi k (fun r => term xs ys r i j) := by
  simp only [vr, vi, ha, hb, term]
  generalize xs.getD (2 * i) 0 = p at *
  generalize xs.getD (2 * i + 1) 0 = q at *
  generalize ys.getD (2 * j) 0 = u at *
  generalize ys.getD (2 * j + 1) 0 = v at *
  rcases lt4 hk with rfl | rfl | rfl | rfl <;> simp <;> grind
theorem vr_add (k : Nat) (c d : Nat → Int) : vr k (fun r => c r + d r) = vr k c + vr k d := by
  simp only [vr]; (repeat' split) <;> omega
theorem vi_add (k : Nat) (c d : Nat → Int) : vi k (fun r => c r + d r) = vi k c + vi k d := by
  simp only [vi]; (repeat' split) <;> omega
theorem v_bound {k : Nat} {c : Nat → Int} {B : Int} (h : ∀ r, 0 ≤ c r ∧ c r ≤ B) : (-(3 * B) ≤ vr k c ∧ vr k c ≤ 3 * B) ∧ (-(3 * B) ≤ vi k c ∧ vi k c ≤ 3 * B) := by
  have h0 := h 0; have h1 := h 1; have h2 := h 2
  unfold vr vi
  constructor
  · repeat' split
    all_goals omega
  · repeat' split
    all_goals omega

/-- Within the bound of fit ones. -/
def Fit (a : Int) : Prop := -1125899906842624 ≤ a ∧ a ≤ 1125899906842624
instance (a : Int) : Decidable (Fit a) := inferInstanceAs (Decidable (_ ∧ _))
theorem Fit.great {a : Int} (h : Fit a) : Great a := ⟨by have := h.1; omega, by have := h.2; omega⟩

theorem turnRe_abs (r a b : Int) (B : Int) (ha : -B ≤ a ∧ a ≤ B) (hb : -B ≤ b ∧ b ≤ B) : -B ≤ turnRe r a b ∧ turnRe r a b ≤ B := by
  unfold turnRe; repeat' split
  all_goals omega
theorem turnIm_abs (r a b : Int) (B : Int) (ha : -B ≤ a ∧ a ≤ B) (hb : -B ≤ b ∧ b ≤ B) : -B ≤ turnIm r a b ∧ turnIm r a b ≤ B := by
  unfold turnIm; repeat' split
  all_goals omega
theorem t_abs {way : Int} {p q : Nat → Int} {k : Nat} {B : Int} (h : ∀ j, j < 4 → (-B ≤ p j ∧ p j ≤ B) ∧ (-B ≤ q j ∧ q j ≤ B)) : (-(4 * B) ≤ tr way p q k ∧ tr way p q k ≤ 4 * B) ∧ (-(4 * B) ≤ ti way p q k ∧ ti way p q k ≤ 4 * B) := by
  have h0 := h 0 (by omega); have h1 := h 1 (by omega); have h2 := h 2 (by omega); have h3 := h 3 (by omega)
  unfold tr ti
  simp only [sm_succ, sm_zero]
  have a0 := turnRe_abs ((way * (0 : Nat) * k) % 4) _ _ B h0.1 h0.2
  have a1 := turnRe_abs ((way * (1 : Nat) * k) % 4) _ _ B h1.1 h1.2
  have a2 := turnRe_abs ((way * (2 : Nat) * k) % 4) _ _ B h2.1 h2.2
  have a3 := turnRe_abs ((way * (3 : Nat) * k) % 4) _ _ B h3.1 h3.2
  have b0 := turnIm_abs ((way * (0 : Nat) * k) % 4) _ _ B h0.1 h0.2
  have b1 := turnIm_abs ((way * (1 : Nat) * k) % 4) _ _ B h1.1 h1.2
  have b2 := turnIm_abs ((way * (2 : Nat) * k) % 4) _ _ B h2.1 h2.2
  have b3 := turnIm_abs ((way * (3 : Nat) * k) % 4) _ _ B h3.1 h3.2
  omega

end Go.Proofs.Ytcejbkmmiklhbaa
