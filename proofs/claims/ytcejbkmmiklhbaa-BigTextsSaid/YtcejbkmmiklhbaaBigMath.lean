/-
  Great numbers by digits of 2^16: their value, their one row of digits, and what carrying, dividing by ten, comparing come to; pure. No condition beyond what each lemma asks.
-/
import Derived.Test.YtcejbkmmiklhbaaPoly8
namespace Go.Proofs.Ytcejbkmmiklhbaa

/-- The number of a row of digits, the lowest one first. -/
def nv : List Nat → Nat
  | [] => 0
  | x :: r => x + 65536 * nv r
def Dg (xs : List Nat) : Prop := ∀ x ∈ xs, x < 65536
/-- The row of digits of a number. -/
def dg (n : Nat) : List Nat := if _h : n = 0 then [] else n % 65536 :: dg (n / 65536)
termination_by n
decreasing_by omega
theorem dg_zero : dg 0 = [] := by unfold dg; rfl
theorem dg_pos {n : Nat} (h : n ≠ 0) : dg n = n % 65536 :: dg (n / 65536) := by rw [dg, dif_neg h]
theorem nv_nil : nv [] = 0 := rfl
theorem nv_cons (x : Nat) (r : List Nat) : nv (x :: r) = x + 65536 * nv r := rfl

theorem Dg.nil : Dg [] := fun _ h => by cases h
theorem Dg.cons {x : Nat} {r : List Nat} (hx : x < 65536) (h : Dg r) : Dg (x :: r) := fun y hy => by
  rcases List.mem_cons.1 hy with rfl | hy
  · exact hx
  · exact h y hy
theorem Dg.head {x : Nat} {r : List Nat} (h : Dg (x :: r)) : x < 65536 := h x (by simp)
theorem Dg.tail {x : Nat} {r : List Nat} (h : Dg (x :: r)) : Dg r := fun y hy => h y (by simp [hy])
theorem Dg.append {xs ys : List Nat} (h : Dg xs) (k : Dg ys) : Dg (xs ++ ys) := fun y hy => by
  rcases List.mem_append.1 hy with hy | hy
  · exact h y hy
  · exact k y hy
theorem Dg.take {xs : List Nat} (h : Dg xs) (n : Nat) : Dg (xs.take n) := fun y hy => h y (List.mem_of_mem_take hy)
theorem Dg.drop {xs : List Nat} (h : Dg xs) (n : Nat) : Dg (xs.drop n) := fun y hy => h y (List.mem_of_mem_drop hy)
theorem Dg.get {xs : List Nat} (h : Dg xs) (i : Nat) : xs.getD i 0 < 65536 := by
  by_cases hi : i < xs.length
  · simp only [List.getD, hi, List.getElem?_eq_getElem, Option.getD_some]
    exact h _ (List.getElem_mem _)
  · simp [List.getD, List.getElem?_eq_none (Nat.le_of_not_lt hi)]
theorem Dg.one {x : Nat} (h : x < 65536) : Dg [x] := Dg.cons h Dg.nil
theorem Dg.noughts (n : Nat) : Dg (List.replicate n 0) := fun x hx => by
  rw [List.eq_of_mem_replicate hx]; omega
theorem dg_dg (n : Nat) : Dg (dg n) := by
  induction n using Nat.strongRecOn with
  | _ n ih =>
    by_cases h : n = 0
    · subst h; rw [dg_zero]; exact Dg.nil
    · rw [dg_pos h]
      exact Dg.cons (Nat.mod_lt _ (by omega)) (ih _ (by omega))
theorem nv_dg (n : Nat) : nv (dg n) = n := by
  induction n using Nat.strongRecOn with
  | _ n ih =>
    by_cases h : n = 0
    · subst h; rw [dg_zero]; rfl
    · rw [dg_pos h, nv_cons, ih _ (by omega)]
      omega
theorem nv_append (xs ys : List Nat) : nv (xs ++ ys) = nv xs + 65536 ^ xs.length * nv ys := by
  induction xs with
  | nil => simp [nv]
  | cons x r ih =>
    rw [List.cons_append, nv_cons, nv_cons, ih, List.length_cons, Nat.pow_succ]
    generalize 65536 ^ r.length = p
    grind
theorem nv_snoc (xs : List Nat) (d : Nat) : nv (xs ++ [d]) = nv xs + 65536 ^ xs.length * d := by rw [nv_append]; simp [nv]
theorem nv_noughts (n : Nat) : nv (List.replicate n 0) = 0 := by
  induction n with
  | zero => rfl
  | succ n ih => rw [List.replicate_succ, nv_cons, ih]
theorem pow_posB (k : Nat) : 0 < 65536 ^ k := Nat.pow_pos (by omega)
theorem nv_lt {xs : List Nat} (h : Dg xs) : nv xs < 65536 ^ xs.length := by
  induction xs with
  | nil => simp [nv]
  | cons x r ih =>
    have h1 := ih h.tail
    have h2 := h.head
    rw [nv_cons, List.length_cons, Nat.pow_succ]
    generalize 65536 ^ r.length = p at *
    omega
theorem take_drop_nv (xs : List Nat) (i : Nat) (h : i ≤ xs.length) : nv xs = nv (xs.take i) + 65536 ^ i * nv (xs.drop i) := by
  have e := nv_append (xs.take i) (xs.drop i)
  rw [List.take_append_drop, List.length_take, Nat.min_eq_left h] at e
  exact e
theorem drop_nv (xs : List Nat) (i : Nat) (h : i < xs.length) : nv (xs.drop i) = xs.getD i 0 + 65536 * nv (xs.drop (i + 1)) := by
  rw [List.drop_eq_getElem_cons h, nv_cons]
  simp [List.getD, h]
theorem take_next (xs : List Nat) (i : Nat) (h : i < xs.length) : xs.take (i + 1) = xs.take i ++ [xs.getD i 0] := by
  rw [List.take_succ_eq_append_getElem h]
  simp [List.getD, h]
theorem take_nv (xs : List Nat) (i : Nat) (h : i < xs.length) : nv (xs.take (i + 1)) = nv (xs.take i) + 65536 ^ i * xs.getD i 0 := by
  rw [take_next xs i h, nv_snoc, List.length_take, Nat.min_eq_left (by omega)]
theorem nv_past {xs : List Nat} {i : Nat} (h : xs.length ≤ i) : xs.getD i 0 = 0 := by simp [List.getD, List.getElem?_eq_none h]
theorem take_nv' (xs : List Nat) (i : Nat) : nv (xs.take (i + 1)) = nv (xs.take i) + 65536 ^ i * xs.getD i 0 := by
  by_cases h : i < xs.length
  · exact take_nv xs i h
  · rw [List.take_of_length_le (by omega), List.take_of_length_le (by omega), nv_past (by omega), Nat.mul_zero, Nat.add_zero]
theorem nv_set (xs : List Nat) (i d : Nat) (h : i < xs.length) : nv (xs.set i d) + 65536 ^ i * xs.getD i 0 = nv xs + 65536 ^ i * d := by
  induction xs generalizing i with
  | nil => simp at h
  | cons x r ih =>
    cases i with
    | zero => simp only [List.set_cons_zero, nv_cons, Nat.pow_zero, List.getD_cons_zero]; omega
    | succ i =>
      have e := ih i (by simpa using h)
      simp only [List.set_cons_succ, nv_cons, List.getD_cons_succ, Nat.pow_succ]
      generalize 65536 ^ i = p at *
      rw [Nat.mul_comm p, Nat.mul_assoc, Nat.mul_assoc]
      omega
theorem Dg.set {xs : List Nat} (h : Dg xs) {i d : Nat} (hd : d < 65536) : Dg (xs.set i d) := fun y hy => by
  rcases List.mem_or_eq_of_mem_set hy with hy | rfl
  · exact h y hy
  · exact hd
/-- A row whose last digit is not 0 is the row of its number. -/
theorem dg_nv {xs : List Nat} (h : Dg xs) (hl : xs.length = 0 ∨ xs.getD (xs.length - 1) 0 ≠ 0) : dg (nv xs) = xs := by
  induction xs with
  | nil => exact dg_zero
  | cons x r ih =>
    have h1 := h.head
    have hr : dg (nv r) = r := by
      refine ih h.tail ?_
      by_cases h0 : r.length = 0
      · exact .inl h0
      · right
        rcases hl with hl | hl
        · simp at hl
        · rw [List.length_cons, show r.length + 1 - 1 = (r.length - 1) + 1 by omega, List.getD_cons_succ] at hl
          exact hl
    have hne : nv (x :: r) ≠ 0 := by
      rw [nv_cons]
      rcases hl with hl | hl
      · simp at hl
      · by_cases h0 : r.length = 0
        · have e : r = [] := List.eq_nil_of_length_eq_zero h0
          subst e
          simp at hl
          omega
        · intro hz
          have hz' : nv r = 0 := by omega
          rw [hz', dg_zero] at hr
          exact h0 (by rw [← hr]; rfl)
    rw [dg_pos hne, nv_cons]
    rw [show (x + 65536 * nv r) % 65536 = x by omega, show (x + 65536 * nv r) / 65536 = nv r by omega, hr]
theorem dg_last (n k : Nat) (h : (dg n).length = k + 1) : (dg n).getD k 0 ≠ 0 := by
  induction n using Nat.strongRecOn generalizing k with
  | _ n ih =>
    by_cases h0 : n = 0
    · subst h0; rw [dg_zero] at h; simp at h
    · rw [dg_pos h0] at h ⊢
      rw [List.length_cons] at h
      cases k with
      | zero =>
        have e : dg (n / 65536) = [] := List.eq_nil_of_length_eq_zero (by omega)
        have e2 := nv_dg (n / 65536)
        rw [e] at e2
        have e3 : n / 65536 = 0 := e2.symm
        rw [List.getD_cons_zero]
        omega
      | succ k =>
        rw [List.getD_cons_succ]
        exact ih _ (by omega) k (by omega)
theorem dg_len (n k : Nat) : (dg n).length ≤ k ↔ n < 65536 ^ k := by
  induction k generalizing n with
  | zero =>
    constructor
    · intro h
      have e : dg n = [] := List.eq_nil_of_length_eq_zero (by omega)
      have e2 := nv_dg n
      rw [e] at e2
      have e3 : n = 0 := e2.symm
      subst e3
      decide
    · intro h
      have e3 : n = 0 := by simpa using h
      subst e3
      rw [dg_zero]; simp
  | succ k ih =>
    by_cases h0 : n = 0
    · subst h0
      rw [dg_zero]
      simp [Nat.pow_pos]
    · rw [dg_pos h0, List.length_cons, Nat.succ_le_succ_iff, ih, Nat.pow_succ]
      exact Nat.div_lt_iff_lt_mul (by omega)
theorem dg_ge {xs : List Nat} (h : Dg xs) (hv : xs.length = 0 ∨ 65536 ^ (xs.length - 1) ≤ nv xs) : dg (nv xs) = xs := by
  refine dg_nv h ?_
  rcases hv with hv | hv
  · exact .inl hv
  · by_cases h0 : xs.length = 0
    · exact .inl h0
    · right
      intro hz
      have e := take_nv xs (xs.length - 1) (by omega)
      rw [show xs.length - 1 + 1 = xs.length by omega, List.take_length, hz, Nat.mul_zero, Nat.add_zero] at e
      have l := nv_lt (h.take (xs.length - 1))
      rw [List.length_take, Nat.min_eq_left (by omega)] at l
      omega
theorem nv_dg_ge {n k : Nat} (h : k < (dg n).length) : 65536 ^ k ≤ n := by
  rcases Nat.lt_or_ge n (65536 ^ k) with h1 | h1
  · have := (dg_len n k).2 h1
    omega
  · exact h1
/-- A nought at the end is left out. -/
theorem trim_step {xs : List Nat} {k : Nat} (hk : xs.length = k + 1) (h : xs.getD k 0 = 0) : nv (xs.take k) = nv xs := by
  have e := take_nv xs k (by omega)
  rw [← hk, List.take_length, h, Nat.mul_zero, Nat.add_zero] at e
  exact e.symm
theorem nv_inj {xs ys : List Nat} (hx : Dg xs) (hy : Dg ys) (hl : xs.length = ys.length) (h : nv xs = nv ys) : xs = ys := by
  induction xs generalizing ys with
  | nil => exact (List.eq_nil_of_length_eq_zero hl.symm).symm
  | cons x r ih =>
    cases ys with
    | nil => simp at hl
    | cons y s =>
      rw [nv_cons, nv_cons] at h
      have h1 := hx.head; have h2 := hy.head
      have e1 : x = y := by omega
      have e2 : nv r = nv s := by omega
      rw [e1, ih hx.tail hy.tail (by simpa using hl) e2]

/-- Is it a number of at most 256 digits? -/
def isN (xs : List Nat) : Bool := decide (xs.length ≤ 256 ∧ (xs.length = 0 ∨ xs.getD (xs.length - 1) 0 ≠ 0))
def top : Nat := 65536 ^ 256
theorem isN_dg {xs : List Nat} (h : Dg xs) (hi : isN xs = true) : dg (nv xs) = xs ∧ nv xs < top := by
  have h1 := of_decide_eq_true hi
  have e := dg_nv h h1.2
  refine ⟨e, ?_⟩
  have := (dg_len (nv xs) 256).1 (by rw [e]; exact h1.1)
  exact this
theorem isN_of (n : Nat) : isN (dg n) = decide (n < top) := by
  unfold isN
  have e : ((dg n).length ≤ 256 ∧ ((dg n).length = 0 ∨ (dg n).getD ((dg n).length - 1) 0 ≠ 0)) ↔ n < top := by
    constructor
    · intro h
      exact (dg_len n 256).1 h.1
    · intro h
      refine ⟨(dg_len n 256).2 h, ?_⟩
      by_cases h0 : (dg n).length = 0
      · exact .inl h0
      · right
        exact dg_last n _ (by omega)
  exact decide_eq_decide.2 e
theorem top_len {n : Nat} (h : n < top) : (dg n).length ≤ 256 := (dg_len n 256).2 h

/-- Which is greater. -/
def cp (a b : Nat) : Int := if a < b then -1 else if b < a then 1 else 0
theorem cp_lt {a b : Nat} (h : a < b) : cp a b = -1 := if_pos h
theorem cp_gt {a b : Nat} (h : b < a) : cp a b = 1 := by unfold cp; rw [if_neg (by omega), if_pos h]
theorem cp_eq (a : Nat) : cp a a = 0 := by unfold cp; simp
theorem cmp_len {a b : Nat} (h : (dg a).length < (dg b).length) : a < b := by
  have h1 := (dg_len a (dg a).length).1 (Nat.le_refl _)
  have h2 := nv_dg_ge h
  omega
/-- The highest digit that is another one. -/
theorem cmp_at {xs ys : List Nat} (hx : Dg xs) (hl : xs.length = ys.length) {i : Nat} (hi : i < xs.length) (hd : xs.drop (i + 1) = ys.drop (i + 1)) (h : xs.getD i 0 < ys.getD i 0) : nv xs < nv ys := by
  rw [take_drop_nv xs i (by omega), take_drop_nv ys i (by omega), drop_nv xs i hi, drop_nv ys i (by omega), hd]
  have l := nv_lt (hx.take i)
  rw [List.length_take, Nat.min_eq_left (by omega)] at l
  generalize nv (xs.take i) = p at *
  generalize nv (ys.take i) = q at *
  generalize nv (ys.drop (i + 1)) = t at *
  generalize 65536 ^ i = P at *
  generalize xs.getD i 0 = x at *
  generalize ys.getD i 0 = y at *
  have h1 : P * (x + 65536 * t) + P ≤ P * (y + 65536 * t) := by
    rw [← Nat.mul_succ]
    exact Nat.mul_le_mul_left P (by omega)
  omega

theorem ev_eq (xs : List Nat) : ev 65536 (xs.map fun x : Nat => (x : Int)) = (nv xs : Int) := by
  induction xs with
  | nil => rfl
  | cons x r ih =>
    rw [List.map_cons]
    show (x : Int) + 65536 * ev 65536 (r.map fun x : Nat => (x : Int)) = _
    rw [ih, nv_cons]
    omega
theorem ev_append (X : Int) (l m : List Int) : ev X (l ++ m) = ev X l + X ^ l.length * ev X m := by
  induction l with
  | nil => simp [ev]
  | cons a r ih =>
    rw [List.cons_append]
    show a + X * ev X (r ++ m) = a + X * ev X r + X ^ (r.length + 1) * ev X m
    rw [ih, Int.pow_succ]
    grind
theorem ev_take (l : List Int) (i : Nat) (h : i < l.length) : ev 65536 (l.take (i + 1)) = ev 65536 (l.take i) + 65536 ^ i * l.getD i 0 := by
  rw [List.take_succ_eq_append_getElem h, ev_append, List.length_take, Nat.min_eq_left (by omega)]
  simp [ev, List.getD, h]
/-- One digit more is carried. -/
theorem carry_step {O c x v e : Int} {p : Int} (h : O + p * c = e) (v' : v = c + x) : O + p * (v % 65536) + (p * 65536) * (v / 65536) = e + p * x := by
  subst v'
  have h1 : c + x = 65536 * ((c + x) / 65536) + (c + x) % 65536 := (Int.mul_ediv_add_emod (c + x) 65536).symm
  generalize (c + x) / 65536 = q at *
  generalize (c + x) % 65536 = r at *
  have : c = 65536 * q + r - x := by omega
  subst this h
  grind
theorem carry_end {a t : Nat} {c e : Int} {p : Nat} (h : (a : Int) + (p : Int) * c = e) (ha : a < p) (he : 0 ≤ e) (ht : t = e.toNat) : 0 ≤ c ∧ t = a + p * c.toNat := by
  have hc : 0 ≤ c := by
    rcases Int.lt_or_le c 0 with hc | hc
    · exfalso
      have h1 : (p : Int) * c ≤ (p : Int) * (-1) := Int.mul_le_mul_of_nonneg_left (by omega) (by omega)
      omega
    · exact hc
  refine ⟨hc, ?_⟩
  obtain ⟨k, rfl⟩ := Int.eq_ofNat_of_zero_le hc
  subst ht h
  have e1 : (a : Int) + (p : Int) * (k : Int) = ((a + p * k : Nat) : Int) := by simp
  rw [e1, Int.toNat_natCast, Int.toNat_natCast]

theorem ten_step {O c x v : Nat} {p X k : Nat} (h : O + p * c = 10 * X + k) (hv : v = c + 10 * x) : O + p * (v % 65536) + p * 65536 * (v / 65536) = 10 * (X + p * x) + k := by
  have h1 : v = 65536 * (v / 65536) + v % 65536 := (Nat.div_add_mod v 65536).symm
  generalize v / 65536 = q at *
  generalize v % 65536 = r at *
  have h2 : p * c + 10 * (p * x) = p * (65536 * q + r) := by rw [← h1, hv]; grind
  grind
theorem tenth_step {L Q l x t q r : Nat} (h : L = 10 * Q + l) (ht : t = l * 65536 + x) (hq : q = t / 10) (hr : r = t % 10) : x + 65536 * L = 10 * (q + 65536 * Q) + r := by
  omega

end Go.Proofs.Ytcejbkmmiklhbaa
