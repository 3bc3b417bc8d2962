/-
  Days of the calendar of Gregory, counted from the beginning of 1970 on: which day a date is, that each day has one date, and the order of dates; pure.
-/
import Derived.Lib.Hide
namespace Go.Proofs.YthkcaogohkgheaaDoor

def leapB (y : Nat) : Bool := decide (y % 4 = 0 ∧ (y % 100 ≠ 0 ∨ y % 400 = 0))
def yd (y : Nat) : Nat := if leapB y = true then 366 else 365
def mdy (y m : Nat) : Nat := if m = 2 then (if leapB y = true then 29 else 28) else if m = 4 ∨ m = 6 ∨ m = 9 ∨ m = 11 then 30 else 31
/-- Days ahead of the year 1970 + k. -/
def ys : Nat → Nat
  | 0 => 0
  | k + 1 => ys k + yd (1970 + k)
/-- Days of a year's first j months. -/
def msum (y : Nat) : Nat → Nat
  | 0 => 0
  | j + 1 => msum y j + mdy y (j + 1)
theorem leap_iff (y : Nat) : leapB y = true ↔ y % 4 = 0 ∧ (y % 100 ≠ 0 ∨ y % 400 = 0) := decide_eq_true_iff
theorem leap_not (y : Nat) : leapB y = false ↔ ¬ (y % 4 = 0 ∧ (y % 100 ≠ 0 ∨ y % 400 = 0)) := decide_eq_false_iff_not
theorem yd_bounds (y : Nat) : 365 ≤ yd y ∧ yd y ≤ 366 := by unfold yd; split <;> omega
theorem mdy_bounds (y m : Nat) : 28 ≤ mdy y m ∧ mdy y m ≤ 31 := by unfold mdy; split <;> split <;> omega
theorem ys_closed (k : Nat) : ys k + 477 + (1969 + k) / 100 = 365 * k + (1969 + k) / 4 + (1969 + k) / 400 := by
  induction k with
  | zero => rfl
  | succ k ih =>
    show ys k + yd (1970 + k) + 477 + (1969 + (k + 1)) / 100 = _
    unfold yd
    cases h : leapB (1970 + k) with
    | true =>
      rw [leap_iff] at h
      rw [if_pos rfl]
      omega
    | false =>
      rw [leap_not] at h
      rw [if_neg (by decide)]
      omega
theorem ys_at {k n : Nat} (h : n + 477 + (1969 + k) / 100 = 365 * k + (1969 + k) / 4 + (1969 + k) / 400) : ys k = n := by
  have := ys_closed k
  omega
theorem ys_last : ys 8030 = 2932897 := ys_at (by decide)
theorem ys_mono {a b : Nat} (h : a ≤ b) : ys a ≤ ys b := by
  induction b with
  | zero => rw [Nat.le_zero.1 h]; exact Nat.le_refl _
  | succ b ih =>
    rcases Nat.lt_or_ge b a with q | q
    · rw [show a = b + 1 by omega]; exact Nat.le_refl _
    · exact Nat.le_trans (ih q) (Nat.le_add_right _ _)
theorem ys_step (k : Nat) : ys (k + 1) = ys k + yd (1970 + k) := rfl
theorem msum_year (y : Nat) : msum y 12 = yd y := by
  unfold yd
  simp only [msum, mdy]
  cases leapB y <;> simp
theorem msum_step (y j : Nat) : msum y (j + 1) = msum y j + mdy y (j + 1) := rfl
theorem msum_mono {y a b : Nat} (h : a ≤ b) : msum y a ≤ msum y b := by
  induction b with
  | zero => rw [Nat.le_zero.1 h]; exact Nat.le_refl _
  | succ b ih =>
    rcases Nat.lt_or_ge b a with q | q
    · rw [show a = b + 1 by omega]; exact Nat.le_refl _
    · exact Nat.le_trans (ih q) (Nat.le_add_right _ _)

/-- A day that there is: the year 1970 + k, the month j + 1, the day d + 1 of it. -/
def VDate (k j d : Nat) : Prop := j < 12 ∧ d < mdy (1970 + k) (j + 1)
/-- Which day it is. -/
def dnum (k j d : Nat) : Nat := ys k + msum (1970 + k) j + d
theorem in_month {k j d : Nat} (h : VDate k j d) : msum (1970 + k) j + d < msum (1970 + k) (j + 1) := by
  have := h.2
  rw [msum_step]; omega
theorem in_year {k j d : Nat} (h : VDate k j d) : dnum k j d < ys (k + 1) := by
  have h1 := in_month h
  have h2 := msum_mono (y := 1970 + k) (show j + 1 ≤ 12 from h.1)
  rw [msum_year] at h2
  unfold dnum
  rw [ys_step]; omega
theorem from_year (k j d : Nat) : ys k ≤ dnum k j d := by unfold dnum; omega
/-- The order of days is that of years, months, days. -/
theorem day_lt {k j d k' j' d' : Nat} (h : VDate k j d) (h' : VDate k' j' d') : dnum k j d < dnum k' j' d' ↔ k < k' ∨ (k = k' ∧ (j < j' ∨ (j = j' ∧ d < d'))) := by
  rcases Nat.lt_trichotomy k k' with q | q | q
  · have := in_year h
    have := ys_mono (show k + 1 ≤ k' from q)
    have := from_year k' j' d'
    constructor
    · intro _; exact .inl q
    · intro _; omega
  · subst q
    rcases Nat.lt_trichotomy j j' with r | r | r
    · have := in_month h
      have := msum_mono (y := 1970 + k) (show j + 1 ≤ j' from r)
      constructor
      · intro _; exact .inr ⟨rfl, .inl r⟩
      · intro _; unfold dnum; omega
    · subst r
      unfold dnum
      omega
    · have := in_month h'
      have := msum_mono (y := 1970 + k) (show j' + 1 ≤ j from r)
      constructor
      · intro g; exfalso; unfold dnum at g; omega
      · intro g; omega
  · have := in_year h'
    have := ys_mono (show k' + 1 ≤ k from q)
    have := from_year k j d
    constructor
    · intro g; exfalso; omega
    · intro g; omega
/-- Each day has one date. -/
theorem day_inj {k j d k' j' d' : Nat} (h : VDate k j d) (h' : VDate k' j' d') (e : dnum k j d = dnum k' j' d') : k = k' ∧ j = j' ∧ d = d' := by
  have h1 := day_lt h h'
  have h2 := day_lt h' h
  omega
/-- A day ahead of the year 10000 lies ahead of it by its year, too. -/
theorem year_lt {k j d : Nat} (h : dnum k j d < 2932897) : k < 8030 := by
  rcases Nat.lt_or_ge k 8030 with q | q
  · exact q
  · have h1 := ys_mono q
    have h2 := from_year k j d
    rw [ys_last] at h1
    omega
/-- The year that a day lies in. -/
theorem year_of {k d : Nat} {n : Nat} (h : ys k + d = n) (hn : n < 2932897) : k < 8030 := by
  rcases Nat.lt_or_ge k 8030 with q | q
  · exact q
  · have h1 := ys_mono q
    rw [ys_last] at h1
    omega
end Go.Proofs.YthkcaogohkgheaaDoor
