/-
  What when's leapsUpTo, isLeap, daysIn and daysAhead do; no condition but bounds.
-/
import Derived.Test.YthkcaogohkgheaaDoorRefT16
namespace Go.Proofs.YthkcaogohkgheaaDoor
set_option maxRecDepth 100000
open Go.RowKit

/-- Years of 366 days up to a year. -/
def lu (y : Nat) : Nat := y / 4 - y / 100 + y / 400
theorem lu_last : lu 1969 = 477 := rfl
theorem lu_leap {y : Nat} (h : 1 ≤ y) : decide (lu (y - 1) < lu y) = leapB y := by
  unfold lu leapB
  rw [decide_eq_decide]
  omega
theorem lu_ys (k : Nat) : ys k + 477 = 365 * k + lu (1969 + k) := by
  have := ys_closed k
  unfold lu
  omega
theorem lu_le (y : Nat) : lu y ≤ y := by unfold lu; omega
theorem w64 {x : Int} {n : Nat} (h : x = (n : Int)) (h1 : n ≤ 4000000000000000000) : wrap64 x = (n : Int) := by subst h; unfold wrap64; omega
set_option maxHeartbeats 1000000 in
theorem leaps_any (y : Nat) (hy : y ≤ 1000000) (w : World) :
    Calls Tryd.prog 30 #[.int .i64 (y : Int)] w fun e w' => e = .returned (.int .i64 ((lu y : Nat) : Int)) ∧ w' = w := by
  obtain ⟨r, hr⟩ : ∃ r, r = lu y := ⟨_, rfl⟩
  rw [← hr]
  unfold lu at hr
  obtain ⟨a, ha⟩ : ∃ a, a = y / 4 := ⟨_, rfl⟩
  obtain ⟨b, hb⟩ : ∃ b, b = y / 100 := ⟨_, rfl⟩
  obtain ⟨c, hc⟩ : ∃ c, c = y / 400 := ⟨_, rfl⟩
  obtain ⟨d, hd⟩ : ∃ d : Nat, d = a - b := ⟨_, rfl⟩
  rw [← ha, ← hb, ← hc, ← hd] at hr
  have t1 : (y : Int).tdiv 4 = (a : Int) := by rw [ha]; rfl
  have t2 : (y : Int).tdiv 100 = (b : Int) := by rw [hb]; rfl
  have t3 : (y : Int).tdiv 400 = (c : Int) := by rw [hc]; rfl
  have u1 : (y : Int) / 4 = (a : Int) := by rw [ha]; rfl
  have u2 : (y : Int) / 100 = (b : Int) := by rw [hb]; rfl
  have u3 : (y : Int) / 400 = (c : Int) := by rw [hc]; rfl
  have b1 : a ≤ 1000000 := by omega
  have b2 : b ≤ 1000000 := by omega
  have b3 : c ≤ 1000000 := by omega
  have b4 : d ≤ 1000000 := by omega
  have b5 : r ≤ 2000000 := by omega
  have f4 : (a : Int) - (b : Int) = (d : Int) := by omega
  have f5 : (d : Int) + (c : Int) = (r : Int) := by omega
  clear ha hb hc hd hr hy
  have v1 : wrap64 (a : Int) = (a : Int) := w64 rfl (Nat.le_trans b1 (by decide))
  have v2 : wrap64 (b : Int) = (b : Int) := w64 rfl (Nat.le_trans b2 (by decide))
  have v3 : wrap64 (c : Int) = (c : Int) := w64 rfl (Nat.le_trans b3 (by decide))
  have v4 : wrap64 ((a : Int) - (b : Int)) = (d : Int) := w64 f4 (Nat.le_trans b4 (by decide))
  have HV : Hid (wrap64 ((d : Int) + (c : Int)) = (r : Int)) := w64 f5 (Nat.le_trans b5 (by decide))

  clear b1 b2 b3 b4 b5 f4 f5
  go_enter Tryd.func30, Tryd.ntmps30
  go_wp2_with fail
  go_ret
  exact ⟨by first | rfl | (rw [HV.out]; rfl), rfl⟩
set_option maxHeartbeats 1000000 in
theorem isLeap_any (y : Nat) (h1 : 1 ≤ y) (hy : y ≤ 1000000) (w : World) :
    Calls Tryd.prog 31 #[.int .i64 (y : Int)] w fun e w' => e = .returned (.bool (leapB y)) ∧ w' = w := by
  have c1 := Lib.hid fun w => leaps_any y hy w
  have c2 := Lib.hid fun w => leaps_any (y - 1) (by omega) w
  have hl := lu_leap h1
  have v1 : wrap64 ((y : Int) - 1) = ((y - 1 : Nat) : Int) := by unfold wrap64; omega
  generalize leapB y = r at *
  generalize y - 1 = z at *
  generalize lu y = a at *
  generalize lu z = b at *
  have e1 : decide ((b : Int) < (a : Int)) = r := by rw [← hl, decide_eq_decide]; omega
  have HR := Lib.hid hl
  clear h1 hy hl
  go_enter Tryd.func31, Tryd.ntmps31
  go_wp2_with fail
  refine (c1.out _).mono ?_
  rintro e w1 ⟨rfl, hw⟩; subst w1
  go_wp2_with fail
  refine (c2.out _).mono ?_
  rintro e w1 ⟨rfl, hw⟩; subst w1
  cases r
  all_goals
    go_wp2_with fail
    go_ret
    exact ⟨by first | rfl | (rw [← HR.out]; simp), rfl⟩

set_option maxHeartbeats 2000000 in
theorem daysIn_any (y m : Nat) (h1 : 1 ≤ y) (hy : y ≤ 1000000) (hm : m ≤ 1000000) (w : World) :
    Calls Tryd.prog 25 #[.int .i64 (y : Int), .int .i64 (m : Int)] w fun e w' => e = .returned (.int .i64 ((mdy y m : Nat) : Int)) ∧ w' = w := by
  have cL := Lib.hid fun w => isLeap_any y h1 hy w
  obtain ⟨r, hr⟩ : ∃ r, r = mdy y m := ⟨_, rfl⟩
  rw [← hr]
  by_cases h2 : m = 2
  · subst h2
    cases hl : leapB y with
    | true =>
      have HR : Hid (r = 29) := show _ = _ by rw [hr]; unfold mdy; rw [if_pos rfl, if_pos hl]
      rw [hl] at cL
      clear hr hl
      go_enter Tryd.func25, Tryd.ntmps25
      go_wp2_with fail
      refine (cL.out _).mono ?_
      rintro e w5 ⟨rfl, hw⟩; subst w5
      go_wp2_with fail
      go_ret
      exact ⟨by rw [HR.out]; rfl, rfl⟩
    | false =>
      have HR : Hid (r = 28) := show _ = _ by rw [hr]; unfold mdy; rw [if_pos rfl, if_neg (by rw [hl]; decide)]
      rw [hl] at cL
      clear hr hl
      go_enter Tryd.func25, Tryd.ntmps25
      go_wp2_with fail
      refine (cL.out _).mono ?_
      rintro e w5 ⟨rfl, hw⟩; subst w5
      go_wp2_with fail
      go_ret
      exact ⟨by rw [HR.out]; rfl, rfl⟩
  · have n2 : ((m : Int) == 2) = false := beq_eq_false_iff_ne.2 (by omega)
    by_cases h4 : m = 4 ∨ m = 6 ∨ m = 9 ∨ m = 11
    · have HR : Hid (r = 30) := show _ = _ by rw [hr]; unfold mdy; rw [if_neg h2, if_pos h4]
      clear hr h2 n2
      rcases h4 with rfl | rfl | rfl | rfl
      all_goals (
        go_enter Tryd.func25, Tryd.ntmps25
        go_wp2_with fail
        go_ret
        exact ⟨by rw [HR.out]; rfl, rfl⟩)
    · have HR : Hid (r = 31) := show _ = _ by rw [hr]; unfold mdy; rw [if_neg h2, if_neg h4]
      have n4 : ((m : Int) == 4) = false := beq_eq_false_iff_ne.2 (by omega)
      have n6 : ((m : Int) == 6) = false := beq_eq_false_iff_ne.2 (by omega)
      have n9 : ((m : Int) == 9) = false := beq_eq_false_iff_ne.2 (by omega)
      have n11 : ((m : Int) == 11) = false := beq_eq_false_iff_ne.2 (by omega)
      clear hr h2 h4
      go_enter Tryd.func25, Tryd.ntmps25
      go_wp2_with fail
      go_ret
      exact ⟨by rw [HR.out]; rfl, rfl⟩

set_option maxHeartbeats 1000000 in
theorem ahead_any (k : Nat) (hk : k ≤ 100000) (w : World) :
    Calls Tryd.prog 24 #[.int .i64 ((1970 + k : Nat) : Int)] w fun e w' => e = .returned (.int .i64 ((ys k : Nat) : Int)) ∧ w' = w := by
  have c1 := Lib.hid fun w => leaps_any (1969 + k) (by omega) w
  have c2 := Lib.hid fun w => leaps_any 1969 (by decide) w
  rw [lu_last] at c2
  have hl := lu_ys k
  have hle := lu_le (1969 + k)
  obtain ⟨y, hyy⟩ : ∃ y, y = 1970 + k := ⟨_, rfl⟩
  rw [← hyy]
  obtain ⟨z, hz⟩ : ∃ z, z = 1969 + k := ⟨_, rfl⟩
  rw [← hz] at c1 hl hle
  generalize ys k = r at *
  generalize lu z = a at *
  obtain ⟨p, hp⟩ : ∃ p, p = 365 * k := ⟨_, rfl⟩
  obtain ⟨q, hq⟩ : ∃ q, q = p + a := ⟨_, rfl⟩
  have f1 : (y : Int) - 1970 = (k : Int) := by omega
  have f2 : 365 * (k : Int) = (p : Int) := by omega
  have f3 : (y : Int) - 1 = (z : Int) := by omega
  have f4 : (p : Int) + (a : Int) = (q : Int) := by omega
  have f5 : (q : Int) - 477 = (r : Int) := by omega
  have b1 : k ≤ 4000000000000000000 := by omega
  have b2 : p ≤ 4000000000000000000 := by omega
  have b3 : z ≤ 4000000000000000000 := by omega
  have b4 : q ≤ 4000000000000000000 := by omega
  have b5 : r ≤ 4000000000000000000 := by omega
  clear hk hl hle hyy hz hp hq
  have v1 : wrap64 ((y : Int) - 1970) = (k : Int) := w64 f1 b1
  have v2 : wrap64 (365 * (k : Int)) = (p : Int) := w64 f2 b2
  have v3 : wrap64 ((y : Int) - 1) = (z : Int) := w64 f3 b3
  have v4 : wrap64 ((p : Int) + (a : Int)) = (q : Int) := w64 f4 b4
  have HV : Hid (wrap64 ((q : Int) - 477) = (r : Int)) := w64 f5 b5
  clear f1 f2 f3 f4 f5 b1 b2 b3 b4 b5
  go_enter Tryd.func24, Tryd.ntmps24
  go_wp2_with fail
  refine (c1.out _).mono ?_
  rintro e w1 ⟨rfl, hw⟩; subst w1
  go_wp2_with fail
  refine (c2.out _).mono ?_
  rintro e w1 ⟨rfl, hw⟩; subst w1
  go_wp2_with fail
  go_ret
  exact ⟨by first | rfl | (rw [HV.out]; rfl), rfl⟩
end Go.Proofs.YthkcaogohkgheaaDoor
