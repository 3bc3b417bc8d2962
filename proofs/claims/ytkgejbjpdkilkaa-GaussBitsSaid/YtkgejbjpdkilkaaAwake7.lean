/-
  The law's first question (what the document's examples tell) is answered true; is a part small? No condition.
-/
import Derived.Test.YtkgejbjpdkilkaaGaussC
namespace Go.Proofs.Ytkgejbjpdkilkaa
open Go.RowKit

theorem whole_int_small {a : Int} (h : Small a) : Whole (floatOfInt .f64 a) a := whole_of_int a (by have := h.1; have := h.2; omega)
theorem whole_int_great {a : Int} (h : Great a) : Whole (floatOfInt .f64 a) a := whole_of_int a (by have := h.1; have := h.2; omega)

set_option maxHeartbeats 1000000 in
theorem awake_any (w : World) : Calls Try.prog 9 #[] w fun e w' => e = .returned (.bool true) ∧ w' = w := by
  have s1 : Small 1 := ⟨by decide, by decide⟩
  have s2 : Small 2 := ⟨by decide, by decide⟩
  have s3 : Small 3 := ⟨by decide, by decide⟩
  have sm : Small (-1) := ⟨by decide, by decide⟩
  have s0 : Small 0 := ⟨by decide, by decide⟩
  obtain ⟨p, q, hT, h1, h2⟩ := times_any (whole_int_small s1) (whole_int_small s2) (whole_int_small s3) (whole_int_small sm) s1 s2 s3 sm
  have hP := parts_yes (h1.cast (show _ = 5 by decide)) (h2.cast (show _ = 5 by decide)) ⟨by decide, by decide⟩ ⟨by decide, by decide⟩
  obtain ⟨r, s, hR, h3, h4⟩ := turn_any (-1) (whole_int_small s1) (whole_int_small s0) s1.great s0.great
  have hS := parts_yes (h3.cast (show _ = 0 by decide)) (h4.cast (show _ = -1 by decide)) ⟨by decide, by decide⟩ ⟨by decide, by decide⟩
  have c1 := Lib.hid (of_small s1 s2); have c2 := Lib.hid (of_small s3 sm); have c3 := Lib.hid (of_small s1 s0)
  have cT := Lib.hid hT; have cP := Lib.hid hP; have cR := Lib.hid hR; have cS := Lib.hid hS
  clear hT h1 h2 hP hR h3 h4 hS
  go_enter Try.func9, Try.ntmps9
  go_wp2_with fail
  refine (c1.out _).mono ?_
  rintro e w1 ⟨rfl, hw⟩; subst w1
  go_wp2_with fail
  refine (c2.out _).mono ?_
  rintro e w1 ⟨rfl, hw⟩; subst w1
  go_wp2_with fail
  refine (cT.out _).mono ?_
  rintro e w1 ⟨rfl, hw⟩; subst w1
  go_wp2_with fail
  refine (cP.out _).mono ?_
  rintro e w1 ⟨rfl, hw⟩; subst w1
  go_wp2_with fail
  refine (c3.out _).mono ?_
  rintro e w1 ⟨rfl, hw⟩; subst w1
  go_wp2_with fail
  refine (cR.out _).mono ?_
  rintro e w1 ⟨rfl, hw⟩; subst w1
  go_wp2_with fail
  refine (cS.out _).mono ?_
  rintro e w1 ⟨rfl, hw⟩; subst w1
  go_wp2_with fail
  go_ret
  exact ⟨rfl, rfl⟩

instance (a : Int) : Decidable (Small a) := inferInstanceAs (Decidable (_ ∧ _))

set_option maxHeartbeats 400000 in
theorem small_any (a : Int) (w : World) : Calls Try.prog 12 #[.int .i64 a] w fun e w' => e = .returned (.bool (decide (Small a))) ∧ w' = w := by
  by_cases h1 : -33554432 ≤ a
  · by_cases h2 : a ≤ 33554432
    · have t1 : decide (-33554432 ≤ a) = true := by simpa using h1
      have t2 : decide (a ≤ 33554432) = true := by simpa using h2
      rw [show decide (Small a) = true from decide_eq_true ⟨h1, h2⟩]
      go_enter Try.func12, Try.ntmps12
      go_wp2
      go_ret
      exact ⟨rfl, rfl⟩
    · have t1 : decide (-33554432 ≤ a) = true := by simpa using h1
      have t2 : decide (a ≤ 33554432) = false := by simpa using h2
      rw [show decide (Small a) = false from decide_eq_false fun h => h2 h.2]
      go_enter Try.func12, Try.ntmps12
      go_wp2
      go_ret
      exact ⟨rfl, rfl⟩
  · have t1 : decide (-33554432 ≤ a) = false := by simpa using h1
    rw [show decide (Small a) = false from decide_eq_false fun h => h1 h.1]
    go_enter Try.func12, Try.ntmps12
    go_wp2
    go_ret
    exact ⟨rfl, rfl⟩
theorem small_yes {a : Int} (h : Small a) (w : World) : Calls Try.prog 12 #[.int .i64 a] w fun e w' => e = .returned (.bool true) ∧ w' = w := by
  have := small_any a w
  rwa [decide_eq_true h] at this
theorem small_no {a : Int} (h : ¬ Small a) (w : World) : Calls Try.prog 12 #[.int .i64 a] w fun e w' => e = .returned (.bool false) ∧ w' = w := by
  have := small_any a w
  rwa [decide_eq_false h] at this

end Go.Proofs.Ytkgejbjpdkilkaa
