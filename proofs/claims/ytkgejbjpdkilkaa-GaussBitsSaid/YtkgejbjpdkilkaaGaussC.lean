/-
  gauss.Quo, of small ones: the whole quotient, or none. No condition beyond what each contract says.
-/
import Derived.Test.YtkgejbjpdkilkaaGaussB
namespace Go.Proofs.Ytkgejbjpdkilkaa
open Go.RowKit

set_option maxHeartbeats 400000 in
theorem quo_zero {x y u v : Nat} (c1 : ∀ w, Calls Try.prog 19 #[.complex .f64 u v] w fun e w' => e = .returned (.int .i64 0) ∧ w' = w) (w : World) :
    Calls Try.prog 18 #[.complex .f64 x y, .complex .f64 u v] w fun e w' => e = .returned (.tuple #[.complex .f64 0 0, .bool false]) ∧ ∃ m, w' = w.drewN m := by
  replace c1 := Lib.hid c1
  go_enter Try.func18, Try.ntmps18
  go_wp2_with fail
  refine (c1.out _).mono ?_
  rintro e w1 ⟨rfl, hw⟩; subst w1
  go_wp2_with fail
  go_ret2
  exact ⟨rfl, 0, rfl⟩

set_option maxHeartbeats 400000 in
theorem quo_no1 {x y u v re im : Nat} {n p q r1 : Int} (w : World)
    (c1 : Hid (∀ w, Calls Try.prog 19 #[.complex .f64 u v] w fun e w' => e = .returned (.int .i64 n) ∧ w' = w))
    (c2 : Hid (∀ w, Calls Try.prog 20 #[.complex .f64 x y, .float .f64 4719772409484279808] w fun e w' => e = .returned (.bool true) ∧ w' = w))
    (c3 : Hid (∀ w, Calls Try.prog 10 #[.complex .f64 re im] w fun e w' => e = .returned (.tuple #[.int .i64 p, .int .i64 q, .bool true]) ∧ w' = w))
    (hm : ∀ w, (binOp .mul 25 (.complex .f64 x y) (.complex .f64 u (Op.negFloat .f64 v))).run Try.prog w = .ok (.complex .f64 re im) w)
    (n0 : (n == 0) = false) (n1 : ¬ n = 0) (k1 : p.tmod n = r1) (e1 : ¬ r1 = 0) :
    Calls Try.prog 18 #[.complex .f64 x y, .complex .f64 u v] w fun e w' => e = .returned (.tuple #[.complex .f64 0 0, .bool false]) ∧ ∃ m, w' = w.drewN m := by
  go_enter Try.func18, Try.ntmps18
  go_wp2_with fail
  refine (c1.out _).mono ?_
  rintro e w1 ⟨rfl, hw⟩; subst w1
  go_wp2_with fail
  refine (c2.out _).mono ?_
  rintro e w1 ⟨rfl, hw⟩; subst w1
  go_wp2_with fail
  refine (mirror_any _ _ _).mono ?_
  rintro e w1 ⟨rfl, hw⟩; subst w1
  go_wp2_with fail
  refine (c3.out _).mono ?_
  rintro e w1 ⟨rfl, hw⟩; subst w1
  go_wp2_with fail
  go_ret2
  exact ⟨rfl, 0, rfl⟩

set_option maxHeartbeats 400000 in
theorem quo_no2 {x y u v re im : Nat} {n p q r2 : Int} (w : World)
    (c1 : Hid (∀ w, Calls Try.prog 19 #[.complex .f64 u v] w fun e w' => e = .returned (.int .i64 n) ∧ w' = w))
    (c2 : Hid (∀ w, Calls Try.prog 20 #[.complex .f64 x y, .float .f64 4719772409484279808] w fun e w' => e = .returned (.bool true) ∧ w' = w))
    (c3 : Hid (∀ w, Calls Try.prog 10 #[.complex .f64 re im] w fun e w' => e = .returned (.tuple #[.int .i64 p, .int .i64 q, .bool true]) ∧ w' = w))
    (hm : ∀ w, (binOp .mul 25 (.complex .f64 x y) (.complex .f64 u (Op.negFloat .f64 v))).run Try.prog w = .ok (.complex .f64 re im) w)
    (n0 : (n == 0) = false) (n1 : ¬ n = 0) (k1 : p.tmod n = 0) (k2 : q.tmod n = r2) (e2 : ¬ r2 = 0) :
    Calls Try.prog 18 #[.complex .f64 x y, .complex .f64 u v] w fun e w' => e = .returned (.tuple #[.complex .f64 0 0, .bool false]) ∧ ∃ m, w' = w.drewN m := by
  go_enter Try.func18, Try.ntmps18
  go_wp2_with fail
  refine (c1.out _).mono ?_
  rintro e w1 ⟨rfl, hw⟩; subst w1
  go_wp2_with fail
  refine (c2.out _).mono ?_
  rintro e w1 ⟨rfl, hw⟩; subst w1
  go_wp2_with fail
  refine (mirror_any _ _ _).mono ?_
  rintro e w1 ⟨rfl, hw⟩; subst w1
  go_wp2_with fail
  refine (c3.out _).mono ?_
  rintro e w1 ⟨rfl, hw⟩; subst w1
  go_wp2_with fail
  go_ret2
  exact ⟨rfl, 0, rfl⟩

set_option maxHeartbeats 400000 in
theorem quo_yes {x y u v re im : Nat} {n p q q1 q2 : Int} (w : World)
    (c1 : Hid (∀ w, Calls Try.prog 19 #[.complex .f64 u v] w fun e w' => e = .returned (.int .i64 n) ∧ w' = w))
    (c2 : Hid (∀ w, Calls Try.prog 20 #[.complex .f64 x y, .float .f64 4719772409484279808] w fun e w' => e = .returned (.bool true) ∧ w' = w))
    (c3 : Hid (∀ w, Calls Try.prog 10 #[.complex .f64 re im] w fun e w' => e = .returned (.tuple #[.int .i64 p, .int .i64 q, .bool true]) ∧ w' = w))
    (hm : ∀ w, (binOp .mul 25 (.complex .f64 x y) (.complex .f64 u (Op.negFloat .f64 v))).run Try.prog w = .ok (.complex .f64 re im) w)
    (n0 : (n == 0) = false) (n1 : ¬ n = 0) (k1 : p.tmod n = 0) (k2 : q.tmod n = 0) (k3 : wrap64 (p.tdiv n) = q1) (k4 : wrap64 (q.tdiv n) = q2) :
    Calls Try.prog 18 #[.complex .f64 x y, .complex .f64 u v] w fun e w' => e = .returned (.tuple #[.complex .f64 (floatOfInt .f64 q1) (floatOfInt .f64 q2), .bool true]) ∧ ∃ m, w' = w.drewN m := by
  go_enter Try.func18, Try.ntmps18
  go_wp2_with fail
  refine (c1.out _).mono ?_
  rintro e w1 ⟨rfl, hw⟩; subst w1
  go_wp2_with fail
  refine (c2.out _).mono ?_
  rintro e w1 ⟨rfl, hw⟩; subst w1
  go_wp2_with fail
  refine (mirror_any _ _ _).mono ?_
  rintro e w1 ⟨rfl, hw⟩; subst w1
  go_wp2_with fail
  refine (c3.out _).mono ?_
  rintro e w1 ⟨rfl, hw⟩; subst w1
  go_wp2_with fail
  go_quiet (fail)
  go_wp2_with fail
  go_ret2
  exact ⟨rfl, nq, rfl⟩

theorem in64 {n : Int} (h : -9223372036854775808 ≤ n ∧ n ≤ 9223372036854775807) : wrap64 n = n := by unfold wrap64; omega
theorem tdiv_abs (p n : Int) : (p.tdiv n).natAbs ≤ p.natAbs := by
  rw [Int.natAbs_tdiv]
  exact Nat.div_le_self _ _

/-- Quo, of small ones: none. -/
theorem quo_none {x y u v : Nat} {a b c d : Int} (ha : Whole x a) (hb : Whole y b) (hc : Whole u c) (hd : Whole v d) (sa : Small a) (sb : Small b) (sc : Small c) (sd : Small d)
    (h : c * c + d * d = 0 ∨ ¬ (a * c + b * d).tmod (c * c + d * d) = 0 ∨ ¬ (b * c - a * d).tmod (c * c + d * d) = 0) (w : World) :
    Calls Try.prog 18 #[.complex .f64 x y, .complex .f64 u v] w fun e w' => e = .returned (.tuple #[.complex .f64 0 0, .bool false]) ∧ ∃ m, w' = w.drewN m := by
  have c1 := norm_any hc hd sc sd
  by_cases h0 : c * c + d * d = 0
  · rw [h0] at c1
    exact quo_zero c1 w
  · obtain ⟨re, im, hm, h1, h2⟩ := ha.small_times hb hc hd.neg sa sb sc sd.neg
    have g := small_product sa sb sc sd.neg
    have e1 : a * c - b * -d = a * c + b * d := by rw [Int.mul_neg]; omega
    have e2 : a * -d + b * c = b * c - a * d := by rw [Int.mul_neg]; omega
    rw [e1] at h1 g
    rw [e2] at h2 g
    have c2 := within_yes ha hb whole_small (by decide) sa.1 sa.2 sb.1 sb.2
    have c3 := parts_yes h1 h2 g.1 g.2
    have hw : ∀ w, (binOp .mul 25 (.complex .f64 x y) (.complex .f64 u (Op.negFloat .f64 v))).run Try.prog w = .ok (.complex .f64 re im) w := fun w => run_complex_mul w _ _ _ _ _ _ _ hm
    by_cases k1 : (a * c + b * d).tmod (c * c + d * d) = 0
    · exact quo_no2 w (Lib.hid c1) (Lib.hid c2) (Lib.hid c3) hw (by simpa using h0) h0 k1 rfl (by
        rcases h with h | h | h
        · exact (h0 h).elim
        · exact (h k1).elim
        · exact h)
    · exact quo_no1 w (Lib.hid c1) (Lib.hid c2) (Lib.hid c3) hw (by simpa using h0) h0 rfl k1

/-- Quo, of small ones: the quotient. -/
theorem quo_some {x y u v : Nat} {a b c d : Int} (ha : Whole x a) (hb : Whole y b) (hc : Whole u c) (hd : Whole v d) (sa : Small a) (sb : Small b) (sc : Small c) (sd : Small d)
    (h0 : ¬ c * c + d * d = 0) (k1 : (a * c + b * d).tmod (c * c + d * d) = 0) (k2 : (b * c - a * d).tmod (c * c + d * d) = 0) (w : World) :
    Calls Try.prog 18 #[.complex .f64 x y, .complex .f64 u v] w fun e w' => e = .returned (.tuple #[.complex .f64 (floatOfInt .f64 ((a * c + b * d).tdiv (c * c + d * d))) (floatOfInt .f64 ((b * c - a * d).tdiv (c * c + d * d))), .bool true]) ∧ ∃ m, w' = w.drewN m := by
  have c1 := norm_any hc hd sc sd
  obtain ⟨re, im, hm, h1, h2⟩ := ha.small_times hb hc hd.neg sa sb sc sd.neg
  have g := small_product sa sb sc sd.neg
  have e1 : a * c - b * -d = a * c + b * d := by rw [Int.mul_neg]; omega
  have e2 : a * -d + b * c = b * c - a * d := by rw [Int.mul_neg]; omega
  rw [e1] at h1 g
  rw [e2] at h2 g
  have c2 := within_yes ha hb whole_small (by decide) sa.1 sa.2 sb.1 sb.2
  have c3 := parts_yes h1 h2 g.1 g.2
  have hw : ∀ w, (binOp .mul 25 (.complex .f64 x y) (.complex .f64 u (Op.negFloat .f64 v))).run Try.prog w = .ok (.complex .f64 re im) w := fun w => run_complex_mul w _ _ _ _ _ _ _ hm
  obtain ⟨⟨l1, r1⟩, l2, r2⟩ := g
  have t1 := tdiv_abs (a * c + b * d) (c * c + d * d)
  have t2 := tdiv_abs (b * c - a * d) (c * c + d * d)
  exact quo_yes w (Lib.hid c1) (Lib.hid c2) (Lib.hid c3) hw (by simpa using h0) h0 k1 k2 (in64 (by omega)) (in64 (by omega))

end Go.Proofs.Ytkgejbjpdkilkaa
