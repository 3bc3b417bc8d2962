/-
  The law GaussTimes, walked: it returns true and writes nothing that was there; for all parts.
-/
import Derived.Test.YtkgejbjpdkilkaaStruct7
namespace Go.Proofs.Ytkgejbjpdkilkaa
open Go.RowKit

set_option maxHeartbeats 1000000 in
theorem times7_core (a b c d m1 m2 m3 m4 p q : Int) (re im re2 im2 x y u v : Nat) (w : World)
    (h1 : wrap64 (a * c) = m1) (h2 : wrap64 (b * d) = m2) (h3 : wrap64 (a * d) = m3) (h4 : wrap64 (b * c) = m4) (h5 : wrap64 (m1 - m2) = p) (h6 : wrap64 (m3 + m4) = q)
    (cF : Hid (∀ w, Calls Try.prog 16 #[.agg #[.int .i64 a, .int .i64 b, .int .i64 c, .int .i64 d]] w fun e w' => e = .returned (.bool true) ∧ Below w.heap.size w w'))
    (cA : Hid (∀ w, Calls Try.prog 11 #[.int .i64 a, .int .i64 b] w fun e w' => e = .returned (.complex .f64 x y) ∧ w' = w))
    (cB : Hid (∀ w, Calls Try.prog 11 #[.int .i64 c, .int .i64 d] w fun e w' => e = .returned (.complex .f64 u v) ∧ w' = w))
    (cT : Hid (∀ w, Calls Try.prog 17 #[.complex .f64 x y, .complex .f64 u v] w fun e w' => e = .returned (.complex .f64 re im) ∧ w' = w))
    (cU : Hid (∀ w, Calls Try.prog 17 #[.complex .f64 u v, .complex .f64 x y] w fun e w' => e = .returned (.complex .f64 re2 im2) ∧ w' = w))
    (cP : Hid (∀ w, Calls Try.prog 10 #[.complex .f64 re im] w fun e w' => e = .returned (.tuple #[.int .i64 p, .int .i64 q, .bool true]) ∧ w' = w))
    (cQ : Hid (∀ w, Calls Try.prog 10 #[.complex .f64 re2 im2] w fun e w' => e = .returned (.tuple #[.int .i64 p, .int .i64 q, .bool true]) ∧ w' = w)) :
    Calls Try.prog 6 #[.agg #[.int .i64 a, .int .i64 b, .int .i64 c, .int .i64 d]] w fun e w' => e = .returned (.bool true) ∧ Below w.heap.size w w' := by
  go_enter Try.func6, Try.ntmps6
  go_wp2_with fail
  refine (awake_any _).mono ?_
  rintro e w1 ⟨rfl, hw⟩; subst w1
  go_wp2_with fail
  refine (cF.out _).mono ?_
  rintro e w1 ⟨rfl, B1⟩
  have T1 := (two_at w 38 a b c d).keep B1
  have L1 : Below w.heap.size w w1 := ((Below.refl _ _).alloc (by simp) _).trans (B1.mono (by simp))
  obtain ⟨k0, k1, k2, k3⟩ := T1
  have HL := Lib.hid L1
  clear B1 L1 cF
  generalize w.heap.size = g at k0 k1 k2 k3 ⊢
  go_wp2_with fail
  go_quiet (first | (go_at_call 11; first | with_reducible exact Calls.quiet_of_same (cA.out _) | with_reducible exact Calls.quiet_of_same (cB.out _)))
  have HD : Hid (Below w.heap.size w (w1.drewN nq)) := ⟨HL.out.os, HL.out.tape, HL.out.output, HL.out.size, HL.out.block⟩
  have l0 : (w1.drewN nq).cell? ⟨g, 0, none⟩ = some (.int .i64 a) := k0
  have l1 : (w1.drewN nq).cell? ⟨g, 1, none⟩ = some (.int .i64 b) := k1
  have l2 : (w1.drewN nq).cell? ⟨g, 2, none⟩ = some (.int .i64 c) := k2
  have l3 : (w1.drewN nq).cell? ⟨g, 3, none⟩ = some (.int .i64 d) := k3
  clear k0 k1 k2 k3 HL cA cB
  generalize w1.drewN nq = wd at l0 l1 l2 l3 HD ⊢
  go_wp2_with fail
  refine (cT.out _).mono ?_
  rintro e w2 ⟨rfl, hw⟩; subst w2
  go_wp2_with fail
  refine (cP.out _).mono ?_
  rintro e w2 ⟨rfl, hw⟩; subst w2
  go_wp2_with fail
  refine (cU.out _).mono ?_
  rintro e w2 ⟨rfl, hw⟩; subst w2
  go_wp2_with fail
  refine (cQ.out _).mono ?_
  rintro e w2 ⟨rfl, hw⟩; subst w2
  go_wp2_with fail
  go_ret
  exact ⟨by simp, HD.out⟩

set_option maxHeartbeats 400000 in
theorem times7_else (a b c d : Int) (w : World)
    (cF : Hid (∀ w, Calls Try.prog 16 #[.agg #[.int .i64 a, .int .i64 b, .int .i64 c, .int .i64 d]] w fun e w' => e = .returned (.bool false) ∧ Below w.heap.size w w')) :
    Calls Try.prog 6 #[.agg #[.int .i64 a, .int .i64 b, .int .i64 c, .int .i64 d]] w fun e w' => e = .returned (.bool true) ∧ Below w.heap.size w w' := by
  go_enter Try.func6, Try.ntmps6
  go_wp2_with fail
  refine (awake_any _).mono ?_
  rintro e w1 ⟨rfl, hw⟩; subst w1
  go_wp2_with fail
  refine (cF.out _).mono ?_
  rintro e w1 ⟨rfl, B1⟩
  have L1 : Below w.heap.size w w1 := ((Below.refl _ _).alloc (by simp) _).trans (B1.mono (by simp))
  have HL := Lib.hid L1
  clear B1 L1
  go_wp2_with fail
  go_ret
  exact ⟨rfl, HL.out⟩

theorem times7_any (a b c d : Int) (w : World) :
    Calls Try.prog 6 #[.agg #[.int .i64 a, .int .i64 b, .int .i64 c, .int .i64 d]] w fun e w' => e = .returned (.bool true) ∧ Below w.heap.size w w' := by
  by_cases h : Small a ∧ Small b ∧ Small c ∧ Small d
  · obtain ⟨sa, sb, sc, sd⟩ := h
    obtain ⟨re, im, cT, h1, h2⟩ := times_any (whole_int_small sa) (whole_int_small sb) (whole_int_small sc) (whole_int_small sd) sa sb sc sd
    obtain ⟨re2, im2, cU, h3, h4⟩ := times_any (whole_int_small sc) (whole_int_small sd) (whole_int_small sa) (whole_int_small sb) sc sd sa sb
    have g := small_product sa sb sc sd
    have e1 : c * a - d * b = a * c - b * d := by rw [Int.mul_comm c, Int.mul_comm d]
    have e2 : c * b + d * a = a * d + b * c := by rw [Int.mul_comm c, Int.mul_comm d]; omega
    have m1 := small_mul sa.1 sa.2 sc.1 sc.2
    have m2 := small_mul sb.1 sb.2 sd.1 sd.2
    have m3 := small_mul sa.1 sa.2 sd.1 sd.2
    have m4 := small_mul sb.1 sb.2 sc.1 sc.2
    exact times7_core a b c d _ _ _ _ (a * c - b * d) (a * d + b * c) re im re2 im2 _ _ _ _ w (in64 (by omega)) (in64 (by omega)) (in64 (by omega)) (in64 (by omega)) (in64 (by omega)) (in64 (by omega))
      (Lib.hid (fits_yes sa sb sc sd)) (Lib.hid (of_small sa sb)) (Lib.hid (of_small sc sd)) (Lib.hid cT) (Lib.hid cU) (Lib.hid (parts_yes h1 h2 g.1 g.2)) (Lib.hid (parts_yes (h3.cast e1) (h4.cast e2) g.1 g.2))
  · exact times7_else a b c d w (Lib.hid (fits_no h))

end Go.Proofs.Ytkgejbjpdkilkaa
