/-
  The law GaussNorms, walked: it returns true and writes nothing that was there; for all parts.
-/
import Derived.Test.YtkgejbjpdkilkaaStruct7
namespace Go.Proofs.Ytkgejbjpdkilkaa
open Go.RowKit

set_option maxHeartbeats 1000000 in
theorem norms7_small (a b c d m1 m2 m3 m4 n m p q s : Int) (re im r2 i2 x y u v : Nat) (w : World)
    (h1 : wrap64 (a * a) = m1) (h2 : wrap64 (b * b) = m2) (h3 : wrap64 (c * c) = m3) (h4 : wrap64 (d * d) = m4) (h5 : wrap64 (m1 + m2) = n) (h6 : wrap64 (m3 + m4) = m)
    (cF : Hid (∀ w, Calls Try.prog 16 #[.agg #[.int .i64 a, .int .i64 b, .int .i64 c, .int .i64 d]] w fun e w' => e = .returned (.bool true) ∧ Below w.heap.size w w'))
    (cA : Hid (∀ w, Calls Try.prog 11 #[.int .i64 a, .int .i64 b] w fun e w' => e = .returned (.complex .f64 x y) ∧ w' = w))
    (cB : Hid (∀ w, Calls Try.prog 11 #[.int .i64 c, .int .i64 d] w fun e w' => e = .returned (.complex .f64 u v) ∧ w' = w))
    (cT : Hid (∀ w, Calls Try.prog 17 #[.complex .f64 x y, .complex .f64 u v] w fun e w' => e = .returned (.complex .f64 re im) ∧ w' = w))
    (cP : Hid (∀ w, Calls Try.prog 10 #[.complex .f64 re im] w fun e w' => e = .returned (.tuple #[.int .i64 p, .int .i64 q, .bool true]) ∧ w' = w))
    (cN : Hid (∀ w, Calls Try.prog 19 #[.complex .f64 x y] w fun e w' => e = .returned (.int .i64 n) ∧ w' = w))
    (cM : Hid (∀ w, Calls Try.prog 19 #[.complex .f64 u v] w fun e w' => e = .returned (.int .i64 m) ∧ w' = w))
    (cR : Hid (∀ w, Calls Try.prog 15 #[.complex .f64 x y, .int .i64 c] w fun e w' => e = .returned (.complex .f64 r2 i2) ∧ w' = w))
    (cS : Hid (∀ w, Calls Try.prog 19 #[.complex .f64 r2 i2] w fun e w' => e = .returned (.int .i64 n) ∧ w' = w))
    (cU : Hid (∀ w, Calls Try.prog 19 #[.complex .f64 re im] w fun e w' => e = .returned (.int .i64 s) ∧ w' = w))
    (cV : Hid (∀ w, Calls Try.prog 12 #[.int .i64 p] w fun e w' => e = .returned (.bool true) ∧ w' = w))
    (cW : Hid (∀ w, Calls Try.prog 12 #[.int .i64 q] w fun e w' => e = .returned (.bool true) ∧ w' = w))
    (h7 : wrap64 (n * m) = s) :
    Calls Try.prog 8 #[.agg #[.int .i64 a, .int .i64 b, .int .i64 c, .int .i64 d]] w fun e w' => e = .returned (.bool true) ∧ Below w.heap.size w w' := by
  go_enter Try.func8, Try.ntmps8
  go_wp2_with fail
  refine (awake_any _).mono ?_
  rintro e w1 ⟨rfl, hw⟩; subst w1
  go_wp2_with fail
  refine (cF.out _).mono ?_
  rintro e w1 ⟨rfl, B1⟩
  have T1 := (two_at w 38 a b c d).keep B1
  have L1 : Below w.heap.size w w1 := ((Below.refl _ _).alloc (by simp) _).trans (B1.mono (by simp))
  obtain ⟨k0, k1, k2, k3⟩ := T1
  have HL := Lib.hid L1
  clear B1 L1 cF
  generalize w.heap.size = g at k0 k1 k2 k3 ⊢
  go_wp2_with fail
  go_quiet (first | (go_at_call 11; first | with_reducible exact Calls.quiet_of_same (cA.out _) | with_reducible exact Calls.quiet_of_same (cB.out _)))
  have HD : Hid (Below w.heap.size w (w1.drewN nq)) := ⟨HL.out.os, HL.out.tape, HL.out.output, HL.out.size, HL.out.block⟩
  have l0 : (w1.drewN nq).cell? ⟨g, 0, none⟩ = some (.int .i64 a) := k0
  have l1 : (w1.drewN nq).cell? ⟨g, 1, none⟩ = some (.int .i64 b) := k1
  have l2 : (w1.drewN nq).cell? ⟨g, 2, none⟩ = some (.int .i64 c) := k2
  have l3 : (w1.drewN nq).cell? ⟨g, 3, none⟩ = some (.int .i64 d) := k3
  clear k0 k1 k2 k3 HL cA cB
  generalize w1.drewN nq = wd at l0 l1 l2 l3 HD ⊢
  clear nq
  go_wp2_with fail
  go_quiet (fail)
  have HE : Hid (Below w.heap.size w (wd.drewN nq)) := ⟨HD.out.os, HD.out.tape, HD.out.output, HD.out.size, HD.out.block⟩
  have q2 : (wd.drewN nq).cell? ⟨g, 2, none⟩ = some (.int .i64 c) := l2
  clear l0 l1 l2 l3 HD
  generalize wd.drewN nq = we at q2 HE ⊢
  clear nq
  go_wp2_with fail
  refine (cT.out _).mono ?_
  rintro e w2 ⟨rfl, hw⟩; subst w2
  go_wp2_with fail
  refine (cP.out _).mono ?_
  rintro e w2 ⟨rfl, hw⟩; subst w2
  go_wp2_with fail
  refine (cN.out _).mono ?_
  rintro e w2 ⟨rfl, hw⟩; subst w2
  go_wp2_with fail
  refine (cM.out _).mono ?_
  rintro e w2 ⟨rfl, hw⟩; subst w2
  go_wp2_with fail
  refine (cR.out _).mono ?_
  rintro e w2 ⟨rfl, hw⟩; subst w2
  go_wp2_with fail
  refine (cS.out _).mono ?_
  rintro e w2 ⟨rfl, hw⟩; subst w2
  go_wp2_with fail
  refine (cV.out _).mono ?_
  rintro e w2 ⟨rfl, hw⟩; subst w2
  go_wp2_with fail
  refine (cW.out _).mono ?_
  rintro e w2 ⟨rfl, hw⟩; subst w2
  go_wp2_with fail
  refine (cU.out _).mono ?_
  rintro e w2 ⟨rfl, hw⟩; subst w2
  go_wp2_with fail
  go_ret
  exact ⟨by simp, HE.out⟩

set_option maxHeartbeats 1000000 in
theorem norms7_right (a b c d m1 m2 m3 m4 n m p q s : Int) (re im r2 i2 x y u v : Nat) (w : World)
    (h1 : wrap64 (a * a) = m1) (h2 : wrap64 (b * b) = m2) (h3 : wrap64 (c * c) = m3) (h4 : wrap64 (d * d) = m4) (h5 : wrap64 (m1 + m2) = n) (h6 : wrap64 (m3 + m4) = m)
    (cF : Hid (∀ w, Calls Try.prog 16 #[.agg #[.int .i64 a, .int .i64 b, .int .i64 c, .int .i64 d]] w fun e w' => e = .returned (.bool true) ∧ Below w.heap.size w w'))
    (cA : Hid (∀ w, Calls Try.prog 11 #[.int .i64 a, .int .i64 b] w fun e w' => e = .returned (.complex .f64 x y) ∧ w' = w))
    (cB : Hid (∀ w, Calls Try.prog 11 #[.int .i64 c, .int .i64 d] w fun e w' => e = .returned (.complex .f64 u v) ∧ w' = w))
    (cT : Hid (∀ w, Calls Try.prog 17 #[.complex .f64 x y, .complex .f64 u v] w fun e w' => e = .returned (.complex .f64 re im) ∧ w' = w))
    (cP : Hid (∀ w, Calls Try.prog 10 #[.complex .f64 re im] w fun e w' => e = .returned (.tuple #[.int .i64 p, .int .i64 q, .bool true]) ∧ w' = w))
    (cN : Hid (∀ w, Calls Try.prog 19 #[.complex .f64 x y] w fun e w' => e = .returned (.int .i64 n) ∧ w' = w))
    (cM : Hid (∀ w, Calls Try.prog 19 #[.complex .f64 u v] w fun e w' => e = .returned (.int .i64 m) ∧ w' = w))
    (cR : Hid (∀ w, Calls Try.prog 15 #[.complex .f64 x y, .int .i64 c] w fun e w' => e = .returned (.complex .f64 r2 i2) ∧ w' = w))
    (cS : Hid (∀ w, Calls Try.prog 19 #[.complex .f64 r2 i2] w fun e w' => e = .returned (.int .i64 n) ∧ w' = w))
    (cU : Hid (∀ w, Calls Try.prog 19 #[.complex .f64 re im] w fun e w' => e = .returned (.int .i64 s) ∧ w' = w))
    (cV : Hid (∀ w, Calls Try.prog 12 #[.int .i64 p] w fun e w' => e = .returned (.bool true) ∧ w' = w))
    (cW : Hid (∀ w, Calls Try.prog 12 #[.int .i64 q] w fun e w' => e = .returned (.bool false) ∧ w' = w))
    (h7 : Hid (s = 0)) :
    Calls Try.prog 8 #[.agg #[.int .i64 a, .int .i64 b, .int .i64 c, .int .i64 d]] w fun e w' => e = .returned (.bool true) ∧ Below w.heap.size w w' := by
  go_enter Try.func8, Try.ntmps8
  go_wp2_with fail
  refine (awake_any _).mono ?_
  rintro e w1 ⟨rfl, hw⟩; subst w1
  go_wp2_with fail
  refine (cF.out _).mono ?_
  rintro e w1 ⟨rfl, B1⟩
  have T1 := (two_at w 38 a b c d).keep B1
  have L1 : Below w.heap.size w w1 := ((Below.refl _ _).alloc (by simp) _).trans (B1.mono (by simp))
  obtain ⟨k0, k1, k2, k3⟩ := T1
  have HL := Lib.hid L1
  clear B1 L1 cF
  generalize w.heap.size = g at k0 k1 k2 k3 ⊢
  go_wp2_with fail
  go_quiet (first | (go_at_call 11; first | with_reducible exact Calls.quiet_of_same (cA.out _) | with_reducible exact Calls.quiet_of_same (cB.out _)))
  have HD : Hid (Below w.heap.size w (w1.drewN nq)) := ⟨HL.out.os, HL.out.tape, HL.out.output, HL.out.size, HL.out.block⟩
  have l0 : (w1.drewN nq).cell? ⟨g, 0, none⟩ = some (.int .i64 a) := k0
  have l1 : (w1.drewN nq).cell? ⟨g, 1, none⟩ = some (.int .i64 b) := k1
  have l2 : (w1.drewN nq).cell? ⟨g, 2, none⟩ = some (.int .i64 c) := k2
  have l3 : (w1.drewN nq).cell? ⟨g, 3, none⟩ = some (.int .i64 d) := k3
  clear k0 k1 k2 k3 HL cA cB
  generalize w1.drewN nq = wd at l0 l1 l2 l3 HD ⊢
  clear nq
  go_wp2_with fail
  go_quiet (fail)
  have HE : Hid (Below w.heap.size w (wd.drewN nq)) := ⟨HD.out.os, HD.out.tape, HD.out.output, HD.out.size, HD.out.block⟩
  have q2 : (wd.drewN nq).cell? ⟨g, 2, none⟩ = some (.int .i64 c) := l2
  clear l0 l1 l2 l3 HD
  generalize wd.drewN nq = we at q2 HE ⊢
  clear nq
  go_wp2_with fail
  refine (cT.out _).mono ?_
  rintro e w2 ⟨rfl, hw⟩; subst w2
  go_wp2_with fail
  refine (cP.out _).mono ?_
  rintro e w2 ⟨rfl, hw⟩; subst w2
  go_wp2_with fail
  refine (cN.out _).mono ?_
  rintro e w2 ⟨rfl, hw⟩; subst w2
  go_wp2_with fail
  refine (cM.out _).mono ?_
  rintro e w2 ⟨rfl, hw⟩; subst w2
  go_wp2_with fail
  refine (cR.out _).mono ?_
  rintro e w2 ⟨rfl, hw⟩; subst w2
  go_wp2_with fail
  refine (cS.out _).mono ?_
  rintro e w2 ⟨rfl, hw⟩; subst w2
  go_wp2_with fail
  refine (cV.out _).mono ?_
  rintro e w2 ⟨rfl, hw⟩; subst w2
  go_wp2_with fail
  refine (cW.out _).mono ?_
  rintro e w2 ⟨rfl, hw⟩; subst w2
  go_wp2_with fail
  refine (cU.out _).mono ?_
  rintro e w2 ⟨rfl, hw⟩; subst w2
  go_wp2_with fail
  go_ret
  exact ⟨by simp [h7.out], HE.out⟩

set_option maxHeartbeats 1000000 in
theorem norms7_left (a b c d m1 m2 m3 m4 n m p q s : Int) (re im r2 i2 x y u v : Nat) (w : World)
    (h1 : wrap64 (a * a) = m1) (h2 : wrap64 (b * b) = m2) (h3 : wrap64 (c * c) = m3) (h4 : wrap64 (d * d) = m4) (h5 : wrap64 (m1 + m2) = n) (h6 : wrap64 (m3 + m4) = m)
    (cF : Hid (∀ w, Calls Try.prog 16 #[.agg #[.int .i64 a, .int .i64 b, .int .i64 c, .int .i64 d]] w fun e w' => e = .returned (.bool true) ∧ Below w.heap.size w w'))
    (cA : Hid (∀ w, Calls Try.prog 11 #[.int .i64 a, .int .i64 b] w fun e w' => e = .returned (.complex .f64 x y) ∧ w' = w))
    (cB : Hid (∀ w, Calls Try.prog 11 #[.int .i64 c, .int .i64 d] w fun e w' => e = .returned (.complex .f64 u v) ∧ w' = w))
    (cT : Hid (∀ w, Calls Try.prog 17 #[.complex .f64 x y, .complex .f64 u v] w fun e w' => e = .returned (.complex .f64 re im) ∧ w' = w))
    (cP : Hid (∀ w, Calls Try.prog 10 #[.complex .f64 re im] w fun e w' => e = .returned (.tuple #[.int .i64 p, .int .i64 q, .bool true]) ∧ w' = w))
    (cN : Hid (∀ w, Calls Try.prog 19 #[.complex .f64 x y] w fun e w' => e = .returned (.int .i64 n) ∧ w' = w))
    (cM : Hid (∀ w, Calls Try.prog 19 #[.complex .f64 u v] w fun e w' => e = .returned (.int .i64 m) ∧ w' = w))
    (cR : Hid (∀ w, Calls Try.prog 15 #[.complex .f64 x y, .int .i64 c] w fun e w' => e = .returned (.complex .f64 r2 i2) ∧ w' = w))
    (cS : Hid (∀ w, Calls Try.prog 19 #[.complex .f64 r2 i2] w fun e w' => e = .returned (.int .i64 n) ∧ w' = w))
    (cU : Hid (∀ w, Calls Try.prog 19 #[.complex .f64 re im] w fun e w' => e = .returned (.int .i64 s) ∧ w' = w))
    (cV : Hid (∀ w, Calls Try.prog 12 #[.int .i64 p] w fun e w' => e = .returned (.bool false) ∧ w' = w))
    (h7 : Hid (s = 0)) :
    Calls Try.prog 8 #[.agg #[.int .i64 a, .int .i64 b, .int .i64 c, .int .i64 d]] w fun e w' => e = .returned (.bool true) ∧ Below w.heap.size w w' := by
  go_enter Try.func8, Try.ntmps8
  go_wp2_with fail
  refine (awake_any _).mono ?_
  rintro e w1 ⟨rfl, hw⟩; subst w1
  go_wp2_with fail
  refine (cF.out _).mono ?_
  rintro e w1 ⟨rfl, B1⟩
  have T1 := (two_at w 38 a b c d).keep B1
  have L1 : Below w.heap.size w w1 := ((Below.refl _ _).alloc (by simp) _).trans (B1.mono (by simp))
  obtain ⟨k0, k1, k2, k3⟩ := T1
  have HL := Lib.hid L1
  clear B1 L1 cF
  generalize w.heap.size = g at k0 k1 k2 k3 ⊢
  go_wp2_with fail
  go_quiet (first | (go_at_call 11; first | with_reducible exact Calls.quiet_of_same (cA.out _) | with_reducible exact Calls.quiet_of_same (cB.out _)))
  have HD : Hid (Below w.heap.size w (w1.drewN nq)) := ⟨HL.out.os, HL.out.tape, HL.out.output, HL.out.size, HL.out.block⟩
  have l0 : (w1.drewN nq).cell? ⟨g, 0, none⟩ = some (.int .i64 a) := k0
  have l1 : (w1.drewN nq).cell? ⟨g, 1, none⟩ = some (.int .i64 b) := k1
  have l2 : (w1.drewN nq).cell? ⟨g, 2, none⟩ = some (.int .i64 c) := k2
  have l3 : (w1.drewN nq).cell? ⟨g, 3, none⟩ = some (.int .i64 d) := k3
  clear k0 k1 k2 k3 HL cA cB
  generalize w1.drewN nq = wd at l0 l1 l2 l3 HD ⊢
  clear nq
  go_wp2_with fail
  go_quiet (fail)
  have HE : Hid (Below w.heap.size w (wd.drewN nq)) := ⟨HD.out.os, HD.out.tape, HD.out.output, HD.out.size, HD.out.block⟩
  have q2 : (wd.drewN nq).cell? ⟨g, 2, none⟩ = some (.int .i64 c) := l2
  clear l0 l1 l2 l3 HD
  generalize wd.drewN nq = we at q2 HE ⊢
  clear nq
  go_wp2_with fail
  refine (cT.out _).mono ?_
  rintro e w2 ⟨rfl, hw⟩; subst w2
  go_wp2_with fail
  refine (cP.out _).mono ?_
  rintro e w2 ⟨rfl, hw⟩; subst w2
  go_wp2_with fail
  refine (cN.out _).mono ?_
  rintro e w2 ⟨rfl, hw⟩; subst w2
  go_wp2_with fail
  refine (cM.out _).mono ?_
  rintro e w2 ⟨rfl, hw⟩; subst w2
  go_wp2_with fail
  refine (cR.out _).mono ?_
  rintro e w2 ⟨rfl, hw⟩; subst w2
  go_wp2_with fail
  refine (cS.out _).mono ?_
  rintro e w2 ⟨rfl, hw⟩; subst w2
  go_wp2_with fail
  refine (cV.out _).mono ?_
  rintro e w2 ⟨rfl, hw⟩; subst w2
  go_wp2_with fail
  refine (cU.out _).mono ?_
  rintro e w2 ⟨rfl, hw⟩; subst w2
  go_wp2_with fail
  go_ret
  exact ⟨by simp [h7.out], HE.out⟩

set_option maxHeartbeats 400000 in
theorem norms7_else (a b c d : Int) (w : World)
    (cF : Hid (∀ w, Calls Try.prog 16 #[.agg #[.int .i64 a, .int .i64 b, .int .i64 c, .int .i64 d]] w fun e w' => e = .returned (.bool false) ∧ Below w.heap.size w w')) :
    Calls Try.prog 8 #[.agg #[.int .i64 a, .int .i64 b, .int .i64 c, .int .i64 d]] w fun e w' => e = .returned (.bool true) ∧ Below w.heap.size w w' := by
  go_enter Try.func8, Try.ntmps8
  go_wp2_with fail
  refine (awake_any _).mono ?_
  rintro e w1 ⟨rfl, hw⟩; subst w1
  go_wp2_with fail
  refine (cF.out _).mono ?_
  rintro e w1 ⟨rfl, B1⟩
  have L1 : Below w.heap.size w w1 := ((Below.refl _ _).alloc (by simp) _).trans (B1.mono (by simp))
  have HL := Lib.hid L1
  clear B1 L1
  go_wp2_with fail
  go_ret
  exact ⟨rfl, HL.out⟩

/-- Turns leave the Norm. -/
theorem turn_norm (r a b : Int) : turnRe r a b * turnRe r a b + turnIm r a b * turnIm r a b = a * a + b * b := by
  unfold turnRe turnIm
  repeat' split
  all_goals grind
theorem turn_small {r a b : Int} (sa : Small a) (sb : Small b) : Small (turnRe r a b) ∧ Small (turnIm r a b) := by
  obtain ⟨a1, a2⟩ := sa
  obtain ⟨b1, b2⟩ := sb
  unfold turnRe turnIm Small
  constructor <;> (repeat' split) <;> omega
/-- The Norm of a product. -/
theorem norm_product (a b c d : Int) : (a * a + b * b) * (c * c + d * d) = (a * c - b * d) * (a * c - b * d) + (a * d + b * c) * (a * d + b * c) := by grind

theorem norms7_any (a b c d : Int) (w : World) :
    Calls Try.prog 8 #[.agg #[.int .i64 a, .int .i64 b, .int .i64 c, .int .i64 d]] w fun e w' => e = .returned (.bool true) ∧ Below w.heap.size w w' := by
  by_cases h : Small a ∧ Small b ∧ Small c ∧ Small d
  · obtain ⟨sa, sb, sc, sd⟩ := h
    have m1 := small_mul sa.1 sa.2 sa.1 sa.2
    have m2 := small_mul sb.1 sb.2 sb.1 sb.2
    have m3 := small_mul sc.1 sc.2 sc.1 sc.2
    have m4 := small_mul sd.1 sd.2 sd.1 sd.2
    have wa := whole_int_small sa
    have wb := whole_int_small sb
    have wc := whole_int_small sc
    have wd := whole_int_small sd
    have cF := Lib.hid (fits_yes sa sb sc sd)
    have cA := Lib.hid (of_small sa sb)
    have cB := Lib.hid (of_small sc sd)
    have cN := Lib.hid (norm_any wa wb sa sb)
    have cM := Lib.hid (norm_any wc wd sc sd)
    obtain ⟨re, im, cT, h1, h2⟩ := times_any wa wb wc wd sa sb sc sd
    have g := small_product sa sb sc sd
    have cP := Lib.hid (parts_yes h1 h2 g.1 g.2)
    obtain ⟨r2, i2, cR, h3, h4⟩ := turn_any c wa wb sa.great sb.great
    have ts := turn_small (r := c % 4) sa sb
    have cS := norm_any h3 h4 ts.1 ts.2
    rw [turn_norm] at cS
    replace cS := Lib.hid cS
    replace cT := Lib.hid cT
    replace cR := Lib.hid cR
    have e := norm_product a b c d
    by_cases hp : Small (a * c - b * d)
    · by_cases hq : Small (a * d + b * c)
      · have k1 := small_mul hp.1 hp.2 hp.1 hp.2
        have k2 := small_mul hq.1 hq.2 hq.1 hq.2
        exact norms7_small a b c d _ _ _ _ (a * a + b * b) (c * c + d * d) _ _ _ _ _ _ _ _ _ _ _ w (in64 (by omega)) (in64 (by omega)) (in64 (by omega)) (in64 (by omega)) (in64 (by omega)) (in64 (by omega))
          cF cA cB cT cP cN cM cR cS (Lib.hid (norm_any h1 h2 hp hq)) (Lib.hid (small_yes hp)) (Lib.hid (small_yes hq)) (by rw [e]; exact in64 (by omega))
      · exact norms7_right a b c d _ _ _ _ (a * a + b * b) (c * c + d * d) _ _ _ _ _ _ _ _ _ _ _ w (in64 (by omega)) (in64 (by omega)) (in64 (by omega)) (in64 (by omega)) (in64 (by omega)) (in64 (by omega))
          cF cA cB cT cP cN cM cR cS (Lib.hid (norm_else h1 h2 (fun h => hq h.2))) (Lib.hid (small_yes hp)) (Lib.hid (small_no hq)) (Lib.hid rfl)
    · exact norms7_left a b c d _ _ _ _ (a * a + b * b) (c * c + d * d) _ _ _ _ _ _ _ _ _ _ _ w (in64 (by omega)) (in64 (by omega)) (in64 (by omega)) (in64 (by omega)) (in64 (by omega)) (in64 (by omega))
        cF cA cB cT cP cN cM cR cS (Lib.hid (norm_else h1 h2 (fun h => hp h.1))) (Lib.hid (small_no hp)) (Lib.hid rfl)
  · exact norms7_else a b c d w (Lib.hid (fits_no h))

end Go.Proofs.Ytkgejbjpdkilkaa
