/-
  The law GaussQuos, walked: it returns true and writes nothing that was there; for all parts.
-/
import Derived.Test.YtkgejbjpdkilkaaStruct7
namespace Go.Proofs.Ytkgejbjpdkilkaa
open Go.RowKit

set_option maxHeartbeats 1000000 in
theorem quos7_zero (a b c d m1 m2 m3 m4 m5 m6 n p q s t : Int) (re im x y u v : Nat) (w : World)
    (h1 : wrap64 (a * c) = m1) (h2 : wrap64 (b * d) = m2) (h3 : wrap64 (a * d) = m3) (h4 : wrap64 (b * c) = m4) (h5 : wrap64 (c * c) = m5) (h6 : wrap64 (d * d) = m6)
    (h7 : wrap64 (m5 + m6) = n) (h8 : wrap64 (m1 + m2) = p) (h9 : wrap64 (m4 - m3) = q)
    (hs : Hid (s = 0)) (ht : Hid (t = 0)) (n1 : decide (0 < n) = false)
    (cF : Hid (∀ w, Calls Try.prog 16 #[.agg #[.int .i64 a, .int .i64 b, .int .i64 c, .int .i64 d]] w fun e w' => e = .returned (.bool true) ∧ Below w.heap.size w w'))
    (cA : Hid (∀ w, Calls Try.prog 11 #[.int .i64 a, .int .i64 b] w fun e w' => e = .returned (.complex .f64 x y) ∧ w' = w))
    (cB : Hid (∀ w, Calls Try.prog 11 #[.int .i64 c, .int .i64 d] w fun e w' => e = .returned (.complex .f64 u v) ∧ w' = w))
    (cQ : Hid (∀ w, Calls Try.prog 18 #[.complex .f64 x y, .complex .f64 u v] w fun e w' => e = .returned (.tuple #[.complex .f64 re im, .bool false]) ∧ ∃ m, w' = w.drewN m))
    (cP : Hid (∀ w, Calls Try.prog 10 #[.complex .f64 re im] w fun e w' => e = .returned (.tuple #[.int .i64 s, .int .i64 t, .bool true]) ∧ w' = w)) :
    Calls Try.prog 7 #[.agg #[.int .i64 a, .int .i64 b, .int .i64 c, .int .i64 d]] w fun e w' => e = .returned (.bool true) ∧ Below w.heap.size w w' := by
  go_enter Try.func7, Try.ntmps7
  go_wp2_with fail
  refine (awake_any _).mono ?_
  rintro e w1 ⟨rfl, hw⟩; subst w1
  go_wp2_with fail
  refine (cF.out _).mono ?_
  rintro e w1 ⟨rfl, B1⟩
  have T1 := (two_at w 38 a b c d).keep B1
  have L1 : Below w.heap.size w w1 := ((Below.refl _ _).alloc (by simp) _).trans (B1.mono (by simp))
  obtain ⟨k0, k1, k2, k3⟩ := T1
  have HL := Lib.hid L1
  clear B1 L1 cF
  generalize w.heap.size = g at k0 k1 k2 k3 ⊢
  go_wp2_with fail
  go_quiet (first | (go_at_call 11; first | with_reducible exact Calls.quiet_of_same (cA.out _) | with_reducible exact Calls.quiet_of_same (cB.out _)) | (go_at_call 18; exact Calls.quiet_of (cQ.out _)))
  have HD : Hid (Below w.heap.size w (w1.drewN nq)) := ⟨HL.out.os, HL.out.tape, HL.out.output, HL.out.size, HL.out.block⟩
  have l0 : (w1.drewN nq).cell? ⟨g, 0, none⟩ = some (.int .i64 a) := k0
  have l1 : (w1.drewN nq).cell? ⟨g, 1, none⟩ = some (.int .i64 b) := k1
  have l2 : (w1.drewN nq).cell? ⟨g, 2, none⟩ = some (.int .i64 c) := k2
  have l3 : (w1.drewN nq).cell? ⟨g, 3, none⟩ = some (.int .i64 d) := k3
  clear k0 k1 k2 k3 HL cA cB cQ
  generalize w1.drewN nq = wd at l0 l1 l2 l3 HD ⊢
  clear nq
  go_wp2_with fail
  go_quiet (fail)
  have HE : Hid (Below w.heap.size w (wd.drewN nq)) := ⟨HD.out.os, HD.out.tape, HD.out.output, HD.out.size, HD.out.block⟩
  clear l0 l1 l2 l3 HD
  generalize wd.drewN nq = we at HE ⊢
  clear nq
  go_wp2_with fail
  refine (cP.out _).mono ?_
  rintro e w2 ⟨rfl, hw⟩; subst w2
  go_wp2_with fail
  go_ret
  exact ⟨by simp [hs.out, ht.out], HE.out⟩

set_option maxHeartbeats 1000000 in
theorem quos7_one (a b c d m1 m2 m3 m4 m5 m6 n p q s t r1 : Int) (re im x y u v : Nat) (w : World)
    (h1 : wrap64 (a * c) = m1) (h2 : wrap64 (b * d) = m2) (h3 : wrap64 (a * d) = m3) (h4 : wrap64 (b * c) = m4) (h5 : wrap64 (c * c) = m5) (h6 : wrap64 (d * d) = m6)
    (h7 : wrap64 (m5 + m6) = n) (h8 : wrap64 (m1 + m2) = p) (h9 : wrap64 (m4 - m3) = q)
    (hs : Hid (s = 0)) (ht : Hid (t = 0)) (n1 : decide (0 < n) = true) (n2 : ¬ n = 0) (k4 : p.tmod n = r1) (k5 : (r1 == 0) = false)
    (cF : Hid (∀ w, Calls Try.prog 16 #[.agg #[.int .i64 a, .int .i64 b, .int .i64 c, .int .i64 d]] w fun e w' => e = .returned (.bool true) ∧ Below w.heap.size w w'))
    (cA : Hid (∀ w, Calls Try.prog 11 #[.int .i64 a, .int .i64 b] w fun e w' => e = .returned (.complex .f64 x y) ∧ w' = w))
    (cB : Hid (∀ w, Calls Try.prog 11 #[.int .i64 c, .int .i64 d] w fun e w' => e = .returned (.complex .f64 u v) ∧ w' = w))
    (cQ : Hid (∀ w, Calls Try.prog 18 #[.complex .f64 x y, .complex .f64 u v] w fun e w' => e = .returned (.tuple #[.complex .f64 re im, .bool false]) ∧ ∃ m, w' = w.drewN m))
    (cP : Hid (∀ w, Calls Try.prog 10 #[.complex .f64 re im] w fun e w' => e = .returned (.tuple #[.int .i64 s, .int .i64 t, .bool true]) ∧ w' = w)) :
    Calls Try.prog 7 #[.agg #[.int .i64 a, .int .i64 b, .int .i64 c, .int .i64 d]] w fun e w' => e = .returned (.bool true) ∧ Below w.heap.size w w' := by
  go_enter Try.func7, Try.ntmps7
  go_wp2_with fail
  refine (awake_any _).mono ?_
  rintro e w1 ⟨rfl, hw⟩; subst w1
  go_wp2_with fail
  refine (cF.out _).mono ?_
  rintro e w1 ⟨rfl, B1⟩
  have T1 := (two_at w 38 a b c d).keep B1
  have L1 : Below w.heap.size w w1 := ((Below.refl _ _).alloc (by simp) _).trans (B1.mono (by simp))
  obtain ⟨k0, k1, k2, k3⟩ := T1
  have HL := Lib.hid L1
  clear B1 L1 cF
  generalize w.heap.size = g at k0 k1 k2 k3 ⊢
  go_wp2_with fail
  go_quiet (first | (go_at_call 11; first | with_reducible exact Calls.quiet_of_same (cA.out _) | with_reducible exact Calls.quiet_of_same (cB.out _)) | (go_at_call 18; exact Calls.quiet_of (cQ.out _)))
  have HD : Hid (Below w.heap.size w (w1.drewN nq)) := ⟨HL.out.os, HL.out.tape, HL.out.output, HL.out.size, HL.out.block⟩
  have l0 : (w1.drewN nq).cell? ⟨g, 0, none⟩ = some (.int .i64 a) := k0
  have l1 : (w1.drewN nq).cell? ⟨g, 1, none⟩ = some (.int .i64 b) := k1
  have l2 : (w1.drewN nq).cell? ⟨g, 2, none⟩ = some (.int .i64 c) := k2
  have l3 : (w1.drewN nq).cell? ⟨g, 3, none⟩ = some (.int .i64 d) := k3
  clear k0 k1 k2 k3 HL cA cB cQ
  generalize w1.drewN nq = wd at l0 l1 l2 l3 HD ⊢
  clear nq
  go_wp2_with fail
  go_quiet (fail)
  have HE : Hid (Below w.heap.size w (wd.drewN nq)) := ⟨HD.out.os, HD.out.tape, HD.out.output, HD.out.size, HD.out.block⟩
  clear l0 l1 l2 l3 HD
  generalize wd.drewN nq = we at HE ⊢
  clear nq
  go_wp2_with fail
  refine (cP.out _).mono ?_
  rintro e w2 ⟨rfl, hw⟩; subst w2
  go_wp2_with fail
  go_ret
  exact ⟨by simp [hs.out, ht.out], HE.out⟩

set_option maxHeartbeats 1000000 in
theorem quos7_two (a b c d m1 m2 m3 m4 m5 m6 n p q s t r2 : Int) (re im x y u v : Nat) (w : World)
    (h1 : wrap64 (a * c) = m1) (h2 : wrap64 (b * d) = m2) (h3 : wrap64 (a * d) = m3) (h4 : wrap64 (b * c) = m4) (h5 : wrap64 (c * c) = m5) (h6 : wrap64 (d * d) = m6)
    (h7 : wrap64 (m5 + m6) = n) (h8 : wrap64 (m1 + m2) = p) (h9 : wrap64 (m4 - m3) = q)
    (hs : Hid (s = 0)) (ht : Hid (t = 0)) (n1 : decide (0 < n) = true) (n2 : ¬ n = 0) (k4 : p.tmod n = 0) (k5 : q.tmod n = r2) (k6 : (r2 == 0) = false)
    (cF : Hid (∀ w, Calls Try.prog 16 #[.agg #[.int .i64 a, .int .i64 b, .int .i64 c, .int .i64 d]] w fun e w' => e = .returned (.bool true) ∧ Below w.heap.size w w'))
    (cA : Hid (∀ w, Calls Try.prog 11 #[.int .i64 a, .int .i64 b] w fun e w' => e = .returned (.complex .f64 x y) ∧ w' = w))
    (cB : Hid (∀ w, Calls Try.prog 11 #[.int .i64 c, .int .i64 d] w fun e w' => e = .returned (.complex .f64 u v) ∧ w' = w))
    (cQ : Hid (∀ w, Calls Try.prog 18 #[.complex .f64 x y, .complex .f64 u v] w fun e w' => e = .returned (.tuple #[.complex .f64 re im, .bool false]) ∧ ∃ m, w' = w.drewN m))
    (cP : Hid (∀ w, Calls Try.prog 10 #[.complex .f64 re im] w fun e w' => e = .returned (.tuple #[.int .i64 s, .int .i64 t, .bool true]) ∧ w' = w)) :
    Calls Try.prog 7 #[.agg #[.int .i64 a, .int .i64 b, .int .i64 c, .int .i64 d]] w fun e w' => e = .returned (.bool true) ∧ Below w.heap.size w w' := by
  go_enter Try.func7, Try.ntmps7
  go_wp2_with fail
  refine (awake_any _).mono ?_
  rintro e w1 ⟨rfl, hw⟩; subst w1
  go_wp2_with fail
  refine (cF.out _).mono ?_
  rintro e w1 ⟨rfl, B1⟩
  have T1 := (two_at w 38 a b c d).keep B1
  have L1 : Below w.heap.size w w1 := ((Below.refl _ _).alloc (by simp) _).trans (B1.mono (by simp))
  obtain ⟨k0, k1, k2, k3⟩ := T1
  have HL := Lib.hid L1
  clear B1 L1 cF
  generalize w.heap.size = g at k0 k1 k2 k3 ⊢
  go_wp2_with fail
  go_quiet (first | (go_at_call 11; first | with_reducible exact Calls.quiet_of_same (cA.out _) | with_reducible exact Calls.quiet_of_same (cB.out _)) | (go_at_call 18; exact Calls.quiet_of (cQ.out _)))
  have HD : Hid (Below w.heap.size w (w1.drewN nq)) := ⟨HL.out.os, HL.out.tape, HL.out.output, HL.out.size, HL.out.block⟩
  have l0 : (w1.drewN nq).cell? ⟨g, 0, none⟩ = some (.int .i64 a) := k0
  have l1 : (w1.drewN nq).cell? ⟨g, 1, none⟩ = some (.int .i64 b) := k1
  have l2 : (w1.drewN nq).cell? ⟨g, 2, none⟩ = some (.int .i64 c) := k2
  have l3 : (w1.drewN nq).cell? ⟨g, 3, none⟩ = some (.int .i64 d) := k3
  clear k0 k1 k2 k3 HL cA cB cQ
  generalize w1.drewN nq = wd at l0 l1 l2 l3 HD ⊢
  clear nq
  go_wp2_with fail
  go_quiet (fail)
  have HE : Hid (Below w.heap.size w (wd.drewN nq)) := ⟨HD.out.os, HD.out.tape, HD.out.output, HD.out.size, HD.out.block⟩
  clear l0 l1 l2 l3 HD
  generalize wd.drewN nq = we at HE ⊢
  clear nq
  go_wp2_with fail
  refine (cP.out _).mono ?_
  rintro e w2 ⟨rfl, hw⟩; subst w2
  go_wp2_with fail
  go_ret
  exact ⟨by simp [hs.out, ht.out], HE.out⟩

set_option maxHeartbeats 1000000 in
theorem quos7_some (a b c d m1 m2 m3 m4 m5 m6 n p q s t : Int) (re im x y u v : Nat) (w : World)
    (h1 : wrap64 (a * c) = m1) (h2 : wrap64 (b * d) = m2) (h3 : wrap64 (a * d) = m3) (h4 : wrap64 (b * c) = m4) (h5 : wrap64 (c * c) = m5) (h6 : wrap64 (d * d) = m6)
    (h7 : wrap64 (m5 + m6) = n) (h8 : wrap64 (m1 + m2) = p) (h9 : wrap64 (m4 - m3) = q)
    (n1 : decide (0 < n) = true) (n2 : ¬ n = 0) (k4 : p.tmod n = 0) (k5 : q.tmod n = 0) (k6 : wrap64 (p.tdiv n) = s) (k7 : wrap64 (q.tdiv n) = t)
    (cF : Hid (∀ w, Calls Try.prog 16 #[.agg #[.int .i64 a, .int .i64 b, .int .i64 c, .int .i64 d]] w fun e w' => e = .returned (.bool true) ∧ Below w.heap.size w w'))
    (cA : Hid (∀ w, Calls Try.prog 11 #[.int .i64 a, .int .i64 b] w fun e w' => e = .returned (.complex .f64 x y) ∧ w' = w))
    (cB : Hid (∀ w, Calls Try.prog 11 #[.int .i64 c, .int .i64 d] w fun e w' => e = .returned (.complex .f64 u v) ∧ w' = w))
    (cQ : Hid (∀ w, Calls Try.prog 18 #[.complex .f64 x y, .complex .f64 u v] w fun e w' => e = .returned (.tuple #[.complex .f64 re im, .bool true]) ∧ ∃ m, w' = w.drewN m))
    (cP : Hid (∀ w, Calls Try.prog 10 #[.complex .f64 re im] w fun e w' => e = .returned (.tuple #[.int .i64 s, .int .i64 t, .bool true]) ∧ w' = w)) :
    Calls Try.prog 7 #[.agg #[.int .i64 a, .int .i64 b, .int .i64 c, .int .i64 d]] w fun e w' => e = .returned (.bool true) ∧ Below w.heap.size w w' := by
  go_enter Try.func7, Try.ntmps7
  go_wp2_with fail
  refine (awake_any _).mono ?_
  rintro e w1 ⟨rfl, hw⟩; subst w1
  go_wp2_with fail
  refine (cF.out _).mono ?_
  rintro e w1 ⟨rfl, B1⟩
  have T1 := (two_at w 38 a b c d).keep B1
  have L1 : Below w.heap.size w w1 := ((Below.refl _ _).alloc (by simp) _).trans (B1.mono (by simp))
  obtain ⟨k0, k1, k2, k3⟩ := T1
  have HL := Lib.hid L1
  clear B1 L1 cF
  generalize w.heap.size = g at k0 k1 k2 k3 ⊢
  go_wp2_with fail
  go_quiet (first | (go_at_call 11; first | with_reducible exact Calls.quiet_of_same (cA.out _) | with_reducible exact Calls.quiet_of_same (cB.out _)) | (go_at_call 18; exact Calls.quiet_of (cQ.out _)))
  have HD : Hid (Below w.heap.size w (w1.drewN nq)) := ⟨HL.out.os, HL.out.tape, HL.out.output, HL.out.size, HL.out.block⟩
  have l0 : (w1.drewN nq).cell? ⟨g, 0, none⟩ = some (.int .i64 a) := k0
  have l1 : (w1.drewN nq).cell? ⟨g, 1, none⟩ = some (.int .i64 b) := k1
  have l2 : (w1.drewN nq).cell? ⟨g, 2, none⟩ = some (.int .i64 c) := k2
  have l3 : (w1.drewN nq).cell? ⟨g, 3, none⟩ = some (.int .i64 d) := k3
  clear k0 k1 k2 k3 HL cA cB cQ
  generalize w1.drewN nq = wd at l0 l1 l2 l3 HD ⊢
  clear nq
  go_wp2_with fail
  go_quiet (fail)
  have HE : Hid (Below w.heap.size w (wd.drewN nq)) := ⟨HD.out.os, HD.out.tape, HD.out.output, HD.out.size, HD.out.block⟩
  clear l0 l1 l2 l3 HD
  generalize wd.drewN nq = we at HE ⊢
  clear nq
  go_wp2_with fail
  go_quiet (fail)
  have HG : Hid (Below w.heap.size w (we.drewN nq)) := ⟨HE.out.os, HE.out.tape, HE.out.output, HE.out.size, HE.out.block⟩
  clear HE
  generalize we.drewN nq = wf at HG ⊢
  go_wp2_with fail
  refine (cP.out _).mono ?_
  rintro e w2 ⟨rfl, hw⟩; subst w2
  go_wp2_with fail
  go_ret
  exact ⟨by simp, HG.out⟩

set_option maxHeartbeats 400000 in
theorem quos7_else (a b c d : Int) (w : World)
    (cF : Hid (∀ w, Calls Try.prog 16 #[.agg #[.int .i64 a, .int .i64 b, .int .i64 c, .int .i64 d]] w fun e w' => e = .returned (.bool false) ∧ Below w.heap.size w w')) :
    Calls Try.prog 7 #[.agg #[.int .i64 a, .int .i64 b, .int .i64 c, .int .i64 d]] w fun e w' => e = .returned (.bool true) ∧ Below w.heap.size w w' := by
  go_enter Try.func7, Try.ntmps7
  go_wp2_with fail
  refine (awake_any _).mono ?_
  rintro e w1 ⟨rfl, hw⟩; subst w1
  go_wp2_with fail
  refine (cF.out _).mono ?_
  rintro e w1 ⟨rfl, B1⟩
  have L1 : Below w.heap.size w w1 := ((Below.refl _ _).alloc (by simp) _).trans (B1.mono (by simp))
  have HL := Lib.hid L1
  clear B1 L1
  go_wp2_with fail
  go_ret
  exact ⟨rfl, HL.out⟩

theorem square_sum {c d : Int} (h : ¬ c * c + d * d = 0) : 0 < c * c + d * d := by
  have h1 : 0 ≤ c * c := by rcases Int.le_total 0 c with k | k; exact Int.mul_nonneg k k; exact Int.mul_nonneg_of_nonpos_of_nonpos k k
  have h2 : 0 ≤ d * d := by rcases Int.le_total 0 d with k | k; exact Int.mul_nonneg k k; exact Int.mul_nonneg_of_nonpos_of_nonpos k k
  omega

theorem quos7_any (a b c d : Int) (w : World) :
    Calls Try.prog 7 #[.agg #[.int .i64 a, .int .i64 b, .int .i64 c, .int .i64 d]] w fun e w' => e = .returned (.bool true) ∧ Below w.heap.size w w' := by
  by_cases h : Small a ∧ Small b ∧ Small c ∧ Small d
  · obtain ⟨sa, sb, sc, sd⟩ := h
    have m1 := small_mul sa.1 sa.2 sc.1 sc.2
    have m2 := small_mul sb.1 sb.2 sd.1 sd.2
    have m3 := small_mul sa.1 sa.2 sd.1 sd.2
    have m4 := small_mul sb.1 sb.2 sc.1 sc.2
    have m5 := small_mul sc.1 sc.2 sc.1 sc.2
    have m6 := small_mul sd.1 sd.2 sd.1 sd.2
    have wa := whole_int_small sa
    have wb := whole_int_small sb
    have wc := whole_int_small sc
    have wd := whole_int_small sd
    have cF := Lib.hid (fits_yes sa sb sc sd)
    have cA := Lib.hid (of_small sa sb)
    have cB := Lib.hid (of_small sc sd)
    have g0 : Great 0 := ⟨by decide, by decide⟩
    have cZ := Lib.hid (parts_yes whole_0 whole_0 g0 g0)
    by_cases n0 : c * c + d * d = 0
    · exact quos7_zero a b c d _ _ _ _ _ _ (c * c + d * d) (a * c + b * d) (b * c - a * d) 0 0 0 0 _ _ _ _ w (in64 (by omega)) (in64 (by omega)) (in64 (by omega)) (in64 (by omega)) (in64 (by omega)) (in64 (by omega)) (in64 (by omega)) (in64 (by omega)) (in64 (by omega))
        (Lib.hid rfl) (Lib.hid rfl) (by simp; omega) cF cA cB (Lib.hid (quo_none wa wb wc wd sa sb sc sd (.inl n0))) cZ
    · have n1 := square_sum n0
      by_cases k1 : (a * c + b * d).tmod (c * c + d * d) = 0
      · by_cases k2 : (b * c - a * d).tmod (c * c + d * d) = 0
        · have t1 := tdiv_abs (a * c + b * d) (c * c + d * d)
          have t2 := tdiv_abs (b * c - a * d) (c * c + d * d)
          have cQ := Lib.hid (quo_some wa wb wc wd sa sb sc sd n0 k1 k2)
          have g1 : Great ((a * c + b * d).tdiv (c * c + d * d)) := by constructor <;> omega
          have g2 : Great ((b * c - a * d).tdiv (c * c + d * d)) := by constructor <;> omega
          exact quos7_some a b c d _ _ _ _ _ _ (c * c + d * d) (a * c + b * d) (b * c - a * d) _ _ _ _ _ _ _ _ w (in64 (by omega)) (in64 (by omega)) (in64 (by omega)) (in64 (by omega)) (in64 (by omega)) (in64 (by omega)) (in64 (by omega)) (in64 (by omega)) (in64 (by omega))
            (by simpa using n1) n0 k1 k2 (in64 (by omega)) (in64 (by omega)) cF cA cB cQ (Lib.hid (parts_yes (whole_int_great g1) (whole_int_great g2) g1 g2))
        · exact quos7_two a b c d _ _ _ _ _ _ (c * c + d * d) (a * c + b * d) (b * c - a * d) 0 0 _ 0 0 _ _ _ _ w (in64 (by omega)) (in64 (by omega)) (in64 (by omega)) (in64 (by omega)) (in64 (by omega)) (in64 (by omega)) (in64 (by omega)) (in64 (by omega)) (in64 (by omega))
            (Lib.hid rfl) (Lib.hid rfl) (by simpa using n1) n0 k1 rfl (by simpa using k2) cF cA cB (Lib.hid (quo_none wa wb wc wd sa sb sc sd (.inr (.inr k2)))) cZ
      · exact quos7_one a b c d _ _ _ _ _ _ (c * c + d * d) (a * c + b * d) (b * c - a * d) 0 0 _ 0 0 _ _ _ _ w (in64 (by omega)) (in64 (by omega)) (in64 (by omega)) (in64 (by omega)) (in64 (by omega)) (in64 (by omega)) (in64 (by omega)) (in64 (by omega)) (in64 (by omega))
          (Lib.hid rfl) (Lib.hid rfl) (by simpa using n1) n0 rfl (by simpa using k1) cF cA cB (Lib.hid (quo_none wa wb wc wd sa sb sc sd (.inr (.inl k1)))) cZ
  · exact quos7_else a b c d w (Lib.hid (fits_no h))

end Go.Proofs.Ytkgejbjpdkilkaa
