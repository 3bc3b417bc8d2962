/-
  The law GaussTurns, walked: it returns true and writes nothing that was there; for all parts, however far they are turned.
-/
import Derived.Test.YtkgejbjpdkilkaaAwake7
namespace Go.Proofs.Ytkgejbjpdkilkaa
open Go.RowKit

set_option maxHeartbeats 400000 in
theorem turns7_core (a b k : Int) (x y p q r : Int) (u v : Nat) (w : World) (hr : bits .and .i64 k 3 = r)
    (hna : wrap64 (-a) = x) (hnb : wrap64 (-b) = y)
    (cO : Hid (∀ w, Calls Try.prog 11 #[.int .i64 a, .int .i64 b] w fun e w' => e = .returned (.complex .f64 (floatOfInt .f64 a) (floatOfInt .f64 b)) ∧ w' = w))
    (cT : Hid (∀ w, Calls Try.prog 15 #[.complex .f64 (floatOfInt .f64 a) (floatOfInt .f64 b), .int .i64 k] w fun e w' => e = .returned (.complex .f64 u v) ∧ w' = w))
    (cP : Hid (∀ w, Calls Try.prog 10 #[.complex .f64 u v] w fun e w' => e = .returned (.tuple #[.int .i64 p, .int .i64 q, .bool true]) ∧ w' = w))
    (cA : Hid (∀ w, Calls Try.prog 12 #[.int .i64 a] w fun e w' => e = .returned (.bool true) ∧ w' = w))
    (cB : Hid (∀ w, Calls Try.prog 12 #[.int .i64 b] w fun e w' => e = .returned (.bool true) ∧ w' = w))
    (hc : Hid ((r = 0 ∧ p = a ∧ q = b) ∨ (r = 1 ∧ p = y ∧ q = a) ∨ (r = 2 ∧ p = x ∧ q = y) ∨ (r = 3 ∧ p = b ∧ q = x))) :
    Calls Try.prog 5 #[.int .i64 a, .int .i64 b, .int .i64 k] w fun e w' => e = .returned (.bool true) ∧ Below w.heap.size w w' := by
  go_enter Try.func5, Try.ntmps5
  go_wp2_with fail
  refine (awake_any _).mono ?_
  rintro e w1 ⟨rfl, hw⟩; subst w1
  go_wp2_with fail
  refine (cA.out _).mono ?_
  rintro e w1 ⟨rfl, hw⟩; subst w1
  go_wp2_with fail
  refine (cB.out _).mono ?_
  rintro e w1 ⟨rfl, hw⟩; subst w1
  go_wp2_with fail
  refine (cO.out _).mono ?_
  rintro e w1 ⟨rfl, hw⟩; subst w1
  go_wp2_with fail
  refine (cT.out _).mono ?_
  rintro e w1 ⟨rfl, hw⟩; subst w1
  go_wp2_with fail
  refine (cP.out _).mono ?_
  rintro e w1 ⟨rfl, hw⟩; subst w1
  clear cO cT cP cA cB
  rcases hc.out with ⟨rfl, rfl, rfl⟩ | ⟨rfl, rfl, rfl⟩ | ⟨rfl, rfl, rfl⟩ | ⟨rfl, rfl, rfl⟩
  all_goals
    clear hc
    go_wp2_with fail
    go_ret
    exact ⟨by simp, Below.refl _ _⟩

set_option maxHeartbeats 400000 in
theorem turns7_else (a b k : Int) (h : ¬ (Small a ∧ Small b)) (w : World) :
    Calls Try.prog 5 #[.int .i64 a, .int .i64 b, .int .i64 k] w fun e w' => e = .returned (.bool true) ∧ Below w.heap.size w w' := by
  by_cases sa : Small a
  · have cA := Lib.hid (small_yes sa)
    have cB := Lib.hid (small_no (fun sb => h ⟨sa, sb⟩))
    clear sa h
    go_enter Try.func5, Try.ntmps5
    go_wp2_with fail
    refine (awake_any _).mono ?_
    rintro e w1 ⟨rfl, hw⟩; subst w1
    go_wp2_with fail
    refine (cA.out _).mono ?_
    rintro e w1 ⟨rfl, hw⟩; subst w1
    go_wp2_with fail
    refine (cB.out _).mono ?_
    rintro e w1 ⟨rfl, hw⟩; subst w1
    go_wp2_with fail
    go_ret
    exact ⟨rfl, Below.refl _ _⟩
  · have cA := Lib.hid (small_no sa)
    clear sa h
    go_enter Try.func5, Try.ntmps5
    go_wp2_with fail
    refine (awake_any _).mono ?_
    rintro e w1 ⟨rfl, hw⟩; subst w1
    go_wp2_with fail
    refine (cA.out _).mono ?_
    rintro e w1 ⟨rfl, hw⟩; subst w1
    go_wp2_with fail
    go_ret
    exact ⟨rfl, Below.refl _ _⟩

theorem turns7_any (a b k : Int) (w : World) : Calls Try.prog 5 #[.int .i64 a, .int .i64 b, .int .i64 k] w fun e w' => e = .returned (.bool true) ∧ Below w.heap.size w w' := by
  by_cases h : Small a ∧ Small b
  · obtain ⟨sa, sb⟩ := h
    obtain ⟨u, v, cT, h1, h2⟩ := turn_any k (whole_int_small sa) (whole_int_small sb) sa.great sb.great
    have hg : Great (turnRe (k % 4) a b) ∧ Great (turnIm (k % 4) a b) := by
      obtain ⟨a1, a2⟩ := sa
      obtain ⟨b1, b2⟩ := sb
      unfold turnRe turnIm Great
      constructor <;> (repeat' split) <;> omega
    have cP := parts_yes h1 h2 hg.1 hg.2
    refine turns7_core a b k (-a) (-b) _ _ _ u v w (i64_and3 k) (in64 (by have := sa.1; have := sa.2; omega)) (in64 (by have := sb.1; have := sb.2; omega)) (Lib.hid (of_small sa sb)) (Lib.hid cT) (Lib.hid cP) (Lib.hid (small_yes sa)) (Lib.hid (small_yes sb)) ?_
    show _ ∨ _
    unfold turnRe turnIm
    rcases (show k % 4 = 0 ∨ k % 4 = 1 ∨ k % 4 = 2 ∨ k % 4 = 3 by omega) with h | h | h | h <;> rw [h] <;> simp
  · exact turns7_else a b k h w

end Go.Proofs.Ytkgejbjpdkilkaa
