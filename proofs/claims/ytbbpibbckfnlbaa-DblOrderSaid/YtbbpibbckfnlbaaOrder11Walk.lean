/-
  The law DblOrder, walked: it returns true and writes nothing that was there; for all patterns.
-/
import Derived.Test.YtbbpibbckfnlbaaCmpA11
namespace Go.Proofs.Ytbbpibbckfnlbaa
open Go.RowKit

/-- What the law asks of three comparisons. -/
def Asks (x y z : Int) (ok is on : Bool) : Prop :=
  ok = false ∨ (ok = true ∧ is = false) ∨ (ok = true ∧ is = true ∧ on = true ∧
    ((decide (x ≤ 0) = false ∧ decide (x < 0) = false) ∨ (decide (x ≤ 0) = true ∧ decide (y ≤ 0) = false ∧ decide (x < 0) = true) ∨ (decide (x ≤ 0) = true ∧ decide (y ≤ 0) = false ∧ decide (x < 0) = false) ∨
      (decide (x ≤ 0) = true ∧ decide (y ≤ 0) = true ∧ decide (0 < z) = false ∧ decide (x < 0) = false) ∨ (decide (x ≤ 0) = true ∧ decide (y ≤ 0) = true ∧ decide (0 < z) = false ∧ decide (x < 0) = true ∧ decide (0 ≤ z) = false)))
def Stands (a b x : Int) (ok : Bool) : Prop :=
  ok = false ∨ decide (9223372036854775808 ≤ a) = true ∨ (decide (9223372036854775808 ≤ a) = false ∧ decide (9223372036854775808 ≤ b) = true) ∨
    (decide (9223372036854775808 ≤ a) = false ∧ decide (9223372036854775808 ≤ b) = false ∧ ((decide (x < 0) = true ∧ decide (a < b) = true) ∨ (decide (x < 0) = false ∧ decide (a < b) = false)))

set_option maxHeartbeats 4000000 in
theorem order_walk (a b c x y z : Int) (ok is on : Bool) (w : World) (H : Asks x y z ok is on) (G : Stands a b x ok)
    (c1 : Hid (∀ w, Calls Try.prog 9 #[.int .u64 a, .int .u64 b] w fun r w' => r = .returned (.tuple #[.int .i64 x, .bool ok]) ∧ w' = w))
    (c2 : Hid (∀ w, Calls Try.prog 9 #[.int .u64 b, .int .u64 c] w fun r w' => r = .returned (.tuple #[.int .i64 y, .bool is]) ∧ w' = w))
    (c3 : Hid (∀ w, Calls Try.prog 9 #[.int .u64 a, .int .u64 c] w fun r w' => r = .returned (.tuple #[.int .i64 z, .bool on]) ∧ w' = w)) :
    Calls Try.prog 5 #[.int .u64 a, .int .u64 b, .int .u64 c] w fun r w' => r = .returned (.bool true) ∧ Below w.heap.size w w' := by
  rcases H with rfl | ⟨rfl, rfl⟩ | ⟨rfl, rfl, rfl, ⟨h1, h2⟩ | ⟨h1, h2, h3⟩ | ⟨h1, h2, h3⟩ | ⟨h1, h2, h3, h4⟩ | ⟨h1, h2, h3, h4, h5⟩⟩
  case inl =>
    clear G
    go_enter Try.func5, Try.ntmps5
    go_wp2_with fail
    refine (awake_any _).mono ?_
    rintro r w1 ⟨rfl, hw⟩; subst w1
    go_wp2_with fail
    refine (c1.out _).mono ?_
    rintro r w1 ⟨rfl, hw⟩; subst w1
    go_wp2_with fail
    refine (c2.out _).mono ?_
    rintro r w1 ⟨rfl, hw⟩; subst w1
    go_wp2_with fail
    refine (c3.out _).mono ?_
    rintro r w1 ⟨rfl, hw⟩; subst w1
    go_wp2_with fail
    go_ret
    exact ⟨rfl, Below.refl _ _⟩
  all_goals
    rcases G with G | g1 | ⟨g1, g2⟩ | ⟨g1, g2, ⟨g3, g4⟩ | ⟨g3, g4⟩⟩
  all_goals
    first
    | (cases G; done)
    | (exfalso; simp_all; done)
    | (go_enter Try.func5, Try.ntmps5
       go_wp2_with fail
       refine (awake_any _).mono ?_
       rintro r w1 ⟨rfl, hw⟩; subst w1
       go_wp2_with fail
       refine (c1.out _).mono ?_
       rintro r w1 ⟨rfl, hw⟩; subst w1
       go_wp2_with fail
       refine (c2.out _).mono ?_
       rintro r w1 ⟨rfl, hw⟩; subst w1
       go_wp2_with fail
       refine (c3.out _).mono ?_
       rintro r w1 ⟨rfl, hw⟩; subst w1
       go_wp2_with fail
       go_ret
       exact ⟨by first | rfl | simp [g3, g4] | simp [*], Below.refl _ _⟩)

theorem cI_asks (A B C : Int) : Asks (cI A B) (cI B C) (cI A C) true true true := by
  refine .inr (.inr ⟨rfl, rfl, rfl, ?_⟩)
  unfold cI
  by_cases h1 : A < B <;> by_cases h2 : B < A <;> by_cases h3 : B < C <;> by_cases h4 : C < B <;> by_cases h5 : A < C <;> by_cases h6 : C < A <;> first | (exfalso; omega) | (simp [h1, h2, h3, h4, h5, h6])

theorem order_any (a b c : Int) (ha : 0 ≤ a ∧ a ≤ 18446744073709551615) (hb : 0 ≤ b ∧ b ≤ 18446744073709551615) (hc : 0 ≤ c ∧ c ≤ 18446744073709551615) (w : World) :
    Calls Try.prog 5 #[.int .u64 a, .int .u64 b, .int .u64 c] w fun r w' => r = .returned (.bool true) ∧ Below w.heap.size w w' := by
  obtain ⟨i, rfl⟩ : ∃ n : Nat, a = (n : Int) := ⟨a.toNat, by omega⟩
  obtain ⟨j, rfl⟩ : ∃ n : Nat, b = (n : Int) := ⟨b.toNat, by omega⟩
  obtain ⟨k, rfl⟩ : ∃ n : Nat, c = (n : Int) := ⟨c.toNat, by omega⟩
  obtain ⟨s, r, hr, rfl⟩ := pat_parts (x := i) (by omega)
  obtain ⟨t, q, hq, rfl⟩ := pat_parts (x := j) (by omega)
  obtain ⟨u, p, hp, rfl⟩ := pat_parts (x := k) (by omega)
  refine order_walk _ _ _ _ _ _ _ _ _ w ?_ ?_ (Lib.hid fun w => cmp_any s r hr t q hq w) (Lib.hid fun w => cmp_any t q hq u p hp w) (Lib.hid fun w => cmp_any s r hr u p hp w)
  · unfold cA cB
    cases h1 : nn r <;> cases h2 : nn q <;> cases h3 : nn p
    · exact cI_asks _ _ _
    · exact .inr (.inl ⟨rfl, rfl⟩)
    all_goals exact .inl rfl
  · unfold Stands cA cB
    cases h1 : nn r <;> cases h2 : nn q
    · right
      by_cases e1 : 9223372036854775808 ≤ ((pat s r : Nat) : Int)
      · exact .inl (decide_eq_true e1)
      · by_cases e2 : 9223372036854775808 ≤ ((pat t q : Nat) : Int)
        · exact .inr (.inl ⟨decide_eq_false e1, decide_eq_true e2⟩)
        · refine .inr (.inr ⟨decide_eq_false e1, decide_eq_false e2, ?_⟩)
          have s0 : s = false := by cases s with | false => rfl | true => simp [pat] at e1; omega
          have t0 : t = false := by cases t with | false => rfl | true => simp [pat] at e2; omega
          subst s0 t0
          simp only [pat, rk, cI, Bool.false_eq_true, if_false, Bool.or_self]
          by_cases h : (r : Int) < (q : Int)
          · left; rw [if_pos h]; exact ⟨rfl, decide_eq_true h⟩
          · right; rw [if_neg h]; exact ⟨by split <;> rfl, decide_eq_false h⟩
    all_goals exact .inl rfl

end Go.Proofs.Ytbbpibbckfnlbaa
