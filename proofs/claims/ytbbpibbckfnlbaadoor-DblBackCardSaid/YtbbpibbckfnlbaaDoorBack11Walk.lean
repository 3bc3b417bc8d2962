/-
  The law DblBack, walked: it returns true and writes nothing that was there; for all patterns and numbers.
-/
import Derived.Test.YtbbpibbckfnlbaaDoorAwake11
import Derived.Test.YtbbpibbckfnlbaaDoorDblD
namespace Go.Proofs.YtbbpibbckfnlbaaDoor
open Go.RowKit

set_option maxHeartbeats 1000000 in
/-- Is the kind that of a number, Join gives the pattern; where Of has a pattern Whole gives the number. -/
theorem back_walk (x v k m e : Int) (s b c d : Bool) (y p u : Int) (w : World)
    (hk : ((k == 1) = true ∧ b = true ∧ y = x) ∨ ((k == 1) = false ∧ (k == 2) = true ∧ b = true ∧ y = x) ∨ ((k == 1) = false ∧ (k == 2) = false)) (hc : c = false ∨ (c = true ∧ d = true ∧ u = v))
    (c1 : Hid (∀ w, Calls Tryd.prog 13 #[.int .u64 x] w fun r w' => r = .returned (.tuple #[.int .i64 k, .bool s, .int .u64 m, .int .i64 e]) ∧ w' = w)) (hL : Hid (Laid w))
    (c2 : Hid (∀ w, Laid w → Calls Tryd.prog 7 #[.bool s, .int .u64 m, .int .i64 e] w fun r w' => r = .returned (.tuple #[.int .u64 y, .bool b]) ∧ w' = w))
    (c3 : Hid (∀ w, Laid w → Calls Tryd.prog 11 #[.int .i64 v] w fun r w' => r = .returned (.tuple #[.int .u64 p, .bool c]) ∧ w' = w))
    (c4 : Hid (∀ w, Laid w → Calls Tryd.prog 9 #[.int .u64 p] w fun r w' => r = .returned (.tuple #[.int .i64 u, .bool d]) ∧ w' = w)) :
    Calls Tryd.prog 5 #[.int .u64 x, .int .i64 v] w fun r w' => r = .returned (.bool true) ∧ Below w.heap.size w w' := by
  rcases hk with ⟨k1, rfl, rfl⟩ | ⟨k1, k2, rfl, rfl⟩ | ⟨k1, k2⟩ <;> rcases hc with rfl | ⟨rfl, rfl, rfl⟩
  all_goals
    go_enter Tryd.func5, Tryd.ntmps5
    go_wp2_with fail
    refine (awake_any _).mono ?_
    rintro r w1 ⟨rfl, hw⟩; subst w1
    go_wp2_with fail
    refine (c1.out _).mono ?_
    rintro r w1 ⟨rfl, hw⟩; subst w1
    go_wp2_with fail
    refine (c2.out _ hL.out).mono ?_
    rintro r w1 ⟨rfl, hw⟩; subst w1
    go_wp2_with fail
    refine (c3.out _ hL.out).mono ?_
    rintro r w1 ⟨rfl, hw⟩; subst w1
    go_wp2_with fail
    refine (c4.out _ hL.out).mono ?_
    rintro r w1 ⟨rfl, hw⟩; subst w1
    go_wp2_with fail
    go_ret
    exact ⟨by simp, Below.refl _ _⟩

theorem back_any (x v : Int) (hx : 0 ≤ x ∧ x ≤ 18446744073709551615) (hv : -9223372036854775808 ≤ v ∧ v ≤ 9223372036854775807) (w : World) (hL : Laid w) :
    Calls Tryd.prog 5 #[.int .u64 x, .int .i64 v] w fun r w' => r = .returned (.bool true) ∧ Below w.heap.size w w' := by
  obtain ⟨n, rfl⟩ : ∃ n : Nat, x = (n : Int) := ⟨x.toNat, by omega⟩
  obtain ⟨s, r, hr, rfl⟩ := pat_parts (x := n) (by omega)
  have hj := fun w hL => join_any s (mOf r) (eOf r) (Nat.lt_trans (m_lt r) (by decide)) w hL
  have hk : ((kOf r == 1) = true ∧ (joinP (mOf r) (eOf r)).isSome = true ∧ ((jPat s (joinP (mOf r) (eOf r)) : Nat) : Int) = ((pat s r : Nat) : Int)) ∨ ((kOf r == 1) = false ∧ (kOf r == 2) = true ∧ (joinP (mOf r) (eOf r)).isSome = true ∧ ((jPat s (joinP (mOf r) (eOf r)) : Nat) : Int) = ((pat s r : Nat) : Int)) ∨ ((kOf r == 1) = false ∧ (kOf r == 2) = false) := by
    by_cases c1 : r < 9218868437227405312
    · rw [join_back c1]
      by_cases c0 : r = 0
      · exact .inl ⟨by rw [c0]; rfl, rfl, rfl⟩
      · exact .inr (.inl ⟨by rw [k_fin c0 c1]; rfl, by rw [k_fin c0 c1]; rfl, rfl, rfl⟩)
    · right; right
      by_cases c3 : r = 9218868437227405312
      · rw [c3]; exact ⟨by decide, by decide⟩
      · rw [(tells_nan (r := r) (by omega)).1]; exact ⟨rfl, rfl⟩
  obtain ⟨q, hq, hqb⟩ : ∃ q, (joinP v.natAbs 0 = none ∨ joinP v.natAbs 0 = some q) ∧ q < 9223372036854775808 := by
    cases h : joinP v.natAbs 0 with
    | none => exact ⟨0, .inl rfl, by decide⟩
    | some q =>
      refine ⟨q, .inr rfl, ?_⟩
      by_cases v0 : v.natAbs = 0
      · rw [v0] at h
        obtain rfl : 0 = q := Option.some.inj h
        decide
      · have ho := odd_of (m := v.natAbs) (by omega) (by omega)
        unfold joinP at h
        rw [if_neg v0] at h
        obtain ⟨j, _, _, h1, _⟩ := join_tells ho.lo ho.hi ho.pos h
        omega
  have c3 := fun w hL => of_any v hv w hL
  rcases hq with hq | hq
  · rw [hq] at c3
    exact back_walk _ v _ _ _ s _ false _ _ _ _ w hk (.inl rfl) (Lib.hid fun w => split_any s r hr w) (Lib.hid hL) (Lib.hid hj) (Lib.hid c3) (Lib.hid fun w hL => whole_any false 0 (by decide) w hL)
  · rw [hq] at c3
    have hb := whole_back (s := decide (v < 0)) hq (by omega) (fun h => by
      have : ¬ v < 0 := of_decide_eq_false h
      omega)
    have hv2 : (if decide (v < 0) then -(v.natAbs : Int) else (v.natAbs : Int)) = v := by
      by_cases c : v < 0
      · rw [decide_eq_true c, if_pos rfl]; omega
      · rw [decide_eq_false c, if_neg (by decide)]; omega
    rw [hv2] at hb
    have c4 := fun w hL => whole_any (decide (v < 0)) q hqb w hL
    rw [hb] at c4
    exact back_walk _ v _ _ _ s _ true _ _ _ _ w hk (.inr ⟨rfl, rfl, rfl⟩) (Lib.hid fun w => split_any s r hr w) (Lib.hid hL) (Lib.hid hj) (Lib.hid c3) (Lib.hid c4)

end Go.Proofs.YtbbpibbckfnlbaaDoor
