/-
  The law DblCmps, walked: it returns true and writes nothing that was there; for all patterns.
-/
import Derived.Test.YtbbpibbckfnlbaaCmpA11
namespace Go.Proofs.Ytbbpibbckfnlbaa
open Go.RowKit

set_option maxHeartbeats 1000000 in
theorem cmps_walk (x y c d : Int) (b : Bool) (w : World) (hd : wrap64 (-c) = d)
    (c1 : Hid (∀ w, Calls Try.prog 9 #[.int .u64 x, .int .u64 y] w fun r w' => r = .returned (.tuple #[.int .i64 c, .bool b]) ∧ w' = w))
    (c2 : Hid (∀ w, Calls Try.prog 10 #[.int .u64 x, .int .u64 y] w fun r w' => r = .returned (.tuple #[.int .i64 c, .bool b]) ∧ w' = w))
    (c3 : Hid (∀ w, Calls Try.prog 9 #[.int .u64 y, .int .u64 x] w fun r w' => r = .returned (.tuple #[.int .i64 d, .bool b]) ∧ w' = w)) :
    Calls Try.prog 4 #[.int .u64 x, .int .u64 y] w fun r w' => r = .returned (.bool true) ∧ Below w.heap.size w w' := by
  go_enter Try.func4, Try.ntmps4
  go_wp2_with fail
  refine (awake_any _).mono ?_
  rintro r w1 ⟨rfl, hw⟩; subst w1
  go_wp2_with fail
  refine (c1.out _).mono ?_
  rintro r w1 ⟨rfl, hw⟩; subst w1
  go_wp2_with fail
  refine (c2.out _).mono ?_
  rintro r w1 ⟨rfl, hw⟩; subst w1
  go_wp2_with fail
  refine (c3.out _).mono ?_
  rintro r w1 ⟨rfl, hw⟩; subst w1
  go_wp2_with fail
  go_ret
  exact ⟨by simp, Below.refl _ _⟩

theorem cA_turn (s : Bool) (r : Nat) (t : Bool) (q : Nat) : cA t q s r = -cA s r t q := by
  unfold cA
  rw [Bool.or_comm]
  split
  · rfl
  · exact cI_turn _ _
theorem cA_small (s : Bool) (r : Nat) (t : Bool) (q : Nat) : -1 ≤ cA s r t q ∧ cA s r t q ≤ 1 := by
  unfold cA cI
  repeat (first | omega | split)

theorem cmps_any (x y : Int) (hx : 0 ≤ x ∧ x ≤ 18446744073709551615) (hy : 0 ≤ y ∧ y ≤ 18446744073709551615) (w : World) :
    Calls Try.prog 4 #[.int .u64 x, .int .u64 y] w fun r w' => r = .returned (.bool true) ∧ Below w.heap.size w w' := by
  obtain ⟨n, rfl⟩ : ∃ n : Nat, x = (n : Int) := ⟨x.toNat, by omega⟩
  obtain ⟨k, rfl⟩ : ∃ n : Nat, y = (n : Int) := ⟨y.toNat, by omega⟩
  obtain ⟨s, r, hr, rfl⟩ := pat_parts (x := n) (by omega)
  obtain ⟨t, q, hq, rfl⟩ := pat_parts (x := k) (by omega)
  have h := cA_small s r t q
  refine cmps_walk _ _ _ _ _ w (in64 (by omega)) (Lib.hid fun w => cmp_any s r hr t q hq w) (Lib.hid fun w => refCmp_any s r hr t q hq w) (Lib.hid fun w => ?_)
  have h2 := cmp_any t q hq s r hr w
  rw [cA_turn s r t q, show cB q r = cB r q by unfold cB; rw [Bool.or_comm]] at h2
  exact h2

end Go.Proofs.Ytbbpibbckfnlbaa
