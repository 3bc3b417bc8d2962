/-
  The law WideShifts, walked: it returns true and writes nothing that was there; for all numbers and places.
-/
import Derived.Test.YtpkfklhhljaekaaStruct6
import Derived.Test.YtpkfklhhljaekaaRefU6
namespace Go.Proofs.Ytpkfklhhljaekaa
open Go.RowKit

theorem up_back {a f : Nat} (hf : f ≤ 128) : a * 2 ^ f % 340282366920938463463374607431768211456 / 2 ^ f * 2 ^ f % 340282366920938463463374607431768211456 = a * 2 ^ f % 340282366920938463463374607431768211456 := by
  have hp : 2 ^ (128 - f) * 2 ^ f = 340282366920938463463374607431768211456 := by rw [← Nat.pow_add, show 128 - f + f = 128 by omega]
  have e : a * 2 ^ f % 340282366920938463463374607431768211456 = a % 2 ^ (128 - f) * 2 ^ f := by rw [← hp, Nat.mul_mod_mul_right]
  have hl : a * 2 ^ f % 340282366920938463463374607431768211456 < 340282366920938463463374607431768211456 := Nat.mod_lt _ (by omega)
  rw [e] at hl ⊢
  rw [Nat.mul_div_cancel _ (Nat.two_pow_pos f), Nat.mod_eq_of_lt hl]

set_option maxHeartbeats 2000000 in
theorem shifts_core (a1 a0 u1 u0 d1 d0 v1 v0 : Nat) (n : Int) (w : World)
    (cU : Hid (∀ w, Calls Try.prog 21 #[.agg #[.int .u64 (a1 : Int), .int .u64 (a0 : Int)], .int .i64 n] w fun e w' => e = .returned (.agg #[.int .u64 (u1 : Int), .int .u64 (u0 : Int)]) ∧ Below w.heap.size w w'))
    (cRU : Hid (∀ w, Calls Try.prog 22 #[.agg #[.int .u64 (a1 : Int), .int .u64 (a0 : Int)], .int .i64 n] w fun e w' => e = .returned (.agg #[.int .u64 (u1 : Int), .int .u64 (u0 : Int)]) ∧ Below w.heap.size w w'))
    (cD : Hid (∀ w, Calls Try.prog 23 #[.agg #[.int .u64 (a1 : Int), .int .u64 (a0 : Int)], .int .i64 n] w fun e w' => e = .returned (.agg #[.int .u64 (d1 : Int), .int .u64 (d0 : Int)]) ∧ Below w.heap.size w w'))
    (cRD : Hid (∀ w, Calls Try.prog 24 #[.agg #[.int .u64 (a1 : Int), .int .u64 (a0 : Int)], .int .i64 n] w fun e w' => e = .returned (.agg #[.int .u64 (d1 : Int), .int .u64 (d0 : Int)]) ∧ Below w.heap.size w w'))
    (cDU : Hid (∀ w, Calls Try.prog 23 #[.agg #[.int .u64 (u1 : Int), .int .u64 (u0 : Int)], .int .i64 n] w fun e w' => e = .returned (.agg #[.int .u64 (v1 : Int), .int .u64 (v0 : Int)]) ∧ Below w.heap.size w w'))
    (cUV : Hid (∀ w, Calls Try.prog 21 #[.agg #[.int .u64 (v1 : Int), .int .u64 (v0 : Int)], .int .i64 n] w fun e w' => e = .returned (.agg #[.int .u64 (u1 : Int), .int .u64 (u0 : Int)]) ∧ Below w.heap.size w w')) :
    Calls Try.prog 6 #[.agg #[.int .u64 (a1 : Int), .int .u64 (a0 : Int)], .int .i64 n] w fun e w' => e = .returned (.bool true) ∧ Below w.heap.size w w' := by
  go_enter Try.func6, Try.ntmps6
  go_wp2_with fail
  refine (awake_any _).mono ?_
  rintro e w1 ⟨rfl, B1⟩
  have L1 : Below w.heap.size w w1 := low_a (Below.refl _ _) B1
  have a1_0 : w1.cell? ⟨w.heap.size, 0, none⟩ = some (.int .u64 (a1 : Int)) := by have h := (keep_n B1).1; simpa using h
  have a1_1 : w1.cell? ⟨w.heap.size, 1, none⟩ = some (.int .u64 (a0 : Int)) := by have h := (keep_n B1).2; simpa using h
  have Za1 : w.heap.size < w1.heap.size := by have := B1.size; simp at this; omega
  clear B1
  go_wp2_with fail
  have al_0 := a1_0; have al_1 := a1_1
  have LW := L1
  clear L1 a1_0 a1_1 Za1
  have ar_0 := cell_regrown al_0; have ar_1 := cell_regrown al_1
  clear al_0 al_1
  have HL := Lib.hid LW; clear LW
  have rU : ∀ d os, Calls Try.prog 21 #[.agg #[.int .u64 (a1 : Int), .int .u64 (a0 : Int)], .int .i64 n] (Sort.grow (redrawn w1 d) os) fun x w'' => x = .returned (.agg #[.int .u64 (u1 : Int), .int .u64 (u0 : Int)]) ∧ ∃ p : Regrown, w'' = Sort.grow (redrawn w1 p.d) p.os := fun d os => Calls.regrown_of (cU.out _)
  have rRU : ∀ d os, Calls Try.prog 22 #[.agg #[.int .u64 (a1 : Int), .int .u64 (a0 : Int)], .int .i64 n] (Sort.grow (redrawn w1 d) os) fun x w'' => x = .returned (.agg #[.int .u64 (u1 : Int), .int .u64 (u0 : Int)]) ∧ ∃ p : Regrown, w'' = Sort.grow (redrawn w1 p.d) p.os := fun d os => Calls.regrown_of (cRU.out _)
  have rD : ∀ d os, Calls Try.prog 23 #[.agg #[.int .u64 (a1 : Int), .int .u64 (a0 : Int)], .int .i64 n] (Sort.grow (redrawn w1 d) os) fun x w'' => x = .returned (.agg #[.int .u64 (d1 : Int), .int .u64 (d0 : Int)]) ∧ ∃ p : Regrown, w'' = Sort.grow (redrawn w1 p.d) p.os := fun d os => Calls.regrown_of (cD.out _)
  have rRD : ∀ d os, Calls Try.prog 24 #[.agg #[.int .u64 (a1 : Int), .int .u64 (a0 : Int)], .int .i64 n] (Sort.grow (redrawn w1 d) os) fun x w'' => x = .returned (.agg #[.int .u64 (d1 : Int), .int .u64 (d0 : Int)]) ∧ ∃ p : Regrown, w'' = Sort.grow (redrawn w1 p.d) p.os := fun d os => Calls.regrown_of (cRD.out _)
  have rDU : ∀ d os, Calls Try.prog 23 #[.agg #[.int .u64 (u1 : Int), .int .u64 (u0 : Int)], .int .i64 n] (Sort.grow (redrawn w1 d) os) fun x w'' => x = .returned (.agg #[.int .u64 (v1 : Int), .int .u64 (v0 : Int)]) ∧ ∃ p : Regrown, w'' = Sort.grow (redrawn w1 p.d) p.os := fun d os => Calls.regrown_of (cDU.out _)
  have rUV : ∀ d os, Calls Try.prog 21 #[.agg #[.int .u64 (v1 : Int), .int .u64 (v0 : Int)], .int .i64 n] (Sort.grow (redrawn w1 d) os) fun x w'' => x = .returned (.agg #[.int .u64 (u1 : Int), .int .u64 (u0 : Int)]) ∧ ∃ p : Regrown, w'' = Sort.grow (redrawn w1 p.d) p.os := fun d os => Calls.regrown_of (cUV.out _)
  refine wp_region_quiet_below (by kernel_rfl) (by kernel_rfl) ?_
  repeat (go_big_quiet_step (first | with_reducible exact rU _ _ | with_reducible exact rRU _ _ | with_reducible exact rD _ _ | with_reducible exact rRD _ _ | with_reducible exact rDU _ _ | with_reducible exact rUV _ _))
  refine wpQuiet_nil ?_
  intro _ hw'
  obtain ⟨⟨dq, osq⟩, hw''⟩ := hw'
  subst hw''
  have B3 : Below w.heap.size w (Sort.grow (redrawn w1 dq) osq) := HL.out.trans ((below_regrown w1 dq osq).mono HL.out.size)
  have HB := Lib.hid B3
  clear rU rRU rD rRD rDU rUV B3
  go_wp2_with fail
  go_ret
  exact ⟨rfl, HB.out⟩

theorem shifts_any (a : Nat) (n : Int) (ha : a < 340282366920938463463374607431768211456) (hn : n ≤ 9223372036854775807) (w : World) :
    Calls Try.prog 6 #[wv a, .int .i64 n] w fun e w' => e = .returned (.bool true) ∧ Below w.heap.size w w' := by
  have cU := up_any a n hn
  have cRU := refUp_any a n ha
  have cD := down_any a n ha hn
  have cRD := refDown_any a n ha
  have hu : a * 2 ^ far n % 340282366920938463463374607431768211456 < 340282366920938463463374607431768211456 := Nat.mod_lt _ (by omega)
  have cDU := down_any _ n hu hn
  have cUV := up_any (a * 2 ^ far n % 340282366920938463463374607431768211456 / 2 ^ far n) n hn
  rw [up_back (far_le n)] at cUV
  exact shifts_core _ _ _ _ _ _ _ _ n w cU cRU cD cRD cDU cUV

theorem shifts_in (a : Nat) (n : Int) (ha : a < 340282366920938463463374607431768211456) (hn : (Lit.int .i64 n).wf = true) (w : World) :
    Calls Try.prog 6 #[wv a, .int .i64 n] w fun e w' => e = .returned (.bool true) ∧ Below w.heap.size w w' :=
  shifts_any a n ha (Go.bounds_i64 hn).2 w

end Go.Proofs.Ytpkfklhhljaekaa
