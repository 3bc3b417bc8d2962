/-
  The law WideDivs, walked: it returns true and writes nothing that was there; for all numbers.
-/
import Derived.Test.YtpkfklhhljaekaaStruct6
import Derived.Test.YtpkfklhhljaekaaRefD6
namespace Go.Proofs.Ytpkfklhhljaekaa
open Go.RowKit

set_option maxHeartbeats 2000000 in
theorem divs_core (a1 a0 b q1 q0 r x1 x0 : Nat) (hb : 0 < b) (hr : r < b) (w : World)
    (cD : Hid (∀ w, Calls Try.prog 20 #[.agg #[.int .u64 (a1 : Int), .int .u64 (a0 : Int)], .int .u64 (b : Int)] w fun e w' => e = .returned (.tuple #[.agg #[.int .u64 (q1 : Int), .int .u64 (q0 : Int)], .int .u64 (r : Int), .bool true]) ∧ Below w.heap.size w w'))
    (cRT : Hid (∀ w, Calls Try.prog 18 #[.agg #[.int .u64 (q1 : Int), .int .u64 (q0 : Int)], .int .u64 (b : Int)] w fun e w' => e = .returned (.tuple #[.agg #[.int .u64 (x1 : Int), .int .u64 (x0 : Int)], .int .u64 0]) ∧ Below w.heap.size w w'))
    (cRA : Hid (∀ w, Calls Try.prog 11 #[.agg #[.int .u64 (x1 : Int), .int .u64 (x0 : Int)], .agg #[.int .u64 0, .int .u64 (r : Int)]] w fun e w' => e = .returned (.tuple #[.agg #[.int .u64 (a1 : Int), .int .u64 (a0 : Int)], .bool false]) ∧ Below w.heap.size w w')) :
    Calls Try.prog 5 #[.agg #[.int .u64 (a1 : Int), .int .u64 (a0 : Int)], .int .u64 (b : Int)] w fun e w' => e = .returned (.bool true) ∧ Below w.heap.size w w' := by
  have b1 : (0 : Int) < (b : Int) := by omega
  have b2 : ¬ b = 0 := by omega
  have d1 : decide ((r : Int) < (b : Int)) = true := by simp; omega
  have d1n : decide (r < b) = true := by simpa using hr
  go_enter Try.func5, Try.ntmps5
  go_wp2_with fail
  refine (awake_any _).mono ?_
  rintro e w1 ⟨rfl, B1⟩
  have L1 : Below w.heap.size w w1 := low_a (Below.refl _ _) B1
  have a1_0 : w1.cell? ⟨w.heap.size, 0, none⟩ = some (.int .u64 (a1 : Int)) := by have h := (keep_n B1).1; simpa using h
  have a1_1 : w1.cell? ⟨w.heap.size, 1, none⟩ = some (.int .u64 (a0 : Int)) := by have h := (keep_n B1).2; simpa using h
  have Za1 : w.heap.size < w1.heap.size := by have := B1.size; simp at this; omega
  clear B1
  go_wp2_with fail
  refine (cD.out _).mono ?_
  rintro e w2 ⟨rfl, B2⟩
  have a2_0 := keep_p a1_0 B2; have a2_1 := keep_p a1_1 B2
  have L2 := low_p L1 B2
  have Za2 : w.heap.size < w2.heap.size := by have := B2.size; omega
  clear B2 L1 a1_0 a1_1 Za1
  go_wp2_with fail
  refine (cRT.out _).mono ?_
  rintro e w3 ⟨rfl, B3⟩
  have a3_0 := keep_a a2_0 B3; have a3_1 := keep_a a2_1 B3
  obtain ⟨q3_0, q3_1⟩ := keep_n B3
  have L3 := low_a L2 B3
  have Za3 : w.heap.size < w3.heap.size := by have := B3.size; simp at this; omega
  have Zq3 : w2.heap.size < w3.heap.size := by have := B3.size; simp at this; omega
  clear B3 L2 a2_0 a2_1 Za2
  generalize w2.heap.size = g_q at *
  go_wp2_with fail
  refine (cRA.out _).mono ?_
  rintro e w4 ⟨rfl, B4⟩
  have a4_0 := keep_a a3_0 B4; have a4_1 := keep_a a3_1 B4
  have q4_0 := keep_a q3_0 B4; have q4_1 := keep_a q3_1 B4
  obtain ⟨x4_0, x4_1⟩ := keep_n B4
  have L4 := low_a L3 B4
  have Za4 : w.heap.size < w4.heap.size := by have := B4.size; simp at this; omega
  have Zq4 : g_q < w4.heap.size := by have := B4.size; simp at this; omega
  have Zx4 : w3.heap.size < w4.heap.size := by have := B4.size; simp at this; omega
  clear B4 L3 a3_0 a3_1 q3_0 q3_1 Za3 Zq3
  generalize w3.heap.size = g_x at *
  go_wp2_with fail
  go_ret
  exact ⟨rfl, L4.alloc L4.size _⟩

set_option maxHeartbeats 2000000 in
theorem divs_zero (a1 a0 : Nat) (w : World) (cD : Hid (∀ w, Calls Try.prog 20 #[.agg #[.int .u64 (a1 : Int), .int .u64 (a0 : Int)], .int .u64 0] w fun e w' => e = .returned (.tuple #[.agg #[.int .u64 0, .int .u64 0], .int .u64 0, .bool false]) ∧ Below w.heap.size w w')) :
    Calls Try.prog 5 #[.agg #[.int .u64 (a1 : Int), .int .u64 (a0 : Int)], .int .u64 0] w fun e w' => e = .returned (.bool true) ∧ Below w.heap.size w w' := by
  go_enter Try.func5, Try.ntmps5
  go_wp2_with fail
  refine (awake_any _).mono ?_
  rintro e w1 ⟨rfl, B1⟩
  have L1 : Below w.heap.size w w1 := low_a (Below.refl _ _) B1
  have a1_0 : w1.cell? ⟨w.heap.size, 0, none⟩ = some (.int .u64 (a1 : Int)) := by have h := (keep_n B1).1; simpa using h
  have a1_1 : w1.cell? ⟨w.heap.size, 1, none⟩ = some (.int .u64 (a0 : Int)) := by have h := (keep_n B1).2; simpa using h
  have Za1 : w.heap.size < w1.heap.size := by have := B1.size; simp at this; omega
  clear B1
  go_wp2_with fail
  refine (cD.out _).mono ?_
  rintro e w2 ⟨rfl, B2⟩
  have a2_0 := keep_p a1_0 B2; have a2_1 := keep_p a1_1 B2
  have L2 := low_p L1 B2
  have Za2 : w.heap.size < w2.heap.size := by have := B2.size; omega
  clear B2 L1 a1_0 a1_1 Za1
  go_wp2_with fail
  go_ret
  exact ⟨rfl, L2.alloc L2.size _⟩

theorem divs_all (a b : Nat) (ha : a < 340282366920938463463374607431768211456) (hb : b < 18446744073709551616) (w : World) :
    Calls Try.prog 5 #[wv a, .int .u64 (b : Int)] w fun e w' => e = .returned (.bool true) ∧ Below w.heap.size w w' := by
  by_cases h0 : b = 0
  · subst h0
    exact divs_zero _ _ w (div_zero a)
  · have hb0 : 0 < b := by omega
    have hq : a / b < 340282366920938463463374607431768211456 := Nat.lt_of_le_of_lt (Nat.div_le_self _ _) ha
    have hr : a % b < b := Nat.mod_lt _ hb0
    have hm : a / b * b ≤ a := Nat.div_mul_le_self _ _
    have hs : a / b * b + a % b = a := Nat.div_add_mod' a b
    have cRT := refTimes_any (a / b) b hq hb
    rw [Nat.mod_eq_of_lt (Nat.lt_of_le_of_lt hm ha), Nat.div_eq_of_lt (Nat.lt_of_le_of_lt hm ha)] at cRT
    have cRA := refAdd_any (a / b * b) (a % b) (Nat.lt_of_le_of_lt hm ha) (by omega)
    have eO : wv (a % b) = .agg #[.int .u64 0, .int .u64 ((a % b : Nat) : Int)] := (wv_of (h := 0) (l := a % b) (by omega) (by omega)).symm
    rw [eO, hs, Nat.mod_eq_of_lt ha, decide_eq_false (by omega)] at cRA
    exact divs_core _ _ b _ _ _ _ _ hb0 hr w (div_any a b ha hb hb0) cRT cRA
theorem divs_in (a : Nat) (k : Int) (ha : a < 340282366920938463463374607431768211456) (hk : (Lit.int .u64 k).wf = true) (w : World) :
    Calls Try.prog 5 #[wv a, .int .u64 k] w fun e w' => e = .returned (.bool true) ∧ Below w.heap.size w w' := by
  obtain ⟨n, hn, rfl⟩ := nat_u64 hk
  exact divs_all a n ha hn w

end Go.Proofs.Ytpkfklhhljaekaa
