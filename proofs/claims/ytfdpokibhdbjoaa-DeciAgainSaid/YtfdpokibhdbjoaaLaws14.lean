/-
  The five laws of stage 14, walked: each returns true and writes nothing that was there; for all bits, all coefficients, all exponents.
-/
import Derived.Test.YtfdpokibhdbjoaaRefK14
import Derived.Test.YtfdpokibhdbjoaaDeciC
import Derived.Test.YtfdpokibhdbjoaaStruct6
namespace Go.Proofs.Ytfdpokibhdbjoaa
open Go.RowKit

theorem jV_awake : jV false 1 0 = .tuple #[.int .u64 3476778912330022912, .int .u64 1, .bool true] := by
  rw [jV_yes ⟨by omega, by omega, by omega⟩]
  rfl
set_option maxHeartbeats 400000 in
theorem awake14 (w : World) : Calls Try.prog 8 #[] w fun e w' => e = .returned (.bool true) ∧ Below w.heap.size w w' := by
  have c : ∀ w, Calls Try.prog 11 #[.bool false, .agg #[.int .u64 0, .int .u64 1], .int .i64 0] w fun e w' => e = .returned (.tuple #[.int .u64 3476778912330022912, .int .u64 1, .bool true]) ∧ Below w.heap.size w w' := fun w => by
    have h := join_any false 1 (by omega) 0 (by omega) w
    rw [jV_awake] at h
    exact h
  have C := Lib.hid c
  clear c
  go_enter Try.func8, Try.ntmps8
  go_wp2_with fail
  refine (C.out _).mono ?_
  rintro e w1 ⟨rfl, B1⟩
  have HB := Lib.hid B1
  clear B1 C
  go_wp2_with fail
  go_ret
  exact ⟨by first | rfl | (simp; done), HB.out⟩

set_option maxHeartbeats 400000 in
theorem splits_walk (X L k x c1 c0 : Int) (n : Bool) (w : World)
    (cA : Hid (∀ w, Calls Try.prog 9 #[.int .u64 X, .int .u64 L] w fun e w' => e = .returned (.tuple #[.int .i64 k, .bool n, .agg #[.int .u64 c1, .int .u64 c0], .int .i64 x]) ∧ Below w.heap.size w w'))
    (cB : Hid (∀ w, Calls Try.prog 10 #[.int .u64 X, .int .u64 L] w fun e w' => e = .returned (.tuple #[.int .i64 k, .bool n, .agg #[.int .u64 c1, .int .u64 c0], .int .i64 x]) ∧ Below w.heap.size w w')) :
    Calls Try.prog 3 #[.int .u64 X, .int .u64 L] w fun e w' => e = .returned (.bool true) ∧ Below w.heap.size w w' := by
  go_enter Try.func3, Try.ntmps3
  go_wp2_with fail
  refine (awake14 _).mono ?_
  rintro e w1 ⟨rfl, B1⟩
  have HB := Lib.hid B1
  clear B1
  go_wp2_with fail
  refine (cA.out _).mono ?_
  rintro e w2 ⟨rfl, B2⟩
  have HB2 := Lib.hid (low_p HB.out B2)
  clear B2 HB
  go_wp2_with fail
  refine (cB.out _).mono ?_
  rintro e w3 ⟨rfl, B3⟩
  have HB3 := Lib.hid (low_a HB2.out B3)
  obtain ⟨i0, i1⟩ := keep_n B3
  have hlt := cell_lt i0
  clear B3 HB2
  go_wp2_with fail
  go_ret
  exact ⟨by first | rfl | (simp; done), HB3.out.alloc HB3.out.size _⟩

set_option maxHeartbeats 400000 in
theorem joins_walk (x c1 c0 H G : Int) (n o : Bool) (w : World)
    (cA : Hid (∀ w, Calls Try.prog 11 #[.bool n, .agg #[.int .u64 c1, .int .u64 c0], .int .i64 x] w fun e w' => e = .returned (.tuple #[.int .u64 H, .int .u64 G, .bool o]) ∧ Below w.heap.size w w'))
    (cB : Hid (∀ w, Calls Try.prog 12 #[.bool n, .agg #[.int .u64 c1, .int .u64 c0], .int .i64 x] w fun e w' => e = .returned (.tuple #[.int .u64 H, .int .u64 G, .bool o]) ∧ Below w.heap.size w w')) :
    Calls Try.prog 4 #[.bool n, .agg #[.int .u64 c1, .int .u64 c0], .int .i64 x] w fun e w' => e = .returned (.bool true) ∧ Below w.heap.size w w' := by
  go_enter Try.func4, Try.ntmps4
  go_wp2_with fail
  refine (awake14 _).mono ?_
  rintro e w1 ⟨rfl, B1⟩
  have HB := Lib.hid (low_a (Below.refl _ _) B1)
  obtain ⟨i0, i1⟩ := keep_n B1
  clear B1
  go_wp2_with fail
  refine (cA.out _).mono ?_
  rintro e w2 ⟨rfl, B2⟩
  have HB2 := Lib.hid (low_p HB.out B2)
  have j0 := keep_p i0 B2; have j1 := keep_p i1 B2
  clear B2 HB i0 i1
  go_wp2_with fail
  refine (cB.out _).mono ?_
  rintro e w3 ⟨rfl, B3⟩
  have HB3 := Lib.hid (low_p HB2.out B3)
  clear B3 HB2 j0 j1
  go_wp2_with fail
  go_ret
  exact ⟨by first | rfl | (simp; done), HB3.out⟩

set_option maxHeartbeats 400000 in
theorem plains_walk (X L : Int) (o : Bool) (w : World)
    (cA : Hid (∀ w, Calls Try.prog 13 #[.int .u64 X, .int .u64 L] w fun e w' => e = .returned (.bool o) ∧ Below w.heap.size w w'))
    (cB : Hid (∀ w, Calls Try.prog 14 #[.int .u64 X, .int .u64 L] w fun e w' => e = .returned (.bool o) ∧ Below w.heap.size w w')) :
    Calls Try.prog 5 #[.int .u64 X, .int .u64 L] w fun e w' => e = .returned (.bool true) ∧ Below w.heap.size w w' := by
  go_enter Try.func5, Try.ntmps5
  go_wp2_with fail
  refine (awake14 _).mono ?_
  rintro e w1 ⟨rfl, B1⟩
  have HB := Lib.hid B1
  clear B1
  go_wp2_with fail
  refine (cA.out _).mono ?_
  rintro e w2 ⟨rfl, B2⟩
  have HB2 := Lib.hid (low_p HB.out B2)
  clear B2 HB
  go_wp2_with fail
  refine (cB.out _).mono ?_
  rintro e w3 ⟨rfl, B3⟩
  have HB3 := Lib.hid (low_p HB2.out B3)
  clear B3 HB2
  go_wp2_with fail
  go_ret
  exact ⟨by first | rfl | (simp; done), HB3.out⟩

set_option maxHeartbeats 400000 in
theorem back_no (x c1 c0 : Int) (n : Bool) (w : World)
    (cA : Hid (∀ w, Calls Try.prog 11 #[.bool n, .agg #[.int .u64 c1, .int .u64 c0], .int .i64 x] w fun e w' => e = .returned (.tuple #[.int .u64 0, .int .u64 0, .bool false]) ∧ Below w.heap.size w w')) :
    Calls Try.prog 6 #[.bool n, .agg #[.int .u64 c1, .int .u64 c0], .int .i64 x] w fun e w' => e = .returned (.bool true) ∧ Below w.heap.size w w' := by
  go_enter Try.func6, Try.ntmps6
  go_wp2_with fail
  refine (awake14 _).mono ?_
  rintro e w1 ⟨rfl, B1⟩
  have HB := Lib.hid (low_a (Below.refl _ _) B1)
  obtain ⟨i0, i1⟩ := keep_n B1
  clear B1
  go_wp2_with fail
  refine (cA.out _).mono ?_
  rintro e w2 ⟨rfl, B2⟩
  have HB2 := Lib.hid (low_p HB.out B2)
  clear B2 HB i0 i1
  go_wp2_with fail
  go_ret
  exact ⟨by first | rfl | (simp; done), HB2.out⟩

set_option maxHeartbeats 400000 in
theorem back_yes (x c1 c0 H G : Int) (n : Bool) (w : World)
    (cA : Hid (∀ w, Calls Try.prog 11 #[.bool n, .agg #[.int .u64 c1, .int .u64 c0], .int .i64 x] w fun e w' => e = .returned (.tuple #[.int .u64 H, .int .u64 G, .bool true]) ∧ Below w.heap.size w w'))
    (cS : Hid (∀ w, Calls Try.prog 9 #[.int .u64 H, .int .u64 G] w fun e w' => e = .returned (.tuple #[.int .i64 1, .bool n, .agg #[.int .u64 c1, .int .u64 c0], .int .i64 x]) ∧ Below w.heap.size w w'))
    (cP : Hid (∀ w, Calls Try.prog 13 #[.int .u64 H, .int .u64 G] w fun e w' => e = .returned (.bool true) ∧ Below w.heap.size w w')) :
    Calls Try.prog 6 #[.bool n, .agg #[.int .u64 c1, .int .u64 c0], .int .i64 x] w fun e w' => e = .returned (.bool true) ∧ Below w.heap.size w w' := by
  go_enter Try.func6, Try.ntmps6
  go_wp2_with fail
  refine (awake14 _).mono ?_
  rintro e w1 ⟨rfl, B1⟩
  have HB := Lib.hid (low_a (Below.refl _ _) B1)
  obtain ⟨i0, i1⟩ := keep_n B1
  clear B1
  go_wp2_with fail
  refine (cA.out _).mono ?_
  rintro e w2 ⟨rfl, B2⟩
  have HB2 := Lib.hid (low_p HB.out B2)
  have j0 := keep_p i0 B2; have j1 := keep_p i1 B2
  clear B2 HB i0 i1
  go_wp2_with fail
  refine (cS.out _).mono ?_
  rintro e w3 ⟨rfl, B3⟩
  have HB3 := Lib.hid (low_p HB2.out B3)
  have l0 := keep_p j0 B3; have l1 := keep_p j1 B3
  have hl := cell_lt l0
  clear B3 HB2 j0 j1
  go_wp2_with fail
  refine (cP.out _).mono ?_
  rintro e w4 ⟨rfl, B4⟩
  have HB4 := Lib.hid (low_a HB3.out B4)
  have m0 := keep_a l0 B4; have m1 := keep_a l1 B4
  obtain ⟨p0, p1⟩ := keep_n B4
  clear B4 HB3 l0 l1
  go_wp2_with fail
  go_ret
  exact ⟨by first | rfl | (simp; done), HB4.out⟩

set_option maxHeartbeats 400000 in
theorem again_no (X L k H G : Int) (n o : Bool) (w : World) (hk : (k != 1) = true)
    (cS : Hid (∀ w, Calls Try.prog 9 #[.int .u64 X, .int .u64 L] w fun e w' => e = .returned (.tuple #[.int .i64 k, .bool n, .agg #[.int .u64 0, .int .u64 0], .int .i64 0]) ∧ Below w.heap.size w w'))
    (cA : Hid (∀ w, Calls Try.prog 11 #[.bool n, .agg #[.int .u64 0, .int .u64 0], .int .i64 0] w fun e w' => e = .returned (.tuple #[.int .u64 H, .int .u64 G, .bool o]) ∧ Below w.heap.size w w')) :
    Calls Try.prog 7 #[.int .u64 X, .int .u64 L] w fun e w' => e = .returned (.bool true) ∧ Below w.heap.size w w' := by
  go_enter Try.func7, Try.ntmps7
  go_wp2_with fail
  refine (awake14 _).mono ?_
  rintro e w1 ⟨rfl, B1⟩
  have HB := Lib.hid B1
  clear B1
  go_wp2_with fail
  refine (cS.out _).mono ?_
  rintro e w2 ⟨rfl, B2⟩
  have HB2 := Lib.hid (low_p HB.out B2)
  clear B2 HB
  go_wp2_with fail
  refine (cA.out _).mono ?_
  rintro e w3 ⟨rfl, B3⟩
  have HB3 := Lib.hid (low_a HB2.out B3)
  obtain ⟨i0, i1⟩ := keep_n B3
  clear B3 HB2
  go_wp2_with fail
  go_ret
  exact ⟨by first | rfl | (simp; done), HB3.out⟩

set_option maxHeartbeats 400000 in
theorem again_yes (X L x c1 c0 H G : Int) (n b1 b2 p : Bool) (w : World)
    (cS : Hid (∀ w, Calls Try.prog 9 #[.int .u64 X, .int .u64 L] w fun e w' => e = .returned (.tuple #[.int .i64 1, .bool n, .agg #[.int .u64 c1, .int .u64 c0], .int .i64 x]) ∧ Below w.heap.size w w'))
    (cA : Hid (∀ w, Calls Try.prog 11 #[.bool n, .agg #[.int .u64 c1, .int .u64 c0], .int .i64 x] w fun e w' => e = .returned (.tuple #[.int .u64 H, .int .u64 G, .bool true]) ∧ Below w.heap.size w w'))
    (cP : Hid (∀ w, Calls Try.prog 13 #[.int .u64 H, .int .u64 G] w fun e w' => e = .returned (.bool true) ∧ Below w.heap.size w w'))
    (cQ : Hid (∀ w, Calls Try.prog 13 #[.int .u64 X, .int .u64 L] w fun e w' => e = .returned (.bool p) ∧ Below w.heap.size w w'))
    (h1 : (H == X) = b1) (h2 : (G == L) = b2) (hb : (b1 && b2) = p) :
    Calls Try.prog 7 #[.int .u64 X, .int .u64 L] w fun e w' => e = .returned (.bool true) ∧ Below w.heap.size w w' := by
  cases b1 <;> cases b2 <;> simp only [Bool.and_true, Bool.and_false] at hb <;> subst hb
  all_goals (
    go_enter Try.func7, Try.ntmps7
    go_wp2_with fail
    refine (awake14 _).mono ?_
    rintro e w1 ⟨rfl, B1⟩
    have HB := Lib.hid B1
    clear B1
    go_wp2_with fail
    refine (cS.out _).mono ?_
    rintro e w2 ⟨rfl, B2⟩
    have HB2 := Lib.hid (low_p HB.out B2)
    clear B2 HB
    go_wp2_with fail
    refine (cA.out _).mono ?_
    rintro e w3 ⟨rfl, B3⟩
    have HB3 := Lib.hid (low_a HB2.out B3)
    obtain ⟨i0, i1⟩ := keep_n B3
    clear B3 HB2
    go_wp2_with fail
    refine (cP.out _).mono ?_
    rintro e w4 ⟨rfl, B4⟩
    have HB4 := Lib.hid (low_p HB3.out B4)
    clear B4 HB3 i0 i1
    go_wp2_with fail
    refine (cQ.out _).mono ?_
    rintro e w5 ⟨rfl, B5⟩
    have HB5 := Lib.hid (low_p HB4.out B5)
    clear B5 HB4
    go_wp2_with fail
    go_ret
    exact ⟨by first | rfl | (simp; done), HB5.out⟩)

theorem splits_any (h l : Nat) (hh : h < 18446744073709551616) (hl : l < 18446744073709551616) (w : World) :
    Calls Try.prog 3 #[.int .u64 (h : Int), .int .u64 (l : Int)] w fun e w' => e = .returned (.bool true) ∧ Below w.heap.size w w' :=
  splits_walk _ _ _ _ _ _ _ w (Lib.hid fun w => split_any h l hh hl w) (Lib.hid fun w => refSplit_any h l hh hl w)

theorem joins_any (n : Bool) (c : Nat) (hc : c < 340282366920938463463374607431768211456) (x : Int) (hx : -9223372036854775808 ≤ x ∧ x ≤ 9223372036854775807) (w : World) :
    Calls Try.prog 4 #[.bool n, wv c, .int .i64 x] w fun e w' => e = .returned (.bool true) ∧ Below w.heap.size w w' := by
  have a := Lib.hid fun w => join_any n c hc x hx w
  have b := Lib.hid fun w => refJoin_any n c x w
  by_cases j : Joins c x
  · rw [jV_yes j] at a b
    exact joins_walk _ _ _ _ _ _ _ w a b
  · rw [jV_no j] at a b
    exact joins_walk _ _ _ _ _ _ _ w a b

theorem plains_any (h l : Nat) (hh : h < 18446744073709551616) (hl : l < 18446744073709551616) (w : World) :
    Calls Try.prog 5 #[.int .u64 (h : Int), .int .u64 (l : Int)] w fun e w' => e = .returned (.bool true) ∧ Below w.heap.size w w' :=
  plains_walk _ _ _ w (Lib.hid fun w => plain_any h l hh hl w) (Lib.hid fun w => refPlain_any h l hh hl w)

theorem back_any (n : Bool) (c : Nat) (hc : c < 340282366920938463463374607431768211456) (x : Int) (hx : -9223372036854775808 ≤ x ∧ x ≤ 9223372036854775807) (w : World) :
    Calls Try.prog 6 #[.bool n, wv c, .int .i64 x] w fun e w' => e = .returned (.bool true) ∧ Below w.heap.size w w' := by
  have a := Lib.hid fun w => join_any n c hc x hx w
  by_cases j : Joins c x
  · rw [jV_yes j] at a
    obtain ⟨b1, b2, b3, b4⟩ := join_back (n := n) j
    have hH := dH_lt (n := n) j
    have s := Lib.hid fun w => split_any (dH n c x) (c % 18446744073709551616) hH (Nat.mod_lt _ (by decide)) w
    rw [fin_value b1, b2, b3, b4] at s
    have p := Lib.hid fun w => plain_any (dH n c x) (c % 18446744073709551616) hH (Nat.mod_lt _ (by decide)) w
    rw [join_plain j] at p
    exact back_yes _ _ _ _ _ _ w a s p
  · rw [jV_no j] at a
    exact back_no _ _ _ _ w a

theorem again_any (h l : Nat) (hh : h < 18446744073709551616) (hl : l < 18446744073709551616) (w : World) :
    Calls Try.prog 7 #[.int .u64 (h : Int), .int .u64 (l : Int)] w fun e w' => e = .returned (.bool true) ∧ Below w.heap.size w w' := by
  have s := Lib.hid fun w => split_any h l hh hl w
  rcases kinds h with k | ⟨k, hc, hx⟩
  · rw [fin_value k] at s
    have j := split_joins h l
    have hx := dX_in h
    have a := Lib.hid fun w => join_any (dN h) (dC h l) (Nat.lt_trans (dC_lt h l) (by decide)) (dX h) ⟨by omega, by omega⟩ w
    rw [jV_yes j] at a
    have hH := dH_lt (n := dN h) j
    have p := Lib.hid fun w => plain_any (dH (dN h) (dC h l) (dX h)) (dC h l % 18446744073709551616) hH (Nat.mod_lt _ (by decide)) w
    rw [join_plain j] at p
    have q := Lib.hid fun w => plain_any h l hh hl w
    rw [kind_one k] at q
    exact again_yes _ _ _ _ _ _ _ _ _ _ _ w s a p q beq_lit beq_lit (Bool.decide_and _ _).symm
  · have e : ∃ k : Nat, dK h = k ∧ ((k : Int) != 1) = true := by
      rcases k with k | k
      · exact ⟨2, k, rfl⟩
      · exact ⟨3, k, rfl⟩
    obtain ⟨k, k0, k1⟩ := e
    rw [odd_value k0 (hc l) hx] at s
    have a := Lib.hid fun w => join_any (dN h) 0 (by omega) 0 (by omega) w
    rw [jV_yes ⟨by omega, by omega, by omega⟩] at a
    exact again_no _ _ _ _ _ _ _ w k1 s a

end Go.Proofs.Ytfdpokibhdbjoaa
