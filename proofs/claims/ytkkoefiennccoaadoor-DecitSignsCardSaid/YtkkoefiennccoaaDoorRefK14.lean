/-
  What the document's Plain does; for all bits; no condition.
-/
import Derived.Test.YtkkoefiennccoaaDoorRefJ14

namespace Go.Proofs.YtkkoefiennccoaaDoor
open Go.RowKit
set_option maxHeartbeats 400000 in
theorem refPlain_nan (X L : Int) (n b1 b2 b : Bool) (w : World)
    (cS : Hid (∀ w, Calls Tryd.prog 8 #[.int .u64 X, .int .u64 L] w fun e w' => e = .returned (.tuple #[.int .i64 3, .bool n, .agg #[.int .u64 0, .int .u64 0], .int .i64 0]) ∧ Below w.heap.size w w'))
    (h1 : (X == 8935141660703064064) = b1) (h2 : (L == 0) = b2) (hb : (b1 && b2) = b) :
    Calls Tryd.prog 9 #[.int .u64 X, .int .u64 L] w fun e w' => e = .returned (.bool b) ∧ Below w.heap.size w w' := by
  cases b1 <;> cases b2 <;> simp only [Bool.and_true, Bool.and_false] at hb <;> subst hb
  all_goals (
    go_enter Tryd.func9, Tryd.ntmps9
    go_wp2_with fail
    refine (cS.out _).mono ?_
    rintro e w1 ⟨rfl, B1⟩
    go_wp2_with fail
    go_ret
    exact ⟨by first | rfl | (simp; done), B1.alloc B1.size _⟩)
set_option maxHeartbeats 400000 in
theorem refPlain_inf (X L : Int) (n b1 b2 b3 b : Bool) (w : World)
    (cS : Hid (∀ w, Calls Tryd.prog 8 #[.int .u64 X, .int .u64 L] w fun e w' => e = .returned (.tuple #[.int .i64 2, .bool n, .agg #[.int .u64 0, .int .u64 0], .int .i64 0]) ∧ Below w.heap.size w w'))
    (h1 : (X == 8646911284551352320) = b1) (h3 : (X == 17870283321406128128) = b3) (h2 : (L == 0) = b2) (hb : ((b1 || b3) && b2) = b) :
    Calls Tryd.prog 9 #[.int .u64 X, .int .u64 L] w fun e w' => e = .returned (.bool b) ∧ Below w.heap.size w w' := by
  cases b1 <;> cases b2 <;> cases b3 <;> simp only [Bool.and_true, Bool.and_false, Bool.or_true, Bool.or_false, Bool.and_self, Bool.or_self] at hb <;> subst hb
  all_goals (
    go_enter Tryd.func9, Tryd.ntmps9
    go_wp2_with fail
    refine (cS.out _).mono ?_
    rintro e w1 ⟨rfl, B1⟩
    go_wp2_with fail
    go_ret
    exact ⟨by first | rfl | (simp; done), B1.alloc B1.size _⟩)
set_option maxHeartbeats 400000 in
theorem refPlain_fin (X L c1 c0 x H G : Int) (n b1 b2 b : Bool) (w : World)
    (cS : Hid (∀ w, Calls Tryd.prog 8 #[.int .u64 X, .int .u64 L] w fun e w' => e = .returned (.tuple #[.int .i64 1, .bool n, .agg #[.int .u64 c1, .int .u64 c0], .int .i64 x]) ∧ Below w.heap.size w w'))
    (cJ : Hid (∀ w, Calls Tryd.prog 10 #[.bool n, .agg #[.int .u64 c1, .int .u64 c0], .int .i64 x] w fun e w' => e = .returned (.tuple #[.int .u64 H, .int .u64 G, .bool true]) ∧ Below w.heap.size w w'))
    (h1 : (H == X) = b1) (h2 : (G == L) = b2) (hb : (b1 && b2) = b) :
    Calls Tryd.prog 9 #[.int .u64 X, .int .u64 L] w fun e w' => e = .returned (.bool b) ∧ Below w.heap.size w w' := by
  cases b1 <;> cases b2 <;> simp only [Bool.and_true, Bool.and_false] at hb <;> subst hb
  all_goals (
    go_enter Tryd.func9, Tryd.ntmps9
    go_wp2_with fail
    refine (cS.out _).mono ?_
    rintro e w1 ⟨rfl, B1⟩
    go_wp2_with fail
    refine (cJ.out _).mono ?_
    rintro e w2 ⟨rfl, B2⟩
    have HB := Lib.hid (low_a B1 B2)
    clear B1 B2
    go_wp2_with fail
    go_ret
    exact ⟨by first | rfl | (simp; done), HB.out⟩)
theorem beq_lit {a b : Nat} : ((a : Int) == (b : Int)) = decide (a = b) := by
  rw [Bool.eq_iff_iff, beq_iff_eq, decide_eq_true_iff]
  omega
theorem fin_value {h l : Nat} (k : dK h = 1) : dV h l = .tuple #[.int .i64 1, .bool (dN h), wv (dC h l), .int .i64 (dX h)] := by
  unfold dV
  rw [k]
  rfl
theorem odd_value {h l k : Nat} (k0 : dK h = k) (c : dC h l = 0) (x : dX h = 0) : dV h l = .tuple #[.int .i64 (k : Nat), .bool (dN h), .agg #[.int .u64 0, .int .u64 0], .int .i64 0] := by
  unfold dV
  rw [k0, c, x]
  rfl
theorem refPlain_any (h l : Nat) (hh : h < 18446744073709551616) (hl : l < 18446744073709551616) (w : World) :
    Calls Tryd.prog 9 #[.int .u64 (h : Int), .int .u64 (l : Int)] w fun e w' => e = .returned (.bool (dP h l)) ∧ Below w.heap.size w w' := by
  have c := Lib.hid fun w => refSplit_any h l hh hl w
  rcases kinds h with k | ⟨k | k, hc, hx⟩
  · rw [fin_value k] at c
    have cJ := Lib.hid fun w => refJoin_any (dN h) (dC h l) (dX h) w
    rw [jV_yes (split_joins h l)] at cJ
    rw [kind_one k]
    refine refPlain_fin _ _ _ _ _ _ _ _ _ _ _ w c cJ beq_lit beq_lit ?_
    rw [← Bool.decide_and]
  · rw [odd_value k (hc l) hx] at c
    refine refPlain_inf _ _ _ _ _ _ _ w c (beq_lit (b := 8646911284551352320)) (beq_lit (b := 17870283321406128128)) (beq_lit (b := 0)) ?_
    unfold dP
    rw [if_neg (by omega), if_pos k, Bool.decide_and, Bool.decide_or]
  · rw [odd_value k (hc l) hx] at c
    refine refPlain_nan _ _ _ _ _ _ w c (beq_lit (b := 8935141660703064064)) (beq_lit (b := 0)) ?_
    unfold dP
    rw [if_pos k, Bool.decide_and]
end Go.Proofs.YtkkoefiennccoaaDoor
