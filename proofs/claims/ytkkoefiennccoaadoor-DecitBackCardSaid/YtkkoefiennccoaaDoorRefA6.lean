/-
  What the document's limbs, wide and Cmp do; no condition beyond what each contract asks.
-/
import Derived.Test.YtkkoefiennccoaaDoorRefMath6
import Derived.Test.YtkkoefiennccoaaDoorWideG

namespace Go.Proofs.YtkkoefiennccoaaDoor
open Go.RowKit
theorem modK (a : Nat) : (a : Int) % 4294967296 = ((a % 4294967296 : Nat) : Int) := by omega
theorem tmodK (a : Nat) : (a : Int).tmod 4294967296 = ((a % 4294967296 : Nat) : Int) := by rw [Int.tmod_eq_emod_of_nonneg (by omega)]; omega
theorem tdivK (a : Nat) : (a : Int).tdiv 4294967296 = ((a / 4294967296 : Nat) : Int) := by rw [Int.tdiv_eq_ediv_of_nonneg (by omega)]; omega
set_option maxHeartbeats 400000 in
theorem limbs_at (a1 a0 l0 l1 l2 l3 : Nat) (e0 : a0 % 4294967296 = l0) (e1 : a0 / 4294967296 = l1) (e2 : a1 % 4294967296 = l2) (e3 : a1 / 4294967296 = l3) (h0 : l1 < 18446744073709551616) (h1 : l3 < 18446744073709551616) (w : World) :
    Calls Tryd.prog 78 #[.agg #[.int .u64 (a1 : Int), .int .u64 (a0 : Int)]] w fun e w' => e = .returned (.agg #[.int .u64 (l0 : Int), .int .u64 (l1 : Int), .int .u64 (l2 : Int), .int .u64 (l3 : Int)]) ∧
      w' = (w.alloc (.cells #[.int .u64 (a1 : Int), .int .u64 (a0 : Int)] 29)).alloc (.cells #[.int .u64 (l0 : Int), .int .u64 (l1 : Int), .int .u64 (l2 : Int), .int .u64 (l3 : Int)] 108) := by
  have x0 := modK a0; have y0 := tmodK a0; have z0 := divN a0; have u0 := tdivK a0
  have x1 := modK a1; have y1 := tmodK a1; have z1 := divN a1; have u1 := tdivK a1
  have v1 := wrapN l1 h0; have v3 := wrapN l3 h1
  rw [e0] at x0 y0
  rw [e1] at z0 u0
  rw [e2] at x1 y1
  rw [e3] at z1 u1
  clear e0 e1 e2 e3 h0 h1
  go_enter Tryd.func78, Tryd.ntmps78
  go_wp2_with fail
  refine bodyPost_ret (v := .agg #[.int .u64 (l0 : Int), .int .u64 (l1 : Int), .int .u64 (l2 : Int), .int .u64 (l3 : Int)]) (by simp [results, Tryd.results78, go_sem]) rfl ?_
  exact ⟨rfl, rfl⟩
set_option maxHeartbeats 400000 in
theorem wideR_any (o0 o1 o2 o3 o4 o5 h l : Nat) (h0 : o0 < 4294967296) (h1 : o1 < 4294967296) (h2 : o2 < 4294967296) (h3 : o3 < 4294967296) (eh : o3 * 4294967296 + o2 = h) (el : o1 * 4294967296 + o0 = l) (w : World) :
    Calls Tryd.prog 79 #[.agg #[.int .u64 (o0 : Int), .int .u64 (o1 : Int), .int .u64 (o2 : Int), .int .u64 (o3 : Int), .int .u64 (o4 : Int), .int .u64 (o5 : Int)]] w fun e w' => e = .returned (.agg #[.int .u64 (h : Int), .int .u64 (l : Int)]) ∧ Below w.heap.size w w' := by
  obtain ⟨p3, e3⟩ : ∃ p3, o3 * 4294967296 = p3 := ⟨_, rfl⟩
  obtain ⟨p1, e1⟩ : ∃ p1, o1 * 4294967296 = p1 := ⟨_, rfl⟩
  have x3 : IntKind.u64.wrap ((o3 : Int) * 4294967296) = (p3 : Int) := by rw [IntKind.wrap_u64]; omega
  have x1 : IntKind.u64.wrap ((o1 : Int) * 4294967296) = (p1 : Int) := by rw [IntKind.wrap_u64]; omega
  have y3 : IntKind.u64.wrap ((p3 : Int) + (o2 : Int)) = (h : Int) := by rw [IntKind.wrap_u64]; omega
  have y1 : IntKind.u64.wrap ((p1 : Int) + (o0 : Int)) = (l : Int) := by rw [IntKind.wrap_u64]; omega
  clear h0 h1 h2 h3 eh el e3 e1
  go_enter Tryd.func79, Tryd.ntmps79
  go_wp2_with fail
  refine bodyPost_ret (v := .agg #[.int .u64 (h : Int), .int .u64 (l : Int)]) (by simp [results, Tryd.results79, go_sem]) rfl ?_
  exact ⟨rfl, ((Below.refl _ _).alloc (Nat.le_refl _) _).alloc (by simp) _⟩
set_option maxHeartbeats 1000000 in
theorem refCmp_core (a1 a0 b1 b0 : Nat) (r : Int) (w : World)
    (h : Hid ((((a1 : Int) == (b1 : Int)) = false ∧ ((decide ((a1 : Int) < (b1 : Int)) = true ∧ decide (a1 < b1) = true ∧ r = -1) ∨ (decide ((a1 : Int) < (b1 : Int)) = false ∧ decide (a1 < b1) = false ∧ r = 1))) ∨
      (((a1 : Int) == (b1 : Int)) = true ∧ (decide ((a1 : Int) < (b1 : Int)) = false ∧ decide (a1 < b1) = false) ∧ ((((a0 : Int) == (b0 : Int)) = true ∧ decide ((a0 : Int) < (b0 : Int)) = false ∧ decide (a0 < b0) = false ∧ r = 0) ∨
        (((a0 : Int) == (b0 : Int)) = false ∧ ((decide ((a0 : Int) < (b0 : Int)) = true ∧ decide (a0 < b0) = true ∧ r = -1) ∨ (decide ((a0 : Int) < (b0 : Int)) = false ∧ decide (a0 < b0) = false ∧ r = 1))))))) :
    Calls Tryd.prog 17 #[.agg #[.int .u64 (a1 : Int), .int .u64 (a0 : Int)], .agg #[.int .u64 (b1 : Int), .int .u64 (b0 : Int)]] w fun e w' => e = .returned (.int .i64 r) ∧ Below w.heap.size w w' := by
  rcases h.out with ⟨x1, ⟨x2, x3, hr⟩ | ⟨x2, x3, hr⟩⟩ | ⟨x1, ⟨x2, x3⟩, ⟨x4, x5, x6, hr⟩ | ⟨x4, ⟨x5, x6, hr⟩ | ⟨x5, x6, hr⟩⟩⟩
  all_goals (
    subst hr
    clear h
    go_enter Tryd.func17, Tryd.ntmps17
    go_wp2_with fail
    go_ret
    exact ⟨rfl, ((Below.refl _ _).alloc (Nat.le_refl _) _).alloc (by simp) _⟩)
theorem lt_true {a b : Nat} (h : a < b) : decide ((a : Int) < (b : Int)) = true ∧ decide (a < b) = true := ⟨decide_eq_true (by omega), decide_eq_true h⟩
theorem lt_false {a b : Nat} (h : ¬ a < b) : decide ((a : Int) < (b : Int)) = false ∧ decide (a < b) = false := ⟨decide_eq_false (by omega), decide_eq_false h⟩
theorem ne_false {a b : Nat} (h : a ≠ b) : ((a : Int) == (b : Int)) = false := by rw [beq_eq_false_iff_ne]; omega
theorem refCmp_any (a b : Nat) (w : World) :
    Calls Tryd.prog 17 #[wv a, wv b] w fun e w' => e = .returned (.int .i64 (cmpI a b)) ∧ Below w.heap.size w w' := by
  refine refCmp_core _ _ _ _ _ w ?_
  by_cases h1 : a / 18446744073709551616 = b / 18446744073709551616
  · right
    refine ⟨by rw [h1]; simp, lt_false (by omega), ?_⟩
    by_cases h0 : a % 18446744073709551616 = b % 18446744073709551616
    · left
      exact ⟨by rw [h0]; simp, (lt_false (by omega)).1, (lt_false (by omega)).2, by unfold cmpI; rw [if_neg (by omega), if_neg (by omega)]⟩
    · right
      refine ⟨ne_false h0, ?_⟩
      by_cases h2 : a % 18446744073709551616 < b % 18446744073709551616
      · exact .inl ⟨(lt_true h2).1, (lt_true h2).2, by unfold cmpI; rw [if_pos (by omega)]⟩
      · exact .inr ⟨(lt_false h2).1, (lt_false h2).2, by unfold cmpI; rw [if_neg (by omega), if_pos (by omega)]⟩
  · left
    refine ⟨ne_false h1, ?_⟩
    by_cases h2 : a / 18446744073709551616 < b / 18446744073709551616
    · exact .inl ⟨(lt_true h2).1, (lt_true h2).2, by unfold cmpI; rw [if_pos (by omega)]⟩
    · exact .inr ⟨(lt_false h2).1, (lt_false h2).2, by unfold cmpI; rw [if_neg (by omega), if_pos (by omega)]⟩
end Go.Proofs.YtkkoefiennccoaaDoor
