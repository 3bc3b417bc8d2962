/-
  What the document's Join does; for all coefficients and all exponents; no condition.
-/
import Derived.Test.YtkkoefiennccoaaDoorRefD14
namespace Go.Proofs.YtkkoefiennccoaaDoor
set_option maxRecDepth 100000
open Go.RowKit

theorem low_drewN {B : Nat} {a w : World} (h : Below B a w) (n : Nat) : Below B a (w.drewN n) := ⟨h.os, h.tape, h.output, h.size, h.block⟩

set_option maxHeartbeats 400000 in
theorem refJoin_no (n : Bool) (c1 c0 x r : Int) (w : World)
    (cC : Hid (∀ w, Calls Tryd.prog 17 #[.agg #[.int .u64 c1, .int .u64 c0], .agg #[.int .u64 542101086242752, .int .u64 4003012203950112768]] w fun e w' => e = .returned (.int .i64 r) ∧ Below w.heap.size w w'))
    (g : decide (0 ≤ r) = true ∨ (decide (0 ≤ r) = false ∧ (decide (x < -6176) = true ∨ (decide (x < -6176) = false ∧ decide (6111 < x) = true)))) :
    Calls Tryd.prog 10 #[.bool n, .agg #[.int .u64 c1, .int .u64 c0], .int .i64 x] w fun e w' => e = .returned (.tuple #[.int .u64 0, .int .u64 0, .bool false]) ∧ Below w.heap.size w w' := by
  have cT := Lib.hid ten34_any
  obtain ⟨W, hW⟩ : ∃ W, W = w.alloc (Obj.cells #[.int .u64 c1, .int .u64 c0] 29) := ⟨_, rfl⟩
  have j0 : W.cell? ⟨w.heap.size, 0, none⟩ = some (.int .u64 c1) := by rw [hW]; simp [go_sem]
  have j1 : W.cell? ⟨w.heap.size, 1, none⟩ = some (.int .u64 c0) := by rw [hW]; simp [go_sem]
  have hB : Below w.heap.size w W := by rw [hW]; exact (Below.refl _ _).alloc (Nat.le_refl _) _
  have k0 := cell_regrown j0; have k1 := cell_regrown j1
  have HB := Lib.hid hB
  have q1 : ∀ d os, Calls Tryd.prog 18 #[] (Sort.grow (redrawn W d) os) fun x w'' => x = .returned (.agg #[.int .u64 542101086242752, .int .u64 4003012203950112768]) ∧ ∃ p : Regrown, w'' = Sort.grow (redrawn W p.d) p.os := fun d os => Calls.regrown_of (cT.out _)
  have q2 : ∀ d os, Calls Tryd.prog 17 #[.agg #[.int .u64 c1, .int .u64 c0], .agg #[.int .u64 542101086242752, .int .u64 4003012203950112768]] (Sort.grow (redrawn W d) os) fun x w'' => x = .returned (.int .i64 r) ∧ ∃ p : Regrown, w'' = Sort.grow (redrawn W p.d) p.os := fun d os => Calls.regrown_of (cC.out _)
  have Q1 := Lib.hid q1; have Q2 := Lib.hid q2; have K0 := Lib.hid k0; have K1 := Lib.hid k1
  clear j0 j1 hB k0 k1 q1 q2 cC cT
  rcases g with g | ⟨g, g' | ⟨g', g''⟩⟩
  all_goals (
    go_enter Tryd.func10, Tryd.ntmps10
    go_wp2_with fail
    rw [← hW]
    clear hW
    have k0 := K0.out; have k1 := K1.out; have q1 := Q1.out; have q2 := Q2.out
    refine wp_region_quiet_below (by kernel_rfl) (by kernel_rfl) ?_
    repeat (go_big_quiet_step (first | with_reducible exact q1 _ _ | with_reducible exact q2 _ _))
    refine wpQuiet_nil ?_
    intro _ hw'
    obtain ⟨⟨dq, osq⟩, hw''⟩ := hw'
    subst hw''
    have B3 := HB.out.trans ((below_regrown W dq osq).mono HB.out.size)
    clear k0 k1 q1 q2
    go_wp2_with fail
    go_ret3
    exact ⟨rfl, B3⟩)

set_option maxHeartbeats 400000 in
theorem refJoin_yes (n : Bool) (c1 c0 x y z s H r : Int) (w : World)
    (cC : Hid (∀ w, Calls Tryd.prog 17 #[.agg #[.int .u64 c1, .int .u64 c0], .agg #[.int .u64 542101086242752, .int .u64 4003012203950112768]] w fun e w' => e = .returned (.int .i64 r) ∧ Below w.heap.size w w'))
    (g : decide (0 ≤ r) = false) (g' : decide (x < -6176) = false) (g'' : decide (6111 < x) = false)
    (hy : wrap64 (x + 6176) = y) (hy' : IntKind.u64.wrap y = y) (hz : IntKind.u64.wrap (y * 562949953421312) = z) (hs : IntKind.u64.wrap (z + c1) = s)
    (hH : (n = false ∧ H = s) ∨ (n = true ∧ IntKind.u64.wrap (s + 9223372036854775808) = H)) :
    Calls Tryd.prog 10 #[.bool n, .agg #[.int .u64 c1, .int .u64 c0], .int .i64 x] w fun e w' => e = .returned (.tuple #[.int .u64 H, .int .u64 c0, .bool true]) ∧ Below w.heap.size w w' := by
  have cT := Lib.hid ten34_any
  obtain ⟨W, hW⟩ : ∃ W, W = w.alloc (Obj.cells #[.int .u64 c1, .int .u64 c0] 29) := ⟨_, rfl⟩
  have j0 : W.cell? ⟨w.heap.size, 0, none⟩ = some (.int .u64 c1) := by rw [hW]; simp [go_sem]
  have j1 : W.cell? ⟨w.heap.size, 1, none⟩ = some (.int .u64 c0) := by rw [hW]; simp [go_sem]
  have hB : Below w.heap.size w W := by rw [hW]; exact (Below.refl _ _).alloc (Nat.le_refl _) _
  have k0 := cell_regrown j0; have k1 := cell_regrown j1
  have HB := Lib.hid hB
  have q1 : ∀ d os, Calls Tryd.prog 18 #[] (Sort.grow (redrawn W d) os) fun x w'' => x = .returned (.agg #[.int .u64 542101086242752, .int .u64 4003012203950112768]) ∧ ∃ p : Regrown, w'' = Sort.grow (redrawn W p.d) p.os := fun d os => Calls.regrown_of (cT.out _)
  have q2 : ∀ d os, Calls Tryd.prog 17 #[.agg #[.int .u64 c1, .int .u64 c0], .agg #[.int .u64 542101086242752, .int .u64 4003012203950112768]] (Sort.grow (redrawn W d) os) fun x w'' => x = .returned (.int .i64 r) ∧ ∃ p : Regrown, w'' = Sort.grow (redrawn W p.d) p.os := fun d os => Calls.regrown_of (cC.out _)
  have Q1 := Lib.hid q1; have Q2 := Lib.hid q2; have K0 := Lib.hid k0; have K1 := Lib.hid k1
  clear j0 j1 hB k0 k1 q1 q2 cC cT
  rcases hH with ⟨rfl, rfl⟩ | ⟨rfl, hH⟩
  all_goals (
    go_enter Tryd.func10, Tryd.ntmps10
    go_wp2_with fail
    rw [← hW]
    clear hW
    have k0 := K0.out; have k1 := K1.out; have q1 := Q1.out; have q2 := Q2.out
    refine wp_region_quiet_below (by kernel_rfl) (by kernel_rfl) ?_
    repeat (go_big_quiet_step (first | with_reducible exact q1 _ _ | with_reducible exact q2 _ _))
    refine wpQuiet_nil ?_
    intro _ hw'
    obtain ⟨⟨dq, osq⟩, hw''⟩ := hw'
    subst hw''
    have B3 := Lib.hid (HB.out.trans ((below_regrown W dq osq).mono HB.out.size))
    have l0 := k0 dq osq; have l1 := k1 dq osq
    generalize Sort.grow (redrawn W dq) osq = V at *
    clear k0 k1 q1 q2
    go_wp2_with fail
    go_quiet (fail)
    go_wp2_with fail
    go_ret3
    exact ⟨by first | rfl | (simp; done), by first | exact B3.out | exact B3.out.drew | exact low_drewN B3.out _⟩)

/-- What Join tells. -/
def jV (n : Bool) (c : Nat) (x : Int) : Value := if Joins c x then .tuple #[.int .u64 (dH n c x : Nat), .int .u64 (c % 18446744073709551616 : Nat), .bool true] else .tuple #[.int .u64 0, .int .u64 0, .bool false]
theorem jV_yes {n : Bool} {c : Nat} {x : Int} (j : Joins c x) : jV n c x = .tuple #[.int .u64 (dH n c x : Nat), .int .u64 (c % 18446744073709551616 : Nat), .bool true] := if_pos j
theorem jV_no {n : Bool} {c : Nat} {x : Int} (j : ¬ Joins c x) : jV n c x = .tuple #[.int .u64 0, .int .u64 0, .bool false] := if_neg j
theorem cmp_big {c : Nat} (q : ¬ c < 10000000000000000000000000000000000) : decide (0 ≤ cmpI c 10000000000000000000000000000000000) = true := by
  refine decide_eq_true ?_
  unfold cmpI
  rw [if_neg q]
  split <;> decide
theorem cmp_small {c : Nat} (q : c < 10000000000000000000000000000000000) : decide (0 ≤ cmpI c 10000000000000000000000000000000000) = false := by
  rw [show cmpI c 10000000000000000000000000000000000 = -1 from if_pos q]
  rfl
/-- The numbers of a join, one by one. -/
theorem join_nums {n : Bool} {c : Nat} {x : Int} (j : Joins c x) : ∃ y z s : Int, wrap64 (x + 6176) = y ∧ IntKind.u64.wrap y = y ∧ IntKind.u64.wrap (y * 562949953421312) = z ∧ IntKind.u64.wrap (z + ((c / 18446744073709551616 : Nat) : Int)) = s ∧
    ((n = false ∧ ((dH n c x : Nat) : Int) = s) ∨ (n = true ∧ IntKind.u64.wrap (s + 9223372036854775808) = ((dH n c x : Nat) : Int))) := by
  obtain ⟨a, b, d⟩ := j
  have h1 := high_lt a
  obtain ⟨k, rfl⟩ : ∃ k : Nat, x = (k : Int) - 6176 := ⟨(x + 6176).toNat, by omega⟩
  have hk : k < 12288 := by omega
  have ek : ((k : Int) - 6176 + 6176).toNat = k := by omega
  obtain ⟨c1, e1⟩ : ∃ c1, c / 18446744073709551616 = c1 := ⟨_, rfl⟩
  rw [e1] at h1
  refine ⟨(k : Int), (k * 562949953421312 : Nat), (k * 562949953421312 + c1 : Nat), ?_, ?_, ?_, ?_, ?_⟩
  · unfold wrap64; omega
  · rw [IntKind.wrap_u64]; omega
  · rw [IntKind.wrap_u64]; omega
  · rw [e1, IntKind.wrap_u64]; omega
  · unfold dH
    rw [ek, e1]
    cases n
    · left; exact ⟨rfl, by simp⟩
    · right
      refine ⟨rfl, ?_⟩
      rw [IntKind.wrap_u64, if_pos rfl]
      omega

theorem refJoin_any (n : Bool) (c : Nat) (x : Int) (w : World) :
    Calls Tryd.prog 10 #[.bool n, wv c, .int .i64 x] w fun e w' => e = .returned (jV n c x) ∧ Below w.heap.size w w' := by
  have cC := Lib.hid fun w => refCmp_any c 10000000000000000000000000000000000 w
  by_cases q : c < 10000000000000000000000000000000000
  · have g := cmp_small q
    by_cases a : x < -6176
    · rw [jV_no (fun j => by have := j.2.1; omega)]
      exact refJoin_no n _ _ x _ w cC (.inr ⟨g, .inl (decide_eq_true a)⟩)
    by_cases b : 6111 < x
    · rw [jV_no (fun j => by have := j.2.2; omega)]
      exact refJoin_no n _ _ x _ w cC (.inr ⟨g, .inr ⟨decide_eq_false a, decide_eq_true b⟩⟩)
    have j : Joins c x := ⟨q, by omega, by omega⟩
    rw [jV_yes j]
    obtain ⟨y, z, s, h1, h2, h3, h4, h5⟩ := join_nums (n := n) j
    exact refJoin_yes n _ _ x y z s _ _ w cC g (decide_eq_false a) (decide_eq_false b) h1 h2 h3 h4 h5
  · rw [jV_no (fun j => q j.1)]
    exact refJoin_no n _ _ x _ w cC (.inl (cmp_big q))
end Go.Proofs.YtkkoefiennccoaaDoor
