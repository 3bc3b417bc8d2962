/-
  What deci's Split does; for all bits; no condition.
-/
import Derived.Test.YtkkoefiennccoaaDoorDeciA

namespace Go.Proofs.YtkkoefiennccoaaDoor
set_option maxRecDepth 100000
open Go.RowKit
set_option maxHeartbeats 400000 in
theorem split_nan (X S B L : Int) (s : Bool) (w : World) (hS : bits .and .u64 X 9223372036854775808 = S) (hs : (S != 0) = s) (hB : X / 288230376151711744 = B) (hE : bits .and .u64 B 31 = 31) :
    Calls Tryd.prog 14 #[.int .u64 X, .int .u64 L] w fun e w' => e = .returned (.tuple #[.int .i64 3, .bool s, .agg #[.int .u64 0, .int .u64 0], .int .i64 0]) ∧ Below w.heap.size w w' := by
  go_enter Tryd.func14, Tryd.ntmps14
  go_wp2_with fail
  refine bodyPost_ret (results_mid rfl _ _ w.heap.size _ rfl (load_wide (heap_alloc_new _ _))) rfl ?_
  exact ⟨by first | rfl | (simp; done), (Below.refl _ _).alloc (Nat.le_refl _) _⟩
set_option maxHeartbeats 400000 in
theorem split_inf (X S B L : Int) (s : Bool) (w : World) (hS : bits .and .u64 X 9223372036854775808 = S) (hs : (S != 0) = s) (hB : X / 288230376151711744 = B) (hE : bits .and .u64 B 31 = 30) :
    Calls Tryd.prog 14 #[.int .u64 X, .int .u64 L] w fun e w' => e = .returned (.tuple #[.int .i64 2, .bool s, .agg #[.int .u64 0, .int .u64 0], .int .i64 0]) ∧ Below w.heap.size w w' := by
  go_enter Tryd.func14, Tryd.ntmps14
  go_wp2_with fail
  refine bodyPost_ret (results_mid rfl _ _ w.heap.size _ rfl (load_wide (heap_alloc_new _ _))) rfl ?_
  exact ⟨by first | rfl | (simp; done), (Below.refl _ _).alloc (Nat.le_refl _) _⟩
set_option maxHeartbeats 400000 in
theorem split_odd (X S B E x L : Int) (s : Bool) (w : World) (hS : bits .and .u64 X 9223372036854775808 = S) (hs : (S != 0) = s) (hB : X / 288230376151711744 = B) (hE : bits .and .u64 B 31 = E) (e1 : (E == 31) = false) (e2 : (E == 30) = false) (e3 : decide (24 ≤ E) = true)
    (cE : Hid (∀ w, Calls Tryd.prog 28 #[.int .u64 X, .int .i64 47] w fun e w' => e = .returned (.int .i64 x) ∧ w = w')) :
    Calls Tryd.prog 14 #[.int .u64 X, .int .u64 L] w fun e w' => e = .returned (.tuple #[.int .i64 1, .bool s, .agg #[.int .u64 0, .int .u64 0], .int .i64 x]) ∧ Below w.heap.size w w' := by
  go_enter Tryd.func14, Tryd.ntmps14
  go_wp2_with fail
  refine (cE.out _).mono ?_
  rintro e w1 ⟨rfl, hw⟩
  subst hw
  clear cE
  go_wp2_with fail
  refine bodyPost_ret (results_mid rfl _ _ w.heap.size _ rfl (load_wide (heap_alloc_new _ _))) rfl ?_
  exact ⟨by first | rfl | (simp; done), (Below.refl _ _).alloc (Nat.le_refl _) _⟩
set_option maxRecDepth 100000 in
set_option maxHeartbeats 400000 in
theorem split_fin (X S B E H x L c1 c0 : Int) (s g : Bool) (w : World) (hS : bits .and .u64 X 9223372036854775808 = S) (hs : (S != 0) = s) (hB : X / 288230376151711744 = B) (hE : bits .and .u64 B 31 = E) (e1 : (E == 31) = false) (e2 : (E == 30) = false) (e3 : decide (24 ≤ E) = false)
    (hH : bits .and .u64 X 562949953421311 = H)
    (cF : Hid (∀ w, Calls Tryd.prog 19 #[.agg #[.int .u64 H, .int .u64 L]] w fun e w' => e = .returned (.bool g) ∧ Below w.heap.size w w'))
    (cE : Hid (∀ w, Calls Tryd.prog 28 #[.int .u64 X, .int .i64 49] w fun e w' => e = .returned (.int .i64 x) ∧ w = w')) (hg : (g = true ∧ H = c1 ∧ L = c0) ∨ (g = false ∧ c1 = 0 ∧ c0 = 0)) :
    Calls Tryd.prog 14 #[.int .u64 X, .int .u64 L] w fun e w' => e = .returned (.tuple #[.int .i64 1, .bool s, .agg #[.int .u64 c1, .int .u64 c0], .int .i64 x]) ∧ Below w.heap.size w w' := by
  rcases hg with ⟨rfl, rfl, rfl⟩ | ⟨rfl, rfl, rfl⟩
  · go_enter Tryd.func14, Tryd.ntmps14
    go_wp2_with fail
    refine (cF.out _).mono ?_
    rintro e w1 ⟨rfl, B1⟩
    have HB := Lib.hid (low_a (Below.refl _ _) B1)
    have R := Lib.hid ((B1.block w.heap.size (by simp)).trans (heap_alloc_new w _))
    have hlt := block_lt R.out
    have i0 := block_cell R.out 0; have i1 := block_cell R.out 1
    have f0 := block_frozen R.out 0; have f1 := block_frozen R.out 1
    simp at i0 i1
    clear B1 cF
    go_wp2_with fail
    generalize hn : w.heap.size = n at *
    go_still_tail 6, (by kernel_rfl)
    still_call ((cE.out _).mono fun _ _ h => ⟨h.1, h.2.symm⟩)
    repeat still_step
    refine wpStill_nil ?_
    change wpList _ _ _ _ _ w1.drew
    have j0 := cell_drew i0; have j1 := cell_drew i1
    have S1 : Hid (w1.drew.heap[n]? = _) := R
    have HB3 : Hid (Below n w w1.drew) := HB.out.drew
    have g0 := block_frozen S1.out 0; have g1 := block_frozen S1.out 1
    have hl := block_lt S1.out
    generalize w1.drew = U at *
    clear cE i0 i1 f0 f1 hlt HB R
    go_wp2_with fail
    refine bodyPost_ret (results_mid rfl _ _ n _ rfl (load_wide (two_set S1.out))) rfl ?_
    exact ⟨by first | rfl | (simp; done), by rw [← hn] at HB3 ⊢; exact below_two HB3.out (Nat.le_refl _) _ _⟩
  · go_enter Tryd.func14, Tryd.ntmps14
    go_wp2_with fail
    refine (cF.out _).mono ?_
    rintro e w1 ⟨rfl, B1⟩
    have HB := Lib.hid (low_a (Below.refl _ _) B1)
    have R := Lib.hid ((B1.block w.heap.size (by simp)).trans (heap_alloc_new w _))
    have hlt := block_lt R.out
    have i0 := block_cell R.out 0; have i1 := block_cell R.out 1
    have f0 := block_frozen R.out 0; have f1 := block_frozen R.out 1
    simp at i0 i1
    clear B1 cF
    go_wp2_with fail
    generalize hV : (w1.setCell { block := w.heap.size, off := 0 } (Value.int IntKind.u64 0)).setCell { block := w.heap.size, off := 1 } (Value.int IntKind.u64 0) = V
    have S0 := Lib.hid (show V.heap[w.heap.size]? = some (.cells #[.int .u64 0, .int .u64 0] 29 (0, 0)) by rw [← hV]; exact two_set R.out)
    have HB2 : Hid (Below w.heap.size w V) := by rw [← hV]; exact below_two HB.out (Nat.le_refl _) _ _
    clear hV R HB i0 i1 f0 f1 hlt
    have hlt := block_lt S0.out
    have i0 := block_cell S0.out 0; have i1 := block_cell S0.out 1
    have f0 := block_frozen S0.out 0; have f1 := block_frozen S0.out 1
    simp at i0 i1
    generalize hn : w.heap.size = n at *
    go_still_tail 6, (by kernel_rfl)
    still_call ((cE.out _).mono fun _ _ h => ⟨h.1, h.2.symm⟩)
    repeat still_step
    refine wpStill_nil ?_
    change wpList _ _ _ _ _ V.drew
    have j0 := cell_drew i0; have j1 := cell_drew i1
    have S1 : Hid (V.drew.heap[n]? = _) := S0
    have HB3 : Hid (Below n w V.drew) := HB2.out.drew
    have g0 := block_frozen S1.out 0; have g1 := block_frozen S1.out 1
    have hl := block_lt S1.out
    generalize V.drew = U at *
    clear cE i0 i1 f0 f1 hlt HB2 S0
    go_wp2_with fail
    refine bodyPost_ret (results_mid rfl _ _ n _ rfl (load_wide (two_set S1.out))) rfl ?_
    exact ⟨by first | rfl | (simp; done), by rw [← hn] at HB3 ⊢; exact below_two HB3.out (Nat.le_refl _) _ _⟩
end Go.Proofs.YtkkoefiennccoaaDoor
