/-
  The walk of the law FaultWithin; no condition beyond what the package-level variables hold.
-/
import Derived.Test.YtbfneeggfaoeaaaDoorBack5Walk
import Derived.Lib.QuietBelow
import Derived.BigQuiet
namespace Go.Proofs.YtbfneeggfaoeaaaDoor
open Go.RowKit

/-- The three cells of a reason in memory. -/
theorem box_cells {W : World} {g : Nat} {x y z : Value} (h : W.heap[g]? = some (.cells #[x, y, z] 30)) :
    W.cell? ⟨g, 0, none⟩ = some x ∧ W.cell? ⟨g, 1, none⟩ = some y ∧ W.cell? ⟨g, 2, none⟩ = some z :=
  ⟨by rw [block_cell h]; rfl, by rw [block_cell h]; rfl, by rw [block_cell h]; rfl⟩

set_option maxHeartbeats 4000000 in
theorem within_walk (e a : Int) (A : Option Addr) (n c : Nat) (m : Int) (w : World) (hL : Laid w) :
    Calls Tryd.prog 7 #[.agg #[.int .i64 e, .int .i64 a, .slice A n c], .int .i64 m] w fun x w' => x = .returned (.bool true) ∧ Below w.heap.size w w' := by
  have B1 : Below w.heap.size w (w.alloc (.cells #[.int .i64 e, .int .i64 a, .slice A n c] 30)) := (Below.refl _ _).alloc (Nat.le_refl _) _
  have hb1 : (w.alloc (.cells #[.int .i64 e, .int .i64 a, .slice A n c] 30)).heap[w.heap.size]? = some (.cells #[.int .i64 e, .int .i64 a, .slice A n c] 30) := heap_alloc_new w _
  have s1 : (w.alloc (.cells #[.int .i64 e, .int .i64 a, .slice A n c] 30)).heap.size = w.heap.size + 1 := by simp
  go_enter Tryd.func7, Tryd.ntmps7
  go_wp2_with fail
  generalize w.alloc (.cells #[.int .i64 e, .int .i64 a, .slice A n c] 30) = w1 at *
  refine (awake_any w1 (hL.on B1 hL.size)).mono ?_
  rintro x w2 ⟨rfl, k2⟩
  have hb2 := box_on hb1 k2 (by omega)
  have B2 : Below w.heap.size w w2 := B1.trans (k2.mono B1.size)
  have s2 : w.heap.size < w2.heap.size := by have := k2.size; omega
  obtain ⟨g0, g1, g2⟩ := box_cells hb2
  have j0 := cell_regrown g0; have j1 := cell_regrown g1; have j2 := cell_regrown g2
  clear hb1 k2 B1 s1 g0 g1 g2
  by_cases ha : 0 ≤ a
  · have d0 : decide (0 ≤ a) = true := by simpa using ha
    have HE : Hid (decide (0 ≤ a ∧ a ≤ m) = decide (a ≤ m)) := show _ = _ by simp [ha]
    have cW : ∀ d os, Calls Tryd.prog 18 #[.agg #[.int .i64 e, .int .i64 a, .slice A n c], .int .i64 m] (Sort.grow (redrawn w2 d) os) fun x w'' => x = .returned (.bool (decide (a ≤ m))) ∧ ∃ p : Regrown, w'' = Sort.grow (redrawn w2 p.d) p.os :=
      fun d os => Calls.regrown_of (by rw [← HE.out]; exact within_any e a A n c m _)
    go_wp2_with fail
    refine wp_region_quiet_below (by kernel_rfl) (by kernel_rfl) ?_
    repeat (go_big_quiet_step (first | exact cW _ _))
    refine wpQuiet_nil ?_
    intro _ hw'
    obtain ⟨⟨dq, osq⟩, hw''⟩ := hw'
    subst hw''
    have B3 : Below w.heap.size w (Sort.grow (redrawn w2 dq) osq) := B2.trans ((below_regrown w2 dq osq).mono B2.size)
    go_wp2_with fail
    go_ret
    exact ⟨by first | rfl | simp, B3⟩
  · have d0 : decide (0 ≤ a) = false := by simpa using ha
    have HE : Hid (decide (0 ≤ a ∧ a ≤ m) = false) := show _ = _ by simp [ha]
    have cW : ∀ d os, Calls Tryd.prog 18 #[.agg #[.int .i64 e, .int .i64 a, .slice A n c], .int .i64 m] (Sort.grow (redrawn w2 d) os) fun x w'' => x = .returned (.bool false) ∧ ∃ p : Regrown, w'' = Sort.grow (redrawn w2 p.d) p.os :=
      fun d os => Calls.regrown_of (by rw [← HE.out]; exact within_any e a A n c m _)
    go_wp2_with fail
    refine wp_region_quiet_below (by kernel_rfl) (by kernel_rfl) ?_
    repeat (go_big_quiet_step (first | exact cW _ _))
    refine wpQuiet_nil ?_
    intro _ hw'
    obtain ⟨⟨dq, osq⟩, hw''⟩ := hw'
    subst hw''
    have B3 : Below w.heap.size w (Sort.grow (redrawn w2 dq) osq) := B2.trans ((below_regrown w2 dq osq).mono B2.size)
    go_wp2_with fail
    go_ret
    exact ⟨by first | rfl | simp, B3⟩

end Go.Proofs.YtbfneeggfaoeaaaDoor
