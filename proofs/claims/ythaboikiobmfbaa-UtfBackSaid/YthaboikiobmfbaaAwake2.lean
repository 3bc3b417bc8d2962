/-
  The law's first question (what the document's examples tell) is answered true, and nothing that was there is written; no condition.
-/
import Derived.Test.YthaboikiobmfbaaCText
import Derived.Test.YthaboikiobmfbaaIsRow
namespace Go.Proofs.Ythaboikiobmfbaa
open Go.RowKit

theorem stop_61ff : stop [97, 255] 0 = 1 := by
  have h : rune [97, 255] 0 = (97, 1) := by decide
  have h1 : rune [97, 255] 1 = (0, 0) := by decide
  refine (stop_on (by rw [h]; decide)).trans ?_
  rw [h]
  exact stop_end (by show (rune [97, 255] 1).2 = 0; rw [h1])
theorem whole_61ff : wholeB [97, 255] = false := by
  unfold wholeB
  rw [stop_61ff]
  decide
theorem whole_61 : wholeB [97] = true := by
  have h : rune [97] 0 = (97, 1) := by decide
  have h1 : rune [97] 1 = (0, 0) := by decide
  unfold wholeB
  rw [stop_on (by rw [h]; decide), h, stop_end (by show (rune [97] 1).2 = 0; rw [h1])]
  decide
theorem ctext_awake : ctext [97, 0, 98] 0 = ([97], 2, 0) := by
  have := ctext_ok [97, 0, 98] 0 (by decide) (by decide) (by exact whole_61)
  exact this

set_option maxHeartbeats 1000000 in
theorem awake_any (w : World) : Calls Try.prog 8 #[] w fun e w' => e = .returned (.bool true) ∧ Below w.heap.size w w' := by
  go_enter Try.func8, Try.ntmps8
  go_wp2_with fail
  refine (check_any _ 2 2 [97, 255] _ ((Held.of_row (M := (· = w.heap.size)) (heap_alloc_new w _) rfl rfl).weaken (by rintro k rfl; simp)) (by omega)).mono ?_
  rw [stop_61ff, whole_61ff]
  rintro e w1 ⟨rfl, B1⟩
  have B1' : Below w.heap.size w w1 := ((Below.refl _ _).alloc (Nat.le_refl _) _).trans (B1.mono (by simp))
  clear B1
  go_wp2_with fail
  refine (ctext_any _ 3 3 [97, 0, 98] 0 _ ((Held.of_row (M := (· = w1.heap.size)) (heap_alloc_new w1 _) rfl rfl).weaken (by rintro k rfl; simp)) (by omega) (by omega)).mono ?_
  rw [ctext_awake]
  rintro e w2 ⟨rfl, B2⟩
  have B2' : Below w.heap.size w w2 := (B1'.alloc B1'.size _).trans (B2.mono (by have := B1'.size; simp; omega))
  clear B2
  go_wp2_with fail
  go_ret
  exact ⟨rfl, B2'⟩

end Go.Proofs.Ythaboikiobmfbaa
