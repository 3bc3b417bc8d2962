/-
  What when's date says of itself: exists, days.
-/
import Derived.Test.YthkcaogohkgheaaDoorWhenE16
namespace Go.Proofs.YthkcaogohkgheaaDoor
set_option maxRecDepth 100000
open Go.RowKit

/-- Whether there is such a day of a year from 1970 on. -/
def exB (y m d : Nat) : Bool := decide (1970 ≤ y ∧ 1 ≤ m ∧ m ≤ 12 ∧ 1 ≤ d ∧ d ≤ mdy y m)
theorem low_drew16 (w : World) (n : Nat) : Below w.heap.size w (w.drewN n) := ⟨rfl, rfl, rfl, Nat.le_refl _, fun _ _ => rfl⟩
theorem dle {a b : Nat} (h : a ≤ b) : decide ((a : Int) ≤ (b : Int)) = true ∧ decide (a ≤ b) = true := ⟨decide_eq_true (by omega), decide_eq_true h⟩
theorem dgt {a b : Nat} (h : ¬ a ≤ b) : decide ((a : Int) ≤ (b : Int)) = false ∧ decide (a ≤ b) = false := ⟨decide_eq_false (by omega), decide_eq_false h⟩
set_option maxHeartbeats 4000000 in
theorem exists_any (y m d : Nat) (hy : y ≤ 100000) (hm : m ≤ 100000) (w : World) :
    Calls Tryd.prog 21 #[dv y m d] w fun e w' => e = .returned (.bool (exB y m d)) ∧ Below w.heap.size w w' := by
  obtain ⟨r, hr⟩ : ∃ r, r = exB y m d := ⟨_, rfl⟩
  rw [← hr]
  unfold exB at hr
  unfold dv
  have B0 : Below w.heap.size w (w.alloc (.cells #[.int .i64 (y : Int), .int .i64 (m : Int), .int .i64 (d : Int)] 31)) := (Below.refl _ _).alloc (Nat.le_refl _) _
  have hb : (w.alloc (.cells #[.int .i64 (y : Int), .int .i64 (m : Int), .int .i64 (d : Int)] 31)).heap[w.heap.size]? = some (.cells #[.int .i64 (y : Int), .int .i64 (m : Int), .int .i64 (d : Int)] 31) := heap_alloc_new w _
  have cD : 1 ≤ y → ∀ w, Calls Tryd.prog 25 #[.int .i64 (y : Int), .int .i64 (m : Int)] w fun e w' => e = .returned (.int .i64 ((mdy y m : Nat) : Int)) ∧ w' = w := fun h w => daysIn_any y m h (by omega) (by omega) w
  generalize mdy y m = q at *
  have C : (r = false ∧ decide (1970 ≤ (y : Int)) = false ∧ decide (1970 ≤ y) = false) ∨
      (r = false ∧ (decide (1970 ≤ (y : Int)) = true ∧ decide (1970 ≤ y) = true) ∧ decide (1 ≤ (m : Int)) = false ∧ decide (1 ≤ m) = false) ∨
      (r = false ∧ (decide (1970 ≤ (y : Int)) = true ∧ decide (1970 ≤ y) = true) ∧ (decide (1 ≤ (m : Int)) = true ∧ decide (1 ≤ m) = true) ∧ decide ((m : Int) ≤ 12) = false ∧ decide (m ≤ 12) = false) ∨
      (r = false ∧ (decide (1970 ≤ (y : Int)) = true ∧ decide (1970 ≤ y) = true) ∧ (decide (1 ≤ (m : Int)) = true ∧ decide (1 ≤ m) = true) ∧ (decide ((m : Int) ≤ 12) = true ∧ decide (m ≤ 12) = true) ∧ decide (1 ≤ (d : Int)) = false ∧ decide (1 ≤ d) = false) ∨
      (1 ≤ y ∧ (decide (1970 ≤ (y : Int)) = true ∧ decide (1970 ≤ y) = true) ∧ (decide (1 ≤ (m : Int)) = true ∧ decide (1 ≤ m) = true) ∧ (decide ((m : Int) ≤ 12) = true ∧ decide (m ≤ 12) = true) ∧ (decide (1 ≤ (d : Int)) = true ∧ decide (1 ≤ d) = true) ∧ decide ((d : Int) ≤ (q : Int)) = r ∧ decide (d ≤ q) = r) := by
    rw [hr]
    simp only [decide_eq_true_eq, decide_eq_false_iff_not, decide_eq_decide]
    omega
  clear hr hy hm
  rcases C with ⟨hr, c1, c2⟩ | ⟨hr, ⟨c1, c2⟩, c3, c4⟩ | ⟨hr, ⟨c1, c2⟩, ⟨c3, c4⟩, c5, c6⟩ | ⟨hr, ⟨c1, c2⟩, ⟨c3, c4⟩, ⟨c5, c6⟩, c7, c8⟩ | ⟨hy, ⟨c1, c2⟩, ⟨c3, c4⟩, ⟨c5, c6⟩, ⟨c7, c8⟩, c9, c10⟩
  rotate_left 4
  · have cI := cD hy
    clear cD hy
    cases r
    all_goals
      go_enter Tryd.func21, Tryd.ntmps21
      go_upto_region 1 with fail
      generalize w.alloc (.cells #[.int .i64 (y : Int), .int .i64 (m : Int), .int .i64 (d : Int)] 31) = W at *
      have j0 : W.cell? ⟨w.heap.size, 0, none⟩ = some (.int .i64 (y : Int)) := by rw [block_cell hb]; rfl
      have j1 : W.cell? ⟨w.heap.size, 1, none⟩ = some (.int .i64 (m : Int)) := by rw [block_cell hb]; rfl
      have j2 : W.cell? ⟨w.heap.size, 2, none⟩ = some (.int .i64 (d : Int)) := by rw [block_cell hb]; rfl
      have HB0 := Lib.hid B0
      clear B0 hb
      go_quiet (first | (go_at_call 25; exact Calls.quiet_of_same (cI _)))
      have HB3 := Lib.hid (HB0.out.trans ((low_drew16 W nq).mono HB0.out.size))
      generalize W.drewN nq = w2 at *
      go_wp2_with fail
      go_ret
      exact ⟨rfl, HB3.out⟩
  all_goals
    subst hr
    clear cD
    go_enter Tryd.func21, Tryd.ntmps21
    go_upto_region 1 with fail
    generalize w.alloc (.cells #[.int .i64 (y : Int), .int .i64 (m : Int), .int .i64 (d : Int)] 31) = W at *
    have j0 : W.cell? ⟨w.heap.size, 0, none⟩ = some (.int .i64 (y : Int)) := by rw [block_cell hb]; rfl
    have j1 : W.cell? ⟨w.heap.size, 1, none⟩ = some (.int .i64 (m : Int)) := by rw [block_cell hb]; rfl
    have j2 : W.cell? ⟨w.heap.size, 2, none⟩ = some (.int .i64 (d : Int)) := by rw [block_cell hb]; rfl
    have HB0 := Lib.hid B0
    clear B0 hb
    go_quiet (fail)
    have HB3 := Lib.hid (HB0.out.trans ((low_drew16 W nq).mono HB0.out.size))
    generalize W.drewN nq = w2 at *
    go_wp2_with fail
    go_ret
    exact ⟨rfl, HB3.out⟩
end Go.Proofs.YthkcaogohkgheaaDoor
