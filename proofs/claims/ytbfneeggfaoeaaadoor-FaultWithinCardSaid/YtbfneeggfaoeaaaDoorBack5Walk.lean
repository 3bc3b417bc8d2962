/-
  The walk of the law FaultBack; no condition beyond what the package-level variables hold.
-/
import Derived.Test.YtbfneeggfaoeaaaDoorOne5Walk
namespace Go.Proofs.YtbfneeggfaoeaaaDoor
open Go.RowKit

theorem ints_back {xs : List Int} (h : ∀ x ∈ xs, 0 ≤ x) : ints (xs.map Int.toNat) = xs := by
  induction xs with
  | nil => rfl
  | cons x xs ih =>
    have h1 := h x (by simp)
    have h2 := ih (fun y hy => h y (by simp [hy]))
    simp only [ints, List.map_cons] at h2 ⊢
    rw [h2]
    congr 1
    omega
/-- A reason in memory, still there behind what a call does. -/
theorem box_on {w1 W : World} {g : Nat} {x y z : Value} (h : w1.heap[g]? = some (.cells #[x, y, z] 30)) {B : Nat} (hb : Below B w1 W) (hB : g < B) :
    W.heap[g]? = some (.cells #[x, y, z] 30) := (hb.block g hB).trans h

set_option maxHeartbeats 4000000 in
theorem back_walk (e a : Int) (A : Option Addr) (n c : Nat) (xs : List Int) (w : World) (hL : Laid w) (hI : Ints w (· < w.heap.size) A n xs) (ha : a ≤ (top : Int)) (hx : ∀ x ∈ xs, x ≤ (top : Int)) :
    Calls Tryd.prog 5 #[.agg #[.int .i64 e, .int .i64 a, .slice A n c]] w fun x w' => x = .returned (.bool true) ∧ Below w.heap.size w w' := by
  have HI := Lib.hid hI; have HA := Lib.hid ha; have HX := Lib.hid hx
  have hxl := hI.1
  clear hI ha hx
  have B1 : Below w.heap.size w (w.alloc (.cells #[.int .i64 e, .int .i64 a, .slice A n c] 30)) := (Below.refl _ _).alloc (Nat.le_refl _) _
  have hb1 : (w.alloc (.cells #[.int .i64 e, .int .i64 a, .slice A n c] 30)).heap[w.heap.size]? = some (.cells #[.int .i64 e, .int .i64 a, .slice A n c] 30) := heap_alloc_new w _
  have s1 : (w.alloc (.cells #[.int .i64 e, .int .i64 a, .slice A n c] 30)).heap.size = w.heap.size + 1 := by simp
  go_enter Tryd.func5, Tryd.ntmps5
  go_wp2_with fail
  generalize w.alloc (.cells #[.int .i64 e, .int .i64 a, .slice A n c] 30) = w1 at *
  refine (awake_any w1 (hL.on B1 hL.size)).mono ?_
  rintro x w2 ⟨rfl, k2⟩
  have hb2 := box_on hb1 k2 (by omega)
  have B2 : Below w.heap.size w w2 := B1.trans (k2.mono B1.size)
  have L2 := hL.on B2 hL.size
  have s2 : w.heap.size + 1 ≤ w2.heap.size := by have := k2.size; omega
  have g0 : w2.cell? ⟨w.heap.size, 0, none⟩ = some (.int .i64 e) := by rw [block_cell hb2]; rfl
  have g1 : w2.cell? ⟨w.heap.size, 1, none⟩ = some (.int .i64 a) := by rw [block_cell hb2]; rfl
  have g2 : w2.cell? ⟨w.heap.size, 2, none⟩ = some (.slice A n c) := by rw [block_cell hb2]; rfl
  clear hb1 k2 B1 s1
  by_cases hl : 100 < n
  · have d1 : decide (100 < (n : Int)) = true := by simp; omega
    have d1n : decide (100 < n) = true := by simp; omega
    go_wp2_with fail
    go_ret
    exact ⟨rfl, B2⟩
  · have d1 : decide (100 < (n : Int)) = false := by simp; omega
    have d1n : decide (100 < n) = false := by simp; omega
    go_wp2_with fail
    refine (text_any e a A n c xs w2 L2 (HI.out.on B2 (Nat.le_refl _)) HA.out HX.out (by omega)).mono ?_
    rintro x w3 ⟨rfl, k3⟩
    have hb3 := box_on hb2 k3 (by omega)
    have B3 : Below w.heap.size w w3 := B2.trans (k3.mono B2.size)
    have L3 := hL.on B3 hL.size
    have s3 : w.heap.size + 1 ≤ w3.heap.size := by have := k3.size; omega
    have htl := textOf_length (e := e) HA.out HX.out
    clear hb2 k3 B2 L2 s2 g0 g1 g2
    by_cases ht : textOf e a xs = []
    · rw [ht]
      have hp := parseOf_nil
      go_wp2_with fail
      refine (parse_any [] (by simp) w3 L3).mono ?_
      rw [hp]
      rintro x w4 ⟨A4, n4, c4, rfl, hI4, k4⟩
      rw [show (none : Option (Nat × Nat × List Nat)).isSome = false from rfl]
      have B4 : Below w.heap.size w w4 := B3.trans (k4.mono B3.size)
      have B5 : Below w.heap.size w (w4.alloc (.cells #[.int .i64 (ansE none), .int .i64 (ansA none), .slice A4 n4 c4] 30)) := B4.alloc B4.size _
      clear hI4 k4 hp
      go_wp2_with fail
      go_ret
      exact ⟨rfl, B5⟩
    · have hp := parse_text ht HA.out HX.out
      obtain ⟨h1, h2, h3⟩ := textOf_ne ht
      obtain ⟨h4, _⟩ := nameOf_ne h1
      have HXn := Lib.hid (ints_back h3)
      have HEn : Hid (((e.toNat : Nat) : Int) = e) := show _ = _ by omega
      have HAn : Hid (((a.toNat : Nat) : Int) = a) := show _ = _ by omega
      have e0 : (textOf e a xs == []) = false := by simpa using ht
      clear h1 h2 h3 h4 ht
      go_wp2_with fail
      refine (parse_any (textOf e a xs) (by omega) w3 L3).mono ?_
      rw [hp]
      rintro x w4 ⟨A4, n4, c4, rfl, hI4, k4⟩
      rw [show ansE (some (e.toNat, a.toNat, xs.map Int.toNat)) = e from HEn.out, show ansA (some (e.toNat, a.toNat, xs.map Int.toNat)) = a from HAn.out, show (some (e.toNat, a.toNat, xs.map Int.toNat) : Option (Nat × Nat × List Nat)).isSome = true from rfl]
      have hI4' : Ints w4 (· < w4.heap.size) A4 n4 xs := by
        have : ansP (some (e.toNat, a.toNat, xs.map Int.toNat)) = xs := HXn.out
        rw [this] at hI4
        exact hI4
      have HN4 : Hid (n4 = n) := show _ = _ by rw [← hI4'.1, hxl]
      have hb4 := box_on hb3 k4 (by omega)
      have B4 : Below w.heap.size w w4 := B3.trans (k4.mono B3.size)
      have s4 : w.heap.size + 1 ≤ w4.heap.size := by have := k4.size; omega
      have BF : Below w4.heap.size w4 (w4.alloc (.cells #[.int .i64 e, .int .i64 a, .slice A4 n4 c4] 30)) := (Below.refl _ _).alloc (Nat.le_refl _) _
      have hbF : (w4.alloc (.cells #[.int .i64 e, .int .i64 a, .slice A4 n4 c4] 30)).heap[w4.heap.size]? = some (.cells #[.int .i64 e, .int .i64 a, .slice A4 n4 c4] 30) := heap_alloc_new w4 _
      have hb5 := box_on hb4 BF (by omega)
      have B5 : Below w.heap.size w (w4.alloc (.cells #[.int .i64 e, .int .i64 a, .slice A4 n4 c4] 30)) := B4.trans (BF.mono B4.size)
      have HI5 := Lib.hid (HI.out.on B5 (Nat.le_refl _))
      have HI6 := Lib.hid (hI4'.on BF (Nat.le_refl _))
      clear hI4 hI4' k4 hp hb3 hb4 B3 L3 BF B4
      generalize textOf e a xs = tx at *
      have g0 : (w4.alloc (.cells #[.int .i64 e, .int .i64 a, .slice A4 n4 c4] 30)).cell? ⟨w.heap.size, 0, none⟩ = some (.int .i64 e) := by rw [block_cell hb5]; rfl
      have g1 : (w4.alloc (.cells #[.int .i64 e, .int .i64 a, .slice A4 n4 c4] 30)).cell? ⟨w.heap.size, 1, none⟩ = some (.int .i64 a) := by rw [block_cell hb5]; rfl
      have g2 : (w4.alloc (.cells #[.int .i64 e, .int .i64 a, .slice A4 n4 c4] 30)).cell? ⟨w.heap.size, 2, none⟩ = some (.slice A n c) := by rw [block_cell hb5]; rfl
      go_wp2_with fail
      refine (same_any e a A n c xs e a A4 n4 c4 xs _ HI5.out HI6.out (by omega) (by have := HN4.out; omega)).mono ?_
      rw [show decide (e = e ∧ a = a ∧ xs = xs) = true by simp]
      rintro x w6 ⟨rfl, k6⟩
      have B6 : Below w.heap.size w w6 := B5.trans (k6.mono B5.size)
      go_wp2_with fail
      go_ret
      exact ⟨rfl, B6⟩

end Go.Proofs.YtbfneeggfaoeaaaDoor
