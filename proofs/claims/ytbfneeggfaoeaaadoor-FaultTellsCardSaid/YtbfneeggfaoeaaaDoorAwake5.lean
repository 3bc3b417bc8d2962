/-
  What the layer's first calls come to ('awake'); no condition beyond what the contract asks.
-/
import Derived.Test.YtbfneeggfaoeaaaDoorSame5
namespace Go.Proofs.YtbfneeggfaoeaaaDoor
open Go.RowKit

def awakeText : List UInt8 := [69, 76, 69, 78, 64, 52, 47, 48, 47, 50]
theorem text_awake : textOf 6 4 [0, 2] = awakeText := by
  rw [textOf_full (by decide) (by decide) (by decide)]
  have h0 : Lib.decDigits ((0 : Int).toNat) = [48] := Lib.decDigits_one (i := 0) (by decide)
  have h2 : Lib.decDigits ((2 : Int).toNat) = [50] := Lib.decDigits_one (i := 2) (by decide)
  have h4 : Lib.decDigits ((4 : Int).toNat) = [52] := Lib.decDigits_one (i := 4) (by decide)
  simp only [tailOf, List.map_cons, List.map_nil, h0, h2, h4]
  rfl
theorem parse_awake : parseOf awakeText = some (6, 4, [0, 2]) := by
  rw [← text_awake]
  exact parse_text (e := 6) (a := 4) (p := [0, 2]) (by rw [text_awake]; decide) (by unfold top; decide) (by unfold top; decide)

set_option maxHeartbeats 2000000 in
theorem awake_any (w : World) (hL : Laid w) : Calls Tryd.prog 8 #[] w fun x w' => x = .returned (.bool true) ∧ Below w.heap.size w w' := by
  go_enter Tryd.func8, Tryd.ntmps8
  go_wp2_with fail
  refine (parse_any awakeText (by decide) w hL).mono ?_
  rw [parse_awake]
  rintro x w1 ⟨A, n, c, rfl, hI, k1⟩
  obtain rfl : 2 = n := hI.1
  have L1 := hL.on k1 hL.size
  rw [show ansE (some (6, 4, [0, 2])) = 6 from rfl, show ansA (some (6, 4, [0, 2])) = 4 from rfl, show (some (6, 4, [0, 2]) : Option (Nat × Nat × List Nat)).isSome = true from rfl]
  clear hI
  have hbF := heap_alloc_new w1 (.cells #[.int .i64 6, .int .i64 4, .slice A 2 c] 30)
  have BF : Below w1.heap.size w1 (w1.alloc (.cells #[.int .i64 6, .int .i64 4, .slice A 2 c] 30)) := (Below.refl _ _).alloc (Nat.le_refl _) _
  have hsF : (w1.alloc (.cells #[.int .i64 6, .int .i64 4, .slice A 2 c] 30)).heap.size = w1.heap.size + 1 := by simp
  have h5 := L1.size
  have hk := k1.size
  go_wp2_with fail
  generalize w1.alloc (.cells #[.int .i64 6, .int .i64 4, .slice A 2 c] 30) = w2 at *
  have hbR := heap_alloc_new w2 (.cells #[.int .i64 0, .int .i64 2] 3)
  have BR : Below w2.heap.size w2 (w2.alloc (.cells #[.int .i64 0, .int .i64 2] 3)) := (Below.refl _ _).alloc (Nat.le_refl _) _
  have hsR : (w2.alloc (.cells #[.int .i64 0, .int .i64 2] 3)).heap.size = w2.heap.size + 1 := by simp
  rw [← hsF]
  generalize w2.alloc (.cells #[.int .i64 0, .int .i64 2] 3) = w3 at *
  have B3 : Below w1.heap.size w1 w3 := BF.trans (BR.mono (by omega))
  have L3 := L1.on B3 L1.size
  have hI3 : Ints w3 (· < w3.heap.size) (some ⟨w2.heap.size, 0, none⟩) 2 [0, 2] := ⟨rfl, fun _ => ⟨w2.heap.size, 0, rfl, by show _ < _; omega, fun i hi => by
    rw [Nat.zero_add, block_cell hbR]
    rcases (by omega : i = 0 ∨ i = 1) with rfl | rfl <;> rfl⟩⟩
  refine (text_any 6 4 (some ⟨w2.heap.size, 0, none⟩) 2 2 [0, 2] w3 L3 hI3 (by unfold top; decide) (by unfold top; decide) (by decide)).mono ?_
  rw [text_awake]
  rintro x w4 ⟨rfl, k4⟩
  have hb4 : w4.heap[w1.heap.size]? = some (.cells #[.int .i64 6, .int .i64 4, .slice A 2 c] 30) := (k4.block _ (by omega)).trans ((BR.block _ (by omega)).trans hbF)
  have g0 : w4.cell? ⟨w1.heap.size, 0, none⟩ = some (.int .i64 6) := by rw [block_cell hb4]; rfl
  have g1 : w4.cell? ⟨w1.heap.size, 1, none⟩ = some (.int .i64 4) := by rw [block_cell hb4]; rfl
  have g2 : w4.cell? ⟨w1.heap.size, 2, none⟩ = some (.slice A 2 c) := by rw [block_cell hb4]; rfl
  have B4 : Below w.heap.size w w4 := k1.trans ((B3.trans (k4.mono B3.size)).mono k1.size)
  clear hb4 k4 hI3 L3 B3 hbR BR hbF BF k1
  unfold awakeText
  go_wp2_with fail
  go_ret
  exact ⟨rfl, B4⟩

end Go.Proofs.YtbfneeggfaoeaaaDoor
