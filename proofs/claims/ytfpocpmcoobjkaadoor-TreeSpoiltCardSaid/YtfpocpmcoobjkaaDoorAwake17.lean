/-
  What the laws' awake does (chapter 17): what the document tells; no condition but that the words are laid.
-/
import Derived.Test.YtfpocpmcoobjkaaDoorCodeV17
import Derived.Test.YtfpocpmcoobjkaaDoorCodeA17
import Derived.Test.YtfpocpmcoobjkaaDoorSameI17
import Derived.Test.YtfpocpmcoobjkaaDoorSmall17
namespace Go.Proofs.YtfpocpmcoobjkaaDoor
set_option maxRecDepth 100000
open Go.RowKit

/-- The cells of a Field 'a' that has nothing but a Kind. -/
def oneCells (k : Int) : Array Value := #[.string ⟨#[97]⟩, .int .i64 k, .int .u64 0, .int .u64 0, .int .u64 0, .string ⟨#[]⟩, .string ⟨#[]⟩, .int .i64 0, .slice none 0 0, .slice none 0 0]
/-- A document with one value of a Kind in it. -/
def oneT (k : Int) : Tree := .node (zeroO 3) [([97], .node (zeroO k) [])]
theorem one_at {w : World} {M : Nat → Prop} {g : Nat} {T : TypeId} {k : Int} (hk0 : -9223372036854775808 ≤ k) (hk1 : k ≤ 9223372036854775807) (hg : w.heap[g]? = some (.cells (oneCells k) T)) (hM : M g) :
    TreeAt w M (oneT k) (cellsV (zeroO 3) none 0 (some ⟨g, 0, none⟩) 1 1) := by
  unfold oneT
  rw [TreeAt]
  refine ⟨none, 0, some ⟨g, 0, none⟩, 1, rfl, ⟨by decide, by decide, by decide, by decide, by decide, by decide, by decide, Nat.zero_le _, Nat.zero_le _, Nat.zero_le _⟩, show 1 ≤ maxLen by decide, Held.nothing rfl, fun _ => ⟨g, 0, rfl, hM, ?_⟩⟩
  rw [kids_cons]
  refine ⟨⟨by rw [block_cell hg]; rfl, show 1 ≤ maxLen by decide, cellsV (zeroO k) none 0 none 0 0, rfl, fun j hj => ?_, tree_zero k hk0 hk1 w M⟩, by rw [KidsAt]; trivial⟩
  rw [block_cell hg]
  rcases (by omega : j = 0 ∨ j = 1 ∨ j = 2 ∨ j = 3 ∨ j = 4 ∨ j = 5 ∨ j = 6 ∨ j = 7 ∨ j = 8) with rfl | rfl | rfl | rfl | rfl | rfl | rfl | rfl | rfl <;> rfl
theorem one_chk : chkT (oneT 99) [] [] = ([0], 5) := by decide +kernel
theorem one_dep : depT (oneT 3) = 2 := by decide +kernel
theorem one_cnt (k : Int) : cntT (oneT k) = 2 := rfl
theorem one_few (k : Int) : fewT (oneT k) := by
  unfold oneT
  simp [fewT, fewK, zeroO]
set_option maxHeartbeats 4000000 in
theorem awake_any (w : World) (hW : Words w) : Calls Tryd.prog 9 #[] w fun e w' => e = .returned (.bool true) ∧ Below w.heap.size w w' := by
  have B2 : Below w.heap.size w ((w.alloc (.cells (oneCells 3) 48)).alloc (.cells (oneCells 99) 48)) := two_new _ _ _
  have g2 : ((w.alloc (.cells (oneCells 3) 48)).alloc (.cells (oneCells 99) 48)).heap[w.heap.size + 1]? = some (.cells (oneCells 99) 48) := heap_two _ _ _
  have g1 : ((w.alloc (.cells (oneCells 3) 48)).alloc (.cells (oneCells 99) 48)).heap[w.heap.size]? = some (.cells (oneCells 3) 48) := (Below.heap_alloc _ _ _ (by simp)).trans (heap_alloc_new w _)
  have cC := Lib.hid (checkV_any (oneT 99) _ _ (hW.up B2) (by rw [one_cnt]; decide) (one_few 99) (one_at (by decide) (by decide) g2 (block_lt g2)))
  rw [one_chk] at cC
  have HB2 := Lib.hid B2
  have G1 := Lib.hid g1
  unfold cellsV zeroO at cC
  clear hW B2 g2 g1
  unfold oneCells at *
  go_enter Tryd.func9, Tryd.ntmps9
  go_wp2_with fail
  refine (cC.out).mono ?_
  rintro e w1 ⟨⟨A, n, c, rfl, hI⟩, B1⟩
  have HB1 := Lib.hid (low17 HB2.out B1)
  have G := (B1.block _ (block_lt G1.out)).trans G1.out
  have hn : n = 1 := by have := hI.1; simpa using this.symm
  subst hn
  have B3 : Below w1.heap.size w1 (w1.alloc (.cells (oneCells 3) 48)) := (Below.refl _ _).alloc (Nat.le_refl _) _
  have cD := Lib.hid (depth_any (oneT 3) _ _ (by rw [one_cnt]; decide) (one_at (by decide) (by decide) (heap_alloc_new w1 (.cells (oneCells 3) 48)) (by simp)))
  rw [one_dep] at cD
  have HI := Lib.hid (hI.on B3)
  have HB3 := Lib.hid (low17 HB1.out B3)
  have i0 : w1.cell? ⟨w.heap.size, 0, none⟩ = some (.string ⟨#[97]⟩) := by rw [block_cell G]; rfl
  have i1 : w1.cell? ⟨w.heap.size, 1, none⟩ = some (.int .i64 3) := by rw [block_cell G]; rfl
  have i2 : w1.cell? ⟨w.heap.size, 2, none⟩ = some (.int .u64 0) := by rw [block_cell G]; rfl
  have i3 : w1.cell? ⟨w.heap.size, 3, none⟩ = some (.int .u64 0) := by rw [block_cell G]; rfl
  have i4 : w1.cell? ⟨w.heap.size, 4, none⟩ = some (.int .u64 0) := by rw [block_cell G]; rfl
  have i5 : w1.cell? ⟨w.heap.size, 5, none⟩ = some (.string ⟨#[]⟩) := by rw [block_cell G]; rfl
  have i6 : w1.cell? ⟨w.heap.size, 6, none⟩ = some (.string ⟨#[]⟩) := by rw [block_cell G]; rfl
  have i7 : w1.cell? ⟨w.heap.size, 7, none⟩ = some (.int .i64 0) := by rw [block_cell G]; rfl
  have i8 : w1.cell? ⟨w.heap.size, 8, none⟩ = some (.slice none 0 0) := by rw [block_cell G]; rfl
  have i9 : w1.cell? ⟨w.heap.size, 9, none⟩ = some (.slice none 0 0) := by rw [block_cell G]; rfl
  unfold cellsV zeroO at cD
  clear hI B1 G B3 cC HB2 G1 HB1
  unfold oneCells at *
  go_wp2_with fail
  refine (cD.out).mono ?_
  rintro e w2 ⟨rfl, B4⟩
  have HB4 := Lib.hid (low17 HB3.out B4)
  have B5 : Below w2.heap.size w2 (w2.alloc (.cells #[.int .i64 0] 3)) := (Below.refl _ _).alloc (Nat.le_refl _) _
  have hI2 : Ints (w2.alloc (.cells #[.int .i64 0] 3)) (· < (w2.alloc (.cells #[.int .i64 0] 3)).heap.size) A 1 [0] := (HI.out.on B4).on B5
  have hJ : Ints (w2.alloc (.cells #[.int .i64 0] 3)) (· < (w2.alloc (.cells #[.int .i64 0] 3)).heap.size) (some ⟨w2.heap.size, 0, none⟩) 1 [0] := ⟨rfl, fun _ => ⟨w2.heap.size, 0, rfl, by simp, fun i hi => by
    obtain rfl : i = 0 := by omega
    rw [block_cell (heap_alloc_new w2 _)]; rfl⟩⟩
  have cS := Lib.hid (sameInts_any A 1 c [0] (some ⟨w2.heap.size, 0, none⟩) 1 1 [0] _ hI2 hJ (by decide) (by decide))
  have HB5 := Lib.hid (low17 HB4.out B5)
  clear B4 B5 hI2 hJ HI HB3 HB4 cD i0 i1 i2 i3 i4 i5 i6 i7 i8 i9
  go_wp2_with fail
  refine (cS.out).mono ?_
  rintro e w3 ⟨rfl, B6⟩
  have HB6 := Lib.hid (low17 HB5.out B6)
  clear B6 cS HB5
  go_wp2_with fail
  go_ret
  exact ⟨rfl, HB6.out⟩
end Go.Proofs.YtfpocpmcoobjkaaDoor
