/-
  The law TreeChecks (chapter 17) at any tree; no condition but that the words are laid.
-/
import Derived.Test.YtfpocpmcoobjkaaDoorSames17Walk
namespace Go.Proofs.YtfpocpmcoobjkaaDoor
set_option maxRecDepth 100000
open Go.RowKit

theorem chk_len {t : Tree} (h : cntT t ≤ 1000000) : (chkT t [] []).1.length ≤ 1000000000 := by
  have := bck_len t []
  rw [chk_bck]
  split
  · simp
  · simp; omega
set_option maxHeartbeats 8000000 in
theorem checks17 (t : Tree) (cs : List Value) (w : World) (hW : Words w) (hT : TreeAt w (· < w.heap.size) t cs) :
    Calls Tryd.prog 3 #[.agg cs.toArray] w fun e w' => e = .returned (.bool true) ∧ Below w.heap.size w w' := by
  obtain ⟨c0, c1, c2, c3, c4, c5, c6, c7, c8, rfl⟩ := nine hT.len9
  have B2 : Below w.heap.size w (w.alloc (.cells #[c0, c1, c2, c3, c4, c5, c6, c7, c8] 26)) := (Below.refl _ _).alloc (Nat.le_refl _) _
  have g1 : (w.alloc (.cells #[c0, c1, c2, c3, c4, c5, c6, c7, c8] 26)).heap[w.heap.size]? = some (.cells #[c0, c1, c2, c3, c4, c5, c6, c7, c8] 26) := heap_alloc_new w _
  have cA := Lib.hid fun (V : World) (hV : Below w.heap.size w V) => awake_any V (hW.up hV)
  have cX := Lib.hid fun (V : World) (hV : Below w.heap.size w V) => small_any t _ _ _ _ _ _ _ _ _ V (hT.up hV)
  have cS := Lib.hid fun (V : World) (hV : Below w.heap.size w V) (hs : smallB t = true) => checkV_any t _ V (hW.up hV) (Nat.le_trans (small_cnt hs) (by decide)) (small_few hs) (hT.up hV)
  have cR := Lib.hid fun (V : World) (hV : Below w.heap.size w V) (hs : smallB t = true) => refCheckV_any t _ V (Nat.le_trans (small_cnt hs) (by decide)) (small_few hs) (hT.up hV)
  have HN := Lib.hid fun (hs : smallB t = true) => chk_len (t := t) (Nat.le_trans (small_cnt hs) (by decide))
  generalize chkT t [] [] = r at *
  generalize smallB t = x at *
  obtain ⟨P, E⟩ := r
  have HB2 := Lib.hid B2
  have G1 := Lib.hid g1
  clear hW hT B2 g1
  go_enter Tryd.func3, Tryd.ntmps3
  go_wp2_with fail
  refine (cA.out _ HB2.out).mono ?_
  rintro e w1 ⟨rfl, B1⟩
  have HB1 := Lib.hid (low17 HB2.out B1)
  have G3 := Lib.hid ((B1.block _ (block_lt G1.out)).trans G1.out)
  clear B1 cA HB2 G1
  have i0 : w1.cell? ⟨w.heap.size, 0, none⟩ = some c0 := by rw [block_cell G3.out]; rfl
  have i1 : w1.cell? ⟨w.heap.size, 1, none⟩ = some c1 := by rw [block_cell G3.out]; rfl
  have i2 : w1.cell? ⟨w.heap.size, 2, none⟩ = some c2 := by rw [block_cell G3.out]; rfl
  have i3 : w1.cell? ⟨w.heap.size, 3, none⟩ = some c3 := by rw [block_cell G3.out]; rfl
  have i4 : w1.cell? ⟨w.heap.size, 4, none⟩ = some c4 := by rw [block_cell G3.out]; rfl
  have i5 : w1.cell? ⟨w.heap.size, 5, none⟩ = some c5 := by rw [block_cell G3.out]; rfl
  have i6 : w1.cell? ⟨w.heap.size, 6, none⟩ = some c6 := by rw [block_cell G3.out]; rfl
  have i7 : w1.cell? ⟨w.heap.size, 7, none⟩ = some c7 := by rw [block_cell G3.out]; rfl
  have i8 : w1.cell? ⟨w.heap.size, 8, none⟩ = some c8 := by rw [block_cell G3.out]; rfl
  go_wp2_with fail
  refine (cX.out _ HB1.out).mono ?_
  rintro e w2 ⟨rfl, B1⟩
  have HB2 := Lib.hid (low17 HB1.out B1)
  have G5 := Lib.hid ((B1.block _ (block_lt G3.out)).trans G3.out)
  clear B1 cX HB1 G3 i0 i1 i2 i3 i4 i5 i6 i7 i8
  cases x with
  | false =>
    go_wp2_with fail
    go_ret
    exact ⟨rfl, HB2.out⟩
  | true =>
  have i0 : w2.cell? ⟨w.heap.size, 0, none⟩ = some c0 := by rw [block_cell G5.out]; rfl
  have i1 : w2.cell? ⟨w.heap.size, 1, none⟩ = some c1 := by rw [block_cell G5.out]; rfl
  have i2 : w2.cell? ⟨w.heap.size, 2, none⟩ = some c2 := by rw [block_cell G5.out]; rfl
  have i3 : w2.cell? ⟨w.heap.size, 3, none⟩ = some c3 := by rw [block_cell G5.out]; rfl
  have i4 : w2.cell? ⟨w.heap.size, 4, none⟩ = some c4 := by rw [block_cell G5.out]; rfl
  have i5 : w2.cell? ⟨w.heap.size, 5, none⟩ = some c5 := by rw [block_cell G5.out]; rfl
  have i6 : w2.cell? ⟨w.heap.size, 6, none⟩ = some c6 := by rw [block_cell G5.out]; rfl
  have i7 : w2.cell? ⟨w.heap.size, 7, none⟩ = some c7 := by rw [block_cell G5.out]; rfl
  have i8 : w2.cell? ⟨w.heap.size, 8, none⟩ = some c8 := by rw [block_cell G5.out]; rfl
  go_wp2_with fail
  refine (cS.out _ HB2.out (by trivial)).mono ?_
  rintro e w3 ⟨⟨A, n, c, rfl, hI⟩, B1⟩
  have HB3 := Lib.hid (low17 HB2.out B1)
  have HI := Lib.hid hI
  have G7 := Lib.hid ((B1.block _ (block_lt G5.out)).trans G5.out)
  clear B1 cS HB2 G5 hI i0 i1 i2 i3 i4 i5 i6 i7 i8
  have i0 : w3.cell? ⟨w.heap.size, 0, none⟩ = some c0 := by rw [block_cell G7.out]; rfl
  have i1 : w3.cell? ⟨w.heap.size, 1, none⟩ = some c1 := by rw [block_cell G7.out]; rfl
  have i2 : w3.cell? ⟨w.heap.size, 2, none⟩ = some c2 := by rw [block_cell G7.out]; rfl
  have i3 : w3.cell? ⟨w.heap.size, 3, none⟩ = some c3 := by rw [block_cell G7.out]; rfl
  have i4 : w3.cell? ⟨w.heap.size, 4, none⟩ = some c4 := by rw [block_cell G7.out]; rfl
  have i5 : w3.cell? ⟨w.heap.size, 5, none⟩ = some c5 := by rw [block_cell G7.out]; rfl
  have i6 : w3.cell? ⟨w.heap.size, 6, none⟩ = some c6 := by rw [block_cell G7.out]; rfl
  have i7 : w3.cell? ⟨w.heap.size, 7, none⟩ = some c7 := by rw [block_cell G7.out]; rfl
  have i8 : w3.cell? ⟨w.heap.size, 8, none⟩ = some c8 := by rw [block_cell G7.out]; rfl
  go_wp2_with fail
  refine (cR.out _ HB3.out (by trivial)).mono ?_
  rintro e w4 ⟨⟨A', n', c', rfl, hJ⟩, B1⟩
  have HB4 := Lib.hid (low17 HB3.out B1)
  have hn : n ≤ 1000000000 := by have := HI.out.1; have := HN.out (by trivial); simp only at *; omega
  have hn' : n' ≤ 1000000000 := by have := hJ.1; have := HN.out (by trivial); simp only at *; omega
  have cI := Lib.hid (sameInts_any A n c P A' n' c' P w4 (HI.out.on B1) hJ hn hn')
  have e0 : (E == E) = true := beq_self_eq_true _
  rw [decide_eq_true rfl] at cI
  clear B1 cR HB3 G7 hJ HI hn hn' i0 i1 i2 i3 i4 i5 i6 i7 i8
  go_wp2_with fail
  refine (cI.out).mono ?_
  rintro e w5 ⟨rfl, B1⟩
  have HB5 := Lib.hid (low17 HB4.out B1)
  clear B1 cI HB4
  go_wp2_with fail
  go_ret
  exact ⟨rfl, HB5.out⟩
end Go.Proofs.YtfpocpmcoobjkaaDoor
