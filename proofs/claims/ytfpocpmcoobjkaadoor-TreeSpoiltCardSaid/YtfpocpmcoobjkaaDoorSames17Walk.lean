/-
  The law TreeSames (chapter 17) at any two trees; no condition but that the words are laid.
-/
import Derived.Test.YtfpocpmcoobjkaaDoorAwake17
namespace Go.Proofs.YtfpocpmcoobjkaaDoor
set_option maxRecDepth 100000
open Go.RowKit

theorem sameT_self (t : Tree) : sameT t t = true := (sameT_iff t t).2 rfl
theorem sameT_comm (t u : Tree) : sameT u t = sameT t u := by
  cases h : sameT t u with
  | true => rw [(sameT_iff t u).1 h]; exact sameT_self u
  | false =>
    cases g : sameT u t with
    | false => rfl
    | true => rw [(sameT_iff u t).1 g, sameT_self] at h; cases h
theorem nine {cs : List Value} (h : cs.length = 9) : ∃ c0 c1 c2 c3 c4 c5 c6 c7 c8, cs = [c0, c1, c2, c3, c4, c5, c6, c7, c8] := by
  match cs, h with
  | [c0, c1, c2, c3, c4, c5, c6, c7, c8], _ => exact ⟨c0, c1, c2, c3, c4, c5, c6, c7, c8, rfl⟩
theorem TreeAt.up {w w' : World} {t : Tree} {cs : List Value} (h : TreeAt w (· < w.heap.size) t cs) (hb : Below w.heap.size w w') : TreeAt w' (· < w'.heap.size) t cs :=
  TreeAt.weaken (fun _ hk => Nat.lt_of_lt_of_le hk hb.size) _ _ (h.on hb)
set_option maxHeartbeats 8000000 in
theorem sames17 (t u : Tree) (cs ds : List Value) (w : World) (hW : Words w) (hT : TreeAt w (· < w.heap.size) t cs) (hU : TreeAt w (· < w.heap.size) u ds) :
    Calls Tryd.prog 4 #[.agg cs.toArray, .agg ds.toArray] w fun e w' => e = .returned (.bool true) ∧ Below w.heap.size w w' := by
  obtain ⟨c0, c1, c2, c3, c4, c5, c6, c7, c8, rfl⟩ := nine hT.len9
  obtain ⟨a0, a1, a2, a3, a4, a5, a6, a7, a8, rfl⟩ := nine hU.len9
  have B2 : Below w.heap.size w ((w.alloc (.cells #[c0, c1, c2, c3, c4, c5, c6, c7, c8] 26)).alloc (.cells #[a0, a1, a2, a3, a4, a5, a6, a7, a8] 26)) := two_new _ _ _
  have g2 : ((w.alloc (.cells #[c0, c1, c2, c3, c4, c5, c6, c7, c8] 26)).alloc (.cells #[a0, a1, a2, a3, a4, a5, a6, a7, a8] 26)).heap[w.heap.size + 1]? = some (.cells #[a0, a1, a2, a3, a4, a5, a6, a7, a8] 26) := heap_two _ _ _
  have g1 : ((w.alloc (.cells #[c0, c1, c2, c3, c4, c5, c6, c7, c8] 26)).alloc (.cells #[a0, a1, a2, a3, a4, a5, a6, a7, a8] 26)).heap[w.heap.size]? = some (.cells #[c0, c1, c2, c3, c4, c5, c6, c7, c8] 26) := (Below.heap_alloc _ _ _ (by simp)).trans (heap_alloc_new w _)
  have cA := Lib.hid fun (V : World) (hV : Below w.heap.size w V) => awake_any V (hW.up hV)
  have cX := Lib.hid fun (V : World) (hV : Below w.heap.size w V) => small_any t _ _ _ _ _ _ _ _ _ V (hT.up hV)
  have cY := Lib.hid fun (V : World) (hV : Below w.heap.size w V) => small_any u _ _ _ _ _ _ _ _ _ V (hU.up hV)
  have cS1 := Lib.hid fun (V : World) (hV : Below w.heap.size w V) => sameV_any t u _ _ V (hT.up hV) (hU.up hV)
  have cR1 := Lib.hid fun (V : World) (hV : Below w.heap.size w V) => refSame_any t _ u _ V (hT.up hV) (hU.up hV)
  have cS2 := Lib.hid fun (V : World) (hV : Below w.heap.size w V) => sameV_any t t _ _ V (hT.up hV) (hT.up hV)
  have cS3 := Lib.hid fun (V : World) (hV : Below w.heap.size w V) => sameV_any u t _ _ V (hU.up hV) (hT.up hV)
  simp only [sameT_self] at cS2
  simp only [sameT_comm t u] at cS3
  generalize sameT t u = r at *
  generalize smallB t = x at *
  generalize smallB u = y at *
  have HB2 := Lib.hid B2
  have G1 := Lib.hid g1
  have G2 := Lib.hid g2
  clear hW hT hU B2 g1 g2
  go_enter Tryd.func4, Tryd.ntmps4
  go_wp2_with fail
  refine (cA.out _ HB2.out).mono ?_
  rintro e w1 ⟨rfl, B1⟩
  have HB1 := Lib.hid (low17 HB2.out B1)
  have G3 := Lib.hid ((B1.block _ (block_lt G1.out)).trans G1.out)
  have G4 := Lib.hid ((B1.block _ (block_lt G2.out)).trans G2.out)
  clear B1 cA HB2 G1 G2
  have i0 : w1.cell? ⟨w.heap.size, 0, none⟩ = some c0 := by rw [block_cell G3.out]; rfl
  have i1 : w1.cell? ⟨w.heap.size, 1, none⟩ = some c1 := by rw [block_cell G3.out]; rfl
  have i2 : w1.cell? ⟨w.heap.size, 2, none⟩ = some c2 := by rw [block_cell G3.out]; rfl
  have i3 : w1.cell? ⟨w.heap.size, 3, none⟩ = some c3 := by rw [block_cell G3.out]; rfl
  have i4 : w1.cell? ⟨w.heap.size, 4, none⟩ = some c4 := by rw [block_cell G3.out]; rfl
  have i5 : w1.cell? ⟨w.heap.size, 5, none⟩ = some c5 := by rw [block_cell G3.out]; rfl
  have i6 : w1.cell? ⟨w.heap.size, 6, none⟩ = some c6 := by rw [block_cell G3.out]; rfl
  have i7 : w1.cell? ⟨w.heap.size, 7, none⟩ = some c7 := by rw [block_cell G3.out]; rfl
  have i8 : w1.cell? ⟨w.heap.size, 8, none⟩ = some c8 := by rw [block_cell G3.out]; rfl
  have j0 : w1.cell? ⟨w.heap.size + 1, 0, none⟩ = some a0 := by rw [block_cell G4.out]; rfl
  have j1 : w1.cell? ⟨w.heap.size + 1, 1, none⟩ = some a1 := by rw [block_cell G4.out]; rfl
  have j2 : w1.cell? ⟨w.heap.size + 1, 2, none⟩ = some a2 := by rw [block_cell G4.out]; rfl
  have j3 : w1.cell? ⟨w.heap.size + 1, 3, none⟩ = some a3 := by rw [block_cell G4.out]; rfl
  have j4 : w1.cell? ⟨w.heap.size + 1, 4, none⟩ = some a4 := by rw [block_cell G4.out]; rfl
  have j5 : w1.cell? ⟨w.heap.size + 1, 5, none⟩ = some a5 := by rw [block_cell G4.out]; rfl
  have j6 : w1.cell? ⟨w.heap.size + 1, 6, none⟩ = some a6 := by rw [block_cell G4.out]; rfl
  have j7 : w1.cell? ⟨w.heap.size + 1, 7, none⟩ = some a7 := by rw [block_cell G4.out]; rfl
  have j8 : w1.cell? ⟨w.heap.size + 1, 8, none⟩ = some a8 := by rw [block_cell G4.out]; rfl
  go_wp2_with fail
  refine (cX.out _ HB1.out).mono ?_
  rintro e w2 ⟨rfl, B1⟩
  have HB2 := Lib.hid (low17 HB1.out B1)
  have G5 := Lib.hid ((B1.block _ (block_lt G3.out)).trans G3.out)
  have G6 := Lib.hid ((B1.block _ (block_lt G4.out)).trans G4.out)
  clear B1 cX HB1 G3 G4 i0 j0 i1 j1 i2 j2 i3 j3 i4 j4 i5 j5 i6 j6 i7 j7 i8 j8
  cases x with
  | false =>
    go_wp2_with fail
    go_ret
    exact ⟨rfl, HB2.out⟩
  | true =>
  have i0 : w2.cell? ⟨w.heap.size, 0, none⟩ = some c0 := by rw [block_cell G5.out]; rfl
  have i1 : w2.cell? ⟨w.heap.size, 1, none⟩ = some c1 := by rw [block_cell G5.out]; rfl
  have i2 : w2.cell? ⟨w.heap.size, 2, none⟩ = some c2 := by rw [block_cell G5.out]; rfl
  have i3 : w2.cell? ⟨w.heap.size, 3, none⟩ = some c3 := by rw [block_cell G5.out]; rfl
  have i4 : w2.cell? ⟨w.heap.size, 4, none⟩ = some c4 := by rw [block_cell G5.out]; rfl
  have i5 : w2.cell? ⟨w.heap.size, 5, none⟩ = some c5 := by rw [block_cell G5.out]; rfl
  have i6 : w2.cell? ⟨w.heap.size, 6, none⟩ = some c6 := by rw [block_cell G5.out]; rfl
  have i7 : w2.cell? ⟨w.heap.size, 7, none⟩ = some c7 := by rw [block_cell G5.out]; rfl
  have i8 : w2.cell? ⟨w.heap.size, 8, none⟩ = some c8 := by rw [block_cell G5.out]; rfl
  have j0 : w2.cell? ⟨w.heap.size + 1, 0, none⟩ = some a0 := by rw [block_cell G6.out]; rfl
  have j1 : w2.cell? ⟨w.heap.size + 1, 1, none⟩ = some a1 := by rw [block_cell G6.out]; rfl
  have j2 : w2.cell? ⟨w.heap.size + 1, 2, none⟩ = some a2 := by rw [block_cell G6.out]; rfl
  have j3 : w2.cell? ⟨w.heap.size + 1, 3, none⟩ = some a3 := by rw [block_cell G6.out]; rfl
  have j4 : w2.cell? ⟨w.heap.size + 1, 4, none⟩ = some a4 := by rw [block_cell G6.out]; rfl
  have j5 : w2.cell? ⟨w.heap.size + 1, 5, none⟩ = some a5 := by rw [block_cell G6.out]; rfl
  have j6 : w2.cell? ⟨w.heap.size + 1, 6, none⟩ = some a6 := by rw [block_cell G6.out]; rfl
  have j7 : w2.cell? ⟨w.heap.size + 1, 7, none⟩ = some a7 := by rw [block_cell G6.out]; rfl
  have j8 : w2.cell? ⟨w.heap.size + 1, 8, none⟩ = some a8 := by rw [block_cell G6.out]; rfl
  go_wp2_with fail
  refine (cY.out _ HB2.out).mono ?_
  rintro e w3 ⟨rfl, B1⟩
  have HB3 := Lib.hid (low17 HB2.out B1)
  have G7 := Lib.hid ((B1.block _ (block_lt G5.out)).trans G5.out)
  have G8 := Lib.hid ((B1.block _ (block_lt G6.out)).trans G6.out)
  clear B1 cY HB2 G5 G6 i0 j0 i1 j1 i2 j2 i3 j3 i4 j4 i5 j5 i6 j6 i7 j7 i8 j8
  cases y with
  | false =>
    go_wp2_with fail
    go_ret
    exact ⟨rfl, HB3.out⟩
  | true =>
  have i0 : w3.cell? ⟨w.heap.size, 0, none⟩ = some c0 := by rw [block_cell G7.out]; rfl
  have i1 : w3.cell? ⟨w.heap.size, 1, none⟩ = some c1 := by rw [block_cell G7.out]; rfl
  have i2 : w3.cell? ⟨w.heap.size, 2, none⟩ = some c2 := by rw [block_cell G7.out]; rfl
  have i3 : w3.cell? ⟨w.heap.size, 3, none⟩ = some c3 := by rw [block_cell G7.out]; rfl
  have i4 : w3.cell? ⟨w.heap.size, 4, none⟩ = some c4 := by rw [block_cell G7.out]; rfl
  have i5 : w3.cell? ⟨w.heap.size, 5, none⟩ = some c5 := by rw [block_cell G7.out]; rfl
  have i6 : w3.cell? ⟨w.heap.size, 6, none⟩ = some c6 := by rw [block_cell G7.out]; rfl
  have i7 : w3.cell? ⟨w.heap.size, 7, none⟩ = some c7 := by rw [block_cell G7.out]; rfl
  have i8 : w3.cell? ⟨w.heap.size, 8, none⟩ = some c8 := by rw [block_cell G7.out]; rfl
  have j0 : w3.cell? ⟨w.heap.size + 1, 0, none⟩ = some a0 := by rw [block_cell G8.out]; rfl
  have j1 : w3.cell? ⟨w.heap.size + 1, 1, none⟩ = some a1 := by rw [block_cell G8.out]; rfl
  have j2 : w3.cell? ⟨w.heap.size + 1, 2, none⟩ = some a2 := by rw [block_cell G8.out]; rfl
  have j3 : w3.cell? ⟨w.heap.size + 1, 3, none⟩ = some a3 := by rw [block_cell G8.out]; rfl
  have j4 : w3.cell? ⟨w.heap.size + 1, 4, none⟩ = some a4 := by rw [block_cell G8.out]; rfl
  have j5 : w3.cell? ⟨w.heap.size + 1, 5, none⟩ = some a5 := by rw [block_cell G8.out]; rfl
  have j6 : w3.cell? ⟨w.heap.size + 1, 6, none⟩ = some a6 := by rw [block_cell G8.out]; rfl
  have j7 : w3.cell? ⟨w.heap.size + 1, 7, none⟩ = some a7 := by rw [block_cell G8.out]; rfl
  have j8 : w3.cell? ⟨w.heap.size + 1, 8, none⟩ = some a8 := by rw [block_cell G8.out]; rfl
  have k1 : ∀ d os, Calls Tryd.prog 14 #[.agg #[c0, c1, c2, c3, c4, c5, c6, c7, c8], .agg #[a0, a1, a2, a3, a4, a5, a6, a7, a8]] (Sort.grow (redrawn w3 d) os) fun x w'' => x = .returned (.bool r) ∧ ∃ p : Regrown, w'' = Sort.grow (redrawn w3 p.d) p.os := fun d os => Calls.regrown_of (cS1.out _ (HB3.out.trans ((below_regrown w3 d os).mono HB3.out.size)))
  have k2 : ∀ d os, Calls Tryd.prog 15 #[.agg #[c0, c1, c2, c3, c4, c5, c6, c7, c8], .agg #[a0, a1, a2, a3, a4, a5, a6, a7, a8]] (Sort.grow (redrawn w3 d) os) fun x w'' => x = .returned (.bool r) ∧ ∃ p : Regrown, w'' = Sort.grow (redrawn w3 p.d) p.os := fun d os => Calls.regrown_of (cR1.out _ (HB3.out.trans ((below_regrown w3 d os).mono HB3.out.size)))
  have k3 : ∀ d os, Calls Tryd.prog 14 #[.agg #[c0, c1, c2, c3, c4, c5, c6, c7, c8], .agg #[c0, c1, c2, c3, c4, c5, c6, c7, c8]] (Sort.grow (redrawn w3 d) os) fun x w'' => x = .returned (.bool true) ∧ ∃ p : Regrown, w'' = Sort.grow (redrawn w3 p.d) p.os := fun d os => Calls.regrown_of (cS2.out _ (HB3.out.trans ((below_regrown w3 d os).mono HB3.out.size)))
  have k4 : ∀ d os, Calls Tryd.prog 14 #[.agg #[a0, a1, a2, a3, a4, a5, a6, a7, a8], .agg #[c0, c1, c2, c3, c4, c5, c6, c7, c8]] (Sort.grow (redrawn w3 d) os) fun x w'' => x = .returned (.bool r) ∧ ∃ p : Regrown, w'' = Sort.grow (redrawn w3 p.d) p.os := fun d os => Calls.regrown_of (cS3.out _ (HB3.out.trans ((below_regrown w3 d os).mono HB3.out.size)))
  have e0 : (r == r) = true := beq_self_eq_true _
  have ri0 := cell_regrown i0; have rj0 := cell_regrown j0
  have ri1 := cell_regrown i1; have rj1 := cell_regrown j1
  have ri2 := cell_regrown i2; have rj2 := cell_regrown j2
  have ri3 := cell_regrown i3; have rj3 := cell_regrown j3
  have ri4 := cell_regrown i4; have rj4 := cell_regrown j4
  have ri5 := cell_regrown i5; have rj5 := cell_regrown j5
  have ri6 := cell_regrown i6; have rj6 := cell_regrown j6
  have ri7 := cell_regrown i7; have rj7 := cell_regrown j7
  have ri8 := cell_regrown i8; have rj8 := cell_regrown j8
  clear i0 j0 i1 j1 i2 j2 i3 j3 i4 j4 i5 j5 i6 j6 i7 j7 i8 j8 cS1 cR1 cS2 cS3
  go_upto_region 5 with fail
  refine wp_region_quiet_below (by kernel_rfl) (by kernel_rfl) ?_
  repeat (go_big_quiet_step (first | with_reducible exact k1 _ _ | with_reducible exact k2 _ _ | with_reducible exact k3 _ _ | with_reducible exact k4 _ _))
  refine wpQuiet_nil ?_
  intro _ hw'
  obtain ⟨⟨dq, osq⟩, hw''⟩ := hw'
  subst hw''
  have HB5 := Lib.hid (HB3.out.trans ((below_regrown w3 dq osq).mono HB3.out.size))
  clear k1 k2 k3 k4
  go_wp2_with fail
  go_ret
  exact ⟨by first | rfl | (simp; done), HB5.out⟩
end Go.Proofs.YtfpocpmcoobjkaaDoor
