/-
  The law SizeTells (chapter 19) at any tree; no condition.
-/
import Derived.Test.YtdaoekcabfapaaaAwake19
namespace Go.Proofs.Ytdaoekcabfapaaa
set_option maxRecDepth 100000
open Go.RowKit

set_option maxHeartbeats 8000000 in
theorem tells19 (t : Tree) (cs : List Value) (w : World) (hT : TreeAt w (· < w.heap.size) t cs) :
    Calls Try.prog 3 #[.agg cs.toArray] w fun e w' => e = .returned (.bool true) ∧ Below w.heap.size w w' := by
  obtain ⟨o, l⟩ := t
  obtain ⟨Ab, cb, Ak, ck, rfl, _, _, _, _⟩ := hT.open_
  have B2 : Below w.heap.size w (w.alloc (.cells #[.int .i64 o.kind, .int .u64 (o.bits : Int), .int .u64 (o.high : Int), .int .u64 (o.low : Int), .string ⟨o.text.toArray⟩, .string ⟨o.more.toArray⟩, .int .i64 o.sub, .slice Ab o.bytes.length cb, .slice Ak l.length ck] 26)) := (Below.refl _ _).alloc (Nat.le_refl _) _
  have g1 : (w.alloc (.cells #[.int .i64 o.kind, .int .u64 (o.bits : Int), .int .u64 (o.high : Int), .int .u64 (o.low : Int), .string ⟨o.text.toArray⟩, .string ⟨o.more.toArray⟩, .int .i64 o.sub, .slice Ab o.bytes.length cb, .slice Ak l.length ck] 26)).heap[w.heap.size]? = some (.cells #[.int .i64 o.kind, .int .u64 (o.bits : Int), .int .u64 (o.high : Int), .int .u64 (o.low : Int), .string ⟨o.text.toArray⟩, .string ⟨o.more.toArray⟩, .int .i64 o.sub, .slice Ab o.bytes.length cb, .slice Ak l.length ck] 26) := heap_alloc_new w _
  have cX := Lib.hid fun (V : World) (hV : Below w.heap.size w V) => small_any (.node o l) _ _ _ _ _ _ _ _ _ V (hT.up hV)
  have cA := Lib.hid fun (V : World) (hV : Below w.heap.size w V) (hs : smallB (.node o l) = true) => of_any (.node o l) _ V (Nat.le_trans (small_size hs) (by decide)) (hT.up hV)
  have cB := Lib.hid fun (V : World) (hV : Below w.heap.size w V) (hs : smallB (.node o l) = true) => refSize_any (.node o l) _ V (Nat.le_trans (small_size hs) (by decide)) (hT.up hV)
  generalize smallB (.node o l) = x at *
  generalize sizeT (.node o l) = n at *
  have HB2 := Lib.hid B2
  have G1 := Lib.hid g1
  clear hT B2 g1
  unfold cellsV at *
  go_enter Try.func3, Try.ntmps3
  go_wp2_with fail
  refine (awake_any _).mono ?_
  rintro e w3 ⟨rfl, B1⟩
  have HB3 := Lib.hid (HB2.out.trans (B1.mono HB2.out.size))
  have G3 := Lib.hid ((B1.block _ (block_lt G1.out)).trans G1.out)
  clear B1 HB2 G1
  have i0 : w3.cell? ⟨w.heap.size, 0, none⟩ = some (.int .i64 o.kind) := by rw [block_cell G3.out]; rfl
  have i1 : w3.cell? ⟨w.heap.size, 1, none⟩ = some (.int .u64 (o.bits : Int)) := by rw [block_cell G3.out]; rfl
  have i2 : w3.cell? ⟨w.heap.size, 2, none⟩ = some (.int .u64 (o.high : Int)) := by rw [block_cell G3.out]; rfl
  have i3 : w3.cell? ⟨w.heap.size, 3, none⟩ = some (.int .u64 (o.low : Int)) := by rw [block_cell G3.out]; rfl
  have i4 : w3.cell? ⟨w.heap.size, 4, none⟩ = some (.string ⟨o.text.toArray⟩) := by rw [block_cell G3.out]; rfl
  have i5 : w3.cell? ⟨w.heap.size, 5, none⟩ = some (.string ⟨o.more.toArray⟩) := by rw [block_cell G3.out]; rfl
  have i6 : w3.cell? ⟨w.heap.size, 6, none⟩ = some (.int .i64 o.sub) := by rw [block_cell G3.out]; rfl
  have i7 : w3.cell? ⟨w.heap.size, 7, none⟩ = some (.slice Ab o.bytes.length cb) := by rw [block_cell G3.out]; rfl
  have i8 : w3.cell? ⟨w.heap.size, 8, none⟩ = some (.slice Ak l.length ck) := by rw [block_cell G3.out]; rfl
  have ri0 := cell_regrown i0
  have ri1 := cell_regrown i1
  have ri2 := cell_regrown i2
  have ri3 := cell_regrown i3
  have ri4 := cell_regrown i4
  have ri5 := cell_regrown i5
  have ri6 := cell_regrown i6
  have ri7 := cell_regrown i7
  have ri8 := cell_regrown i8
  have k1 : ∀ d os, Calls Try.prog 8 #[.agg #[.int .i64 o.kind, .int .u64 (o.bits : Int), .int .u64 (o.high : Int), .int .u64 (o.low : Int), .string ⟨o.text.toArray⟩, .string ⟨o.more.toArray⟩, .int .i64 o.sub, .slice Ab o.bytes.length cb, .slice Ak l.length ck]] (Sort.grow (redrawn w3 d) os) fun z w'' => z = .returned (.bool x) ∧ ∃ p : Regrown, w'' = Sort.grow (redrawn w3 p.d) p.os := fun d os => Calls.regrown_of (cX.out _ (HB3.out.trans ((below_regrown w3 d os).mono HB3.out.size)))
  cases x with
  | false =>
    clear i0 i1 i2 i3 i4 i5 i6 i7 i8 cX cA cB
    go_upto_region 3 with fail
    refine wp_region_quiet_below (by kernel_rfl) (by kernel_rfl) ?_
    repeat (go_big_quiet_step (first | with_reducible exact k1 _ _))
    refine wpQuiet_nil ?_
    intro _ hw'
    obtain ⟨⟨dq, osq⟩, hw''⟩ := hw'
    subst hw''
    have HB5 := Lib.hid (HB3.out.trans ((below_regrown w3 dq osq).mono HB3.out.size))
    clear k1
    go_wp2_with fail
    go_ret
    exact ⟨by first | rfl | (simp; done), HB5.out⟩
  | true =>
  have k2 : ∀ d os, Calls Try.prog 9 #[.agg #[.int .i64 o.kind, .int .u64 (o.bits : Int), .int .u64 (o.high : Int), .int .u64 (o.low : Int), .string ⟨o.text.toArray⟩, .string ⟨o.more.toArray⟩, .int .i64 o.sub, .slice Ab o.bytes.length cb, .slice Ak l.length ck]] (Sort.grow (redrawn w3 d) os) fun z w'' => z = .returned (.int .i64 (n : Int)) ∧ ∃ p : Regrown, w'' = Sort.grow (redrawn w3 p.d) p.os := fun d os => Calls.regrown_of (cA.out _ (HB3.out.trans ((below_regrown w3 d os).mono HB3.out.size)) (by trivial))
  have k3 : ∀ d os, Calls Try.prog 10 #[.agg #[.int .i64 o.kind, .int .u64 (o.bits : Int), .int .u64 (o.high : Int), .int .u64 (o.low : Int), .string ⟨o.text.toArray⟩, .string ⟨o.more.toArray⟩, .int .i64 o.sub, .slice Ab o.bytes.length cb, .slice Ak l.length ck]] (Sort.grow (redrawn w3 d) os) fun z w'' => z = .returned (.int .i64 (n : Int)) ∧ ∃ p : Regrown, w'' = Sort.grow (redrawn w3 p.d) p.os := fun d os => Calls.regrown_of (cB.out _ (HB3.out.trans ((below_regrown w3 d os).mono HB3.out.size)) (by trivial))
  have e0 : ((n : Int) == (n : Int)) = true := beq_self_eq_true _
  clear i0 i1 i2 i3 i4 i5 i6 i7 i8 cX cA cB
  go_upto_region 3 with fail
  refine wp_region_quiet_below (by kernel_rfl) (by kernel_rfl) ?_
  repeat (go_big_quiet_step (first | with_reducible exact k1 _ _ | with_reducible exact k2 _ _ | with_reducible exact k3 _ _))
  refine wpQuiet_nil ?_
  intro _ hw'
  obtain ⟨⟨dq, osq⟩, hw''⟩ := hw'
  subst hw''
  have HB5 := Lib.hid (HB3.out.trans ((below_regrown w3 dq osq).mono HB3.out.size))
  clear k1
  go_wp2_with fail
  go_ret
  exact ⟨by first | rfl | (simp; done), HB5.out⟩
end Go.Proofs.Ytdaoekcabfapaaa
