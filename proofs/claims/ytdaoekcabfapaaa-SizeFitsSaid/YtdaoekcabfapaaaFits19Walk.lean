/-
  The law SizeFits (chapter 19) at any tree, any limits; no condition.
-/
import Derived.Test.YtdaoekcabfapaaaAwake19
namespace Go.Proofs.Ytdaoekcabfapaaa
set_option maxRecDepth 100000
open Go.RowKit

set_option maxHeartbeats 8000000 in
theorem fits19 (t : Tree) (cs : List Value) (a b c : Int) (w : World) (hT : TreeAt w (· < w.heap.size) t cs) :
    Calls Try.prog 4 #[.agg cs.toArray, .agg #[.int .i64 a, .int .i64 b, .int .i64 c]] w fun e w' => e = .returned (.bool true) ∧ Below w.heap.size w w' := by
  obtain ⟨o, l⟩ := t
  obtain ⟨Ab, cb, Ak, ck, rfl, _, _, _, _⟩ := hT.open_
  have B2 : Below w.heap.size w ((w.alloc (.cells #[.int .i64 o.kind, .int .u64 (o.bits : Int), .int .u64 (o.high : Int), .int .u64 (o.low : Int), .string ⟨o.text.toArray⟩, .string ⟨o.more.toArray⟩, .int .i64 o.sub, .slice Ab o.bytes.length cb, .slice Ak l.length ck] 26)).alloc (.cells #[.int .i64 a, .int .i64 b, .int .i64 c] 31)) := ((Below.refl _ _).alloc (Nat.le_refl _) _).alloc (by simp) _
  have g1 : ((w.alloc (.cells #[.int .i64 o.kind, .int .u64 (o.bits : Int), .int .u64 (o.high : Int), .int .u64 (o.low : Int), .string ⟨o.text.toArray⟩, .string ⟨o.more.toArray⟩, .int .i64 o.sub, .slice Ab o.bytes.length cb, .slice Ak l.length ck] 26)).alloc (.cells #[.int .i64 a, .int .i64 b, .int .i64 c] 31)).heap[w.heap.size + 1]? = some (.cells #[.int .i64 a, .int .i64 b, .int .i64 c] 31) := by
    have := heap_alloc_new (w.alloc (.cells #[.int .i64 o.kind, .int .u64 (o.bits : Int), .int .u64 (o.high : Int), .int .u64 (o.low : Int), .string ⟨o.text.toArray⟩, .string ⟨o.more.toArray⟩, .int .i64 o.sub, .slice Ab o.bytes.length cb, .slice Ak l.length ck] 26)) (.cells #[.int .i64 a, .int .i64 b, .int .i64 c] 31)
    simpa using this
  have g0 : ((w.alloc (.cells #[.int .i64 o.kind, .int .u64 (o.bits : Int), .int .u64 (o.high : Int), .int .u64 (o.low : Int), .string ⟨o.text.toArray⟩, .string ⟨o.more.toArray⟩, .int .i64 o.sub, .slice Ab o.bytes.length cb, .slice Ak l.length ck] 26)).alloc (.cells #[.int .i64 a, .int .i64 b, .int .i64 c] 31)).heap[w.heap.size]? = some (.cells #[.int .i64 o.kind, .int .u64 (o.bits : Int), .int .u64 (o.high : Int), .int .u64 (o.low : Int), .string ⟨o.text.toArray⟩, .string ⟨o.more.toArray⟩, .int .i64 o.sub, .slice Ab o.bytes.length cb, .slice Ak l.length ck] 26) := (Below.heap_alloc _ _ _ (by simp)).trans (heap_alloc_new w _)
  have cX := Lib.hid fun (V : World) (hV : Below w.heap.size w V) => small_any (.node o l) _ _ _ _ _ _ _ _ _ V (hT.up hV)
  have cA := Lib.hid fun (V : World) (_ : Below w.heap.size w V) => may_any a b c V
  have cB := Lib.hid fun (V : World) (_ : Below w.heap.size w V) => refMay_any a b c V
  have cC := Lib.hid fun (V : World) (hV : Below w.heap.size w V) (hs : smallB (.node o l) = true) => fits_any (.node o l) _ a b c V (Nat.le_trans (small_cnt hs) (by decide)) (Nat.le_trans (small_size hs) (by decide)) (hT.up hV)
  have cD := Lib.hid fun (V : World) (hV : Below w.heap.size w V) (hs : smallB (.node o l) = true) => refFits_any (.node o l) _ a b c V (Nat.le_trans (small_cnt hs) (by decide)) (Nat.le_trans (small_size hs) (by decide)) (hT.up hV)
  generalize smallB (.node o l) = x at *
  generalize fitsN (.node o l) a b c = n at *
  generalize mayB a b c = m at *
  have HB2 := Lib.hid B2
  have G0 := Lib.hid g0
  have G1 := Lib.hid g1
  clear hT B2 g0 g1
  unfold cellsV at *
  go_enter Try.func4, Try.ntmps4
  go_wp2_with fail
  refine (awake_any _).mono ?_
  rintro e w3 ⟨rfl, B1⟩
  have HB3 := Lib.hid (HB2.out.trans (B1.mono HB2.out.size))
  have G03 := Lib.hid ((B1.block _ (block_lt G0.out)).trans G0.out)
  have G13 := Lib.hid ((B1.block _ (block_lt G1.out)).trans G1.out)
  clear B1 HB2 G0 G1
  have i0 : w3.cell? ⟨w.heap.size, 0, none⟩ = some (.int .i64 o.kind) := by rw [block_cell G03.out]; rfl
  have i1 : w3.cell? ⟨w.heap.size, 1, none⟩ = some (.int .u64 (o.bits : Int)) := by rw [block_cell G03.out]; rfl
  have i2 : w3.cell? ⟨w.heap.size, 2, none⟩ = some (.int .u64 (o.high : Int)) := by rw [block_cell G03.out]; rfl
  have i3 : w3.cell? ⟨w.heap.size, 3, none⟩ = some (.int .u64 (o.low : Int)) := by rw [block_cell G03.out]; rfl
  have i4 : w3.cell? ⟨w.heap.size, 4, none⟩ = some (.string ⟨o.text.toArray⟩) := by rw [block_cell G03.out]; rfl
  have i5 : w3.cell? ⟨w.heap.size, 5, none⟩ = some (.string ⟨o.more.toArray⟩) := by rw [block_cell G03.out]; rfl
  have i6 : w3.cell? ⟨w.heap.size, 6, none⟩ = some (.int .i64 o.sub) := by rw [block_cell G03.out]; rfl
  have i7 : w3.cell? ⟨w.heap.size, 7, none⟩ = some (.slice Ab o.bytes.length cb) := by rw [block_cell G03.out]; rfl
  have i8 : w3.cell? ⟨w.heap.size, 8, none⟩ = some (.slice Ak l.length ck) := by rw [block_cell G03.out]; rfl
  go_wp2_with fail
  refine (cX.out _ HB3.out).mono ?_
  rintro e w4 ⟨rfl, B1⟩
  have HB4 := Lib.hid (HB3.out.trans (B1.mono HB3.out.size))
  have G04 := Lib.hid ((B1.block _ (block_lt G03.out)).trans G03.out)
  have G14 := Lib.hid ((B1.block _ (block_lt G13.out)).trans G13.out)
  clear B1 cX HB3 G03 G13 i0 i1 i2 i3 i4 i5 i6 i7 i8
  cases x with
  | false =>
    go_wp2_with fail
    go_ret
    exact ⟨rfl, HB4.out⟩
  | true =>
  have i0 : w4.cell? ⟨w.heap.size, 0, none⟩ = some (.int .i64 o.kind) := by rw [block_cell G04.out]; rfl
  have i1 : w4.cell? ⟨w.heap.size, 1, none⟩ = some (.int .u64 (o.bits : Int)) := by rw [block_cell G04.out]; rfl
  have i2 : w4.cell? ⟨w.heap.size, 2, none⟩ = some (.int .u64 (o.high : Int)) := by rw [block_cell G04.out]; rfl
  have i3 : w4.cell? ⟨w.heap.size, 3, none⟩ = some (.int .u64 (o.low : Int)) := by rw [block_cell G04.out]; rfl
  have i4 : w4.cell? ⟨w.heap.size, 4, none⟩ = some (.string ⟨o.text.toArray⟩) := by rw [block_cell G04.out]; rfl
  have i5 : w4.cell? ⟨w.heap.size, 5, none⟩ = some (.string ⟨o.more.toArray⟩) := by rw [block_cell G04.out]; rfl
  have i6 : w4.cell? ⟨w.heap.size, 6, none⟩ = some (.int .i64 o.sub) := by rw [block_cell G04.out]; rfl
  have i7 : w4.cell? ⟨w.heap.size, 7, none⟩ = some (.slice Ab o.bytes.length cb) := by rw [block_cell G04.out]; rfl
  have i8 : w4.cell? ⟨w.heap.size, 8, none⟩ = some (.slice Ak l.length ck) := by rw [block_cell G04.out]; rfl
  have m0 : w4.cell? ⟨w.heap.size + 1, 0, none⟩ = some (.int .i64 a) := by rw [block_cell G14.out]; rfl
  have m1 : w4.cell? ⟨w.heap.size + 1, 1, none⟩ = some (.int .i64 b) := by rw [block_cell G14.out]; rfl
  have m2 : w4.cell? ⟨w.heap.size + 1, 2, none⟩ = some (.int .i64 c) := by rw [block_cell G14.out]; rfl
  have ri0 := cell_regrown i0
  have ri1 := cell_regrown i1
  have ri2 := cell_regrown i2
  have ri3 := cell_regrown i3
  have ri4 := cell_regrown i4
  have ri5 := cell_regrown i5
  have ri6 := cell_regrown i6
  have ri7 := cell_regrown i7
  have ri8 := cell_regrown i8
  have rm0 := cell_regrown m0
  have rm1 := cell_regrown m1
  have rm2 := cell_regrown m2
  have k1 : ∀ d os, Calls Try.prog 11 #[.agg #[.int .i64 a, .int .i64 b, .int .i64 c]] (Sort.grow (redrawn w4 d) os) fun z w'' => z = .returned (.bool m) ∧ ∃ p : Regrown, w'' = Sort.grow (redrawn w4 p.d) p.os := fun d os => Calls.regrown_of (cA.out _ (HB4.out.trans ((below_regrown w4 d os).mono HB4.out.size)))
  have k2 : ∀ d os, Calls Try.prog 12 #[.agg #[.int .i64 a, .int .i64 b, .int .i64 c]] (Sort.grow (redrawn w4 d) os) fun z w'' => z = .returned (.bool m) ∧ ∃ p : Regrown, w'' = Sort.grow (redrawn w4 p.d) p.os := fun d os => Calls.regrown_of (cB.out _ (HB4.out.trans ((below_regrown w4 d os).mono HB4.out.size)))
  have k3 : ∀ d os, Calls Try.prog 13 #[.agg #[.int .i64 o.kind, .int .u64 (o.bits : Int), .int .u64 (o.high : Int), .int .u64 (o.low : Int), .string ⟨o.text.toArray⟩, .string ⟨o.more.toArray⟩, .int .i64 o.sub, .slice Ab o.bytes.length cb, .slice Ak l.length ck], .agg #[.int .i64 a, .int .i64 b, .int .i64 c]] (Sort.grow (redrawn w4 d) os) fun z w'' => z = .returned (.int .i64 n) ∧ ∃ p : Regrown, w'' = Sort.grow (redrawn w4 p.d) p.os := fun d os => Calls.regrown_of (cC.out _ (HB4.out.trans ((below_regrown w4 d os).mono HB4.out.size)) (by trivial))
  have k4 : ∀ d os, Calls Try.prog 14 #[.agg #[.int .i64 o.kind, .int .u64 (o.bits : Int), .int .u64 (o.high : Int), .int .u64 (o.low : Int), .string ⟨o.text.toArray⟩, .string ⟨o.more.toArray⟩, .int .i64 o.sub, .slice Ab o.bytes.length cb, .slice Ak l.length ck], .agg #[.int .i64 a, .int .i64 b, .int .i64 c]] (Sort.grow (redrawn w4 d) os) fun z w'' => z = .returned (.int .i64 n) ∧ ∃ p : Regrown, w'' = Sort.grow (redrawn w4 p.d) p.os := fun d os => Calls.regrown_of (cD.out _ (HB4.out.trans ((below_regrown w4 d os).mono HB4.out.size)) (by trivial))
  have e0 : (n == n) = true := beq_self_eq_true _
  have e1 : (m == m) = true := beq_self_eq_true _
  clear i0 i1 i2 i3 i4 i5 i6 i7 i8 m0 m1 m2 cA cB cC cD
  go_upto_region 5 with fail
  refine wp_region_quiet_below (by kernel_rfl) (by kernel_rfl) ?_
  repeat (go_big_quiet_step (first | with_reducible exact k1 _ _ | with_reducible exact k2 _ _ | with_reducible exact k3 _ _ | with_reducible exact k4 _ _))
  refine wpQuiet_nil ?_
  intro _ hw'
  obtain ⟨⟨dq, osq⟩, hw''⟩ := hw'
  subst hw''
  have HB5 := Lib.hid (HB4.out.trans ((below_regrown w4 dq osq).mono HB4.out.size))
  clear k1 k2 k3 k4
  go_wp2_with fail
  go_ret
  exact ⟨by first | rfl | (simp; done), HB5.out⟩
end Go.Proofs.Ytdaoekcabfapaaa
