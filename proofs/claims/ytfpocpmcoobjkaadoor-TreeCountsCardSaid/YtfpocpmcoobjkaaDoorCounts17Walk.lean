/-
  The law TreeCounts (chapter 17) at any tree; no condition but that the words and the powers of ten are laid.
-/
import Derived.Test.YtfpocpmcoobjkaaDoorSames17Walk
import Derived.Test.YtfpocpmcoobjkaaDoorCodeR17
namespace Go.Proofs.YtfpocpmcoobjkaaDoor
set_option maxRecDepth 100000
open Go.RowKit

set_option maxHeartbeats 8000000 in
theorem counts17 (t : Tree) (cs : List Value) (w : World) (hW : Words w) (hP : Tens w) (hT : TreeAt w (· < w.heap.size) t cs) :
    Calls Tryd.prog 5 #[.agg cs.toArray] w fun e w' => e = .returned (.bool true) ∧ Below w.heap.size w w' := by
  obtain ⟨o, l⟩ := t
  obtain ⟨Ab, cb, Ak, ck, rfl, _, hlen, _, hkids⟩ := hT.open_
  have B2 : Below w.heap.size w (w.alloc (.cells #[.int .i64 o.kind, .int .u64 (o.bits : Int), .int .u64 (o.high : Int), .int .u64 (o.low : Int), .string ⟨o.text.toArray⟩, .string ⟨o.more.toArray⟩, .int .i64 o.sub, .slice Ab o.bytes.length cb, .slice Ak l.length ck] 26)) := (Below.refl _ _).alloc (Nat.le_refl _) _
  have g1 : (w.alloc (.cells #[.int .i64 o.kind, .int .u64 (o.bits : Int), .int .u64 (o.high : Int), .int .u64 (o.low : Int), .string ⟨o.text.toArray⟩, .string ⟨o.more.toArray⟩, .int .i64 o.sub, .slice Ab o.bytes.length cb, .slice Ak l.length ck] 26)).heap[w.heap.size]? = some (.cells #[.int .i64 o.kind, .int .u64 (o.bits : Int), .int .u64 (o.high : Int), .int .u64 (o.low : Int), .string ⟨o.text.toArray⟩, .string ⟨o.more.toArray⟩, .int .i64 o.sub, .slice Ab o.bytes.length cb, .slice Ak l.length ck] 26) := heap_alloc_new w _
  have hK : ∀ V, Below w.heap.size w V → l ≠ [] → ∃ b off, Ak = some ⟨b, off, none⟩ ∧ b < V.heap.size ∧ KidsAt V (· < V.heap.size) b off l := fun V hV hne => by
    obtain ⟨Ab', cb', Ak', ck', e, _, _, _, hk⟩ := (hT.up hV).open_
    unfold cellsV at e
    simp only [List.cons.injEq, Value.slice.injEq, true_and, and_true] at e
    obtain ⟨_, rfl, _⟩ := e
    exact hk hne
  have cA := Lib.hid fun (V : World) (hV : Below w.heap.size w V) => awake_any V (hW.up hV)
  have cX := Lib.hid fun (V : World) (hV : Below w.heap.size w V) => small_any (.node o l) _ _ _ _ _ _ _ _ _ V (hT.up hV)
  have cC1 := Lib.hid fun (V : World) (hV : Below w.heap.size w V) (hs : smallB (.node o l) = true) => count_any (.node o l) _ V (Nat.le_trans (small_cnt hs) (by decide)) (hT.up hV)
  have cC2 := Lib.hid fun (V : World) (hV : Below w.heap.size w V) (hs : smallB (.node o l) = true) => refCount_any (.node o l) _ V (Nat.le_trans (small_cnt hs) (by decide)) (hT.up hV)
  have cD1 := Lib.hid fun (V : World) (hV : Below w.heap.size w V) (hs : smallB (.node o l) = true) => depth_any (.node o l) _ V (Nat.le_trans (small_cnt hs) (by decide)) (hT.up hV)
  have cD2 := Lib.hid fun (V : World) (hV : Below w.heap.size w V) (hs : smallB (.node o l) = true) => refDepth_any (.node o l) _ V (Nat.le_trans (small_cnt hs) (by decide)) (hT.up hV)
  have cR1 := Lib.hid fun (V : World) (hV : Below w.heap.size w V) => regular_any Ak l ck V (hP.up hV) hlen (hK V hV)
  have cR2 := Lib.hid fun (V : World) (hV : Below w.heap.size w V) => refRegular_any Ak l ck V hlen (hK V hV)
  generalize cntT (.node o l) = nc at *
  generalize depT (.node o l) = nd at *
  generalize regF 0 l = nr at *
  generalize smallB (.node o l) = x at *
  have HB2 := Lib.hid B2
  have G1 := Lib.hid g1
  clear hW hP hT B2 g1 hK hkids hlen
  unfold cellsV at *
  go_enter Tryd.func5, Tryd.ntmps5
  go_wp2_with fail
  refine (cA.out _ HB2.out).mono ?_
  rintro e w1 ⟨rfl, B1⟩
  have HB1 := Lib.hid (low17 HB2.out B1)
  have G3 := Lib.hid ((B1.block _ (block_lt G1.out)).trans G1.out)
  clear B1 cA HB2 G1
  have i0 : w1.cell? ⟨w.heap.size, 0, none⟩ = some (.int .i64 o.kind) := by rw [block_cell G3.out]; rfl
  have i1 : w1.cell? ⟨w.heap.size, 1, none⟩ = some (.int .u64 (o.bits : Int)) := by rw [block_cell G3.out]; rfl
  have i2 : w1.cell? ⟨w.heap.size, 2, none⟩ = some (.int .u64 (o.high : Int)) := by rw [block_cell G3.out]; rfl
  have i3 : w1.cell? ⟨w.heap.size, 3, none⟩ = some (.int .u64 (o.low : Int)) := by rw [block_cell G3.out]; rfl
  have i4 : w1.cell? ⟨w.heap.size, 4, none⟩ = some (.string ⟨o.text.toArray⟩) := by rw [block_cell G3.out]; rfl
  have i5 : w1.cell? ⟨w.heap.size, 5, none⟩ = some (.string ⟨o.more.toArray⟩) := by rw [block_cell G3.out]; rfl
  have i6 : w1.cell? ⟨w.heap.size, 6, none⟩ = some (.int .i64 o.sub) := by rw [block_cell G3.out]; rfl
  have i7 : w1.cell? ⟨w.heap.size, 7, none⟩ = some (.slice Ab o.bytes.length cb) := by rw [block_cell G3.out]; rfl
  have i8 : w1.cell? ⟨w.heap.size, 8, none⟩ = some (.slice Ak l.length ck) := by rw [block_cell G3.out]; rfl
  go_wp2_with fail
  refine (cX.out _ HB1.out).mono ?_
  rintro e w3 ⟨rfl, B1⟩
  have HB3 := Lib.hid (low17 HB1.out B1)
  have G5 := Lib.hid ((B1.block _ (block_lt G3.out)).trans G3.out)
  clear B1 cX HB1 G3 i0 i1 i2 i3 i4 i5 i6 i7 i8
  cases x with
  | false =>
    go_wp2_with fail
    go_ret
    exact ⟨rfl, HB3.out⟩
  | true =>
  have i0 : w3.cell? ⟨w.heap.size, 0, none⟩ = some (.int .i64 o.kind) := by rw [block_cell G5.out]; rfl
  have i1 : w3.cell? ⟨w.heap.size, 1, none⟩ = some (.int .u64 (o.bits : Int)) := by rw [block_cell G5.out]; rfl
  have i2 : w3.cell? ⟨w.heap.size, 2, none⟩ = some (.int .u64 (o.high : Int)) := by rw [block_cell G5.out]; rfl
  have i3 : w3.cell? ⟨w.heap.size, 3, none⟩ = some (.int .u64 (o.low : Int)) := by rw [block_cell G5.out]; rfl
  have i4 : w3.cell? ⟨w.heap.size, 4, none⟩ = some (.string ⟨o.text.toArray⟩) := by rw [block_cell G5.out]; rfl
  have i5 : w3.cell? ⟨w.heap.size, 5, none⟩ = some (.string ⟨o.more.toArray⟩) := by rw [block_cell G5.out]; rfl
  have i6 : w3.cell? ⟨w.heap.size, 6, none⟩ = some (.int .i64 o.sub) := by rw [block_cell G5.out]; rfl
  have i7 : w3.cell? ⟨w.heap.size, 7, none⟩ = some (.slice Ab o.bytes.length cb) := by rw [block_cell G5.out]; rfl
  have i8 : w3.cell? ⟨w.heap.size, 8, none⟩ = some (.slice Ak l.length ck) := by rw [block_cell G5.out]; rfl
  have k1 : ∀ d os, Calls Tryd.prog 16 #[.agg #[.int .i64 o.kind, .int .u64 (o.bits : Int), .int .u64 (o.high : Int), .int .u64 (o.low : Int), .string ⟨o.text.toArray⟩, .string ⟨o.more.toArray⟩, .int .i64 o.sub, .slice Ab o.bytes.length cb, .slice Ak l.length ck]] (Sort.grow (redrawn w3 d) os) fun x w'' => x = .returned (.int .i64 (nc : Int)) ∧ ∃ p : Regrown, w'' = Sort.grow (redrawn w3 p.d) p.os := fun d os => Calls.regrown_of (cC1.out _ (HB3.out.trans ((below_regrown w3 d os).mono HB3.out.size)) (by trivial))
  have k2 : ∀ d os, Calls Tryd.prog 17 #[.agg #[.int .i64 o.kind, .int .u64 (o.bits : Int), .int .u64 (o.high : Int), .int .u64 (o.low : Int), .string ⟨o.text.toArray⟩, .string ⟨o.more.toArray⟩, .int .i64 o.sub, .slice Ab o.bytes.length cb, .slice Ak l.length ck]] (Sort.grow (redrawn w3 d) os) fun x w'' => x = .returned (.int .i64 (nc : Int)) ∧ ∃ p : Regrown, w'' = Sort.grow (redrawn w3 p.d) p.os := fun d os => Calls.regrown_of (cC2.out _ (HB3.out.trans ((below_regrown w3 d os).mono HB3.out.size)) (by trivial))
  have k3 : ∀ d os, Calls Tryd.prog 18 #[.agg #[.int .i64 o.kind, .int .u64 (o.bits : Int), .int .u64 (o.high : Int), .int .u64 (o.low : Int), .string ⟨o.text.toArray⟩, .string ⟨o.more.toArray⟩, .int .i64 o.sub, .slice Ab o.bytes.length cb, .slice Ak l.length ck]] (Sort.grow (redrawn w3 d) os) fun x w'' => x = .returned (.int .i64 (nd : Int)) ∧ ∃ p : Regrown, w'' = Sort.grow (redrawn w3 p.d) p.os := fun d os => Calls.regrown_of (cD1.out _ (HB3.out.trans ((below_regrown w3 d os).mono HB3.out.size)) (by trivial))
  have k4 : ∀ d os, Calls Tryd.prog 19 #[.agg #[.int .i64 o.kind, .int .u64 (o.bits : Int), .int .u64 (o.high : Int), .int .u64 (o.low : Int), .string ⟨o.text.toArray⟩, .string ⟨o.more.toArray⟩, .int .i64 o.sub, .slice Ab o.bytes.length cb, .slice Ak l.length ck]] (Sort.grow (redrawn w3 d) os) fun x w'' => x = .returned (.int .i64 (nd : Int)) ∧ ∃ p : Regrown, w'' = Sort.grow (redrawn w3 p.d) p.os := fun d os => Calls.regrown_of (cD2.out _ (HB3.out.trans ((below_regrown w3 d os).mono HB3.out.size)) (by trivial))
  have k5 : ∀ d os, Calls Tryd.prog 20 #[.slice Ak l.length ck] (Sort.grow (redrawn w3 d) os) fun x w'' => x = .returned (.bool nr) ∧ ∃ p : Regrown, w'' = Sort.grow (redrawn w3 p.d) p.os := fun d os => Calls.regrown_of (cR1.out _ (HB3.out.trans ((below_regrown w3 d os).mono HB3.out.size)))
  have k6 : ∀ d os, Calls Tryd.prog 21 #[.slice Ak l.length ck] (Sort.grow (redrawn w3 d) os) fun x w'' => x = .returned (.bool nr) ∧ ∃ p : Regrown, w'' = Sort.grow (redrawn w3 p.d) p.os := fun d os => Calls.regrown_of (cR2.out _ (HB3.out.trans ((below_regrown w3 d os).mono HB3.out.size)))
  have e0 : ((nc : Int) == (nc : Int)) = true := beq_self_eq_true _
  have e1 : ((nd : Int) == (nd : Int)) = true := beq_self_eq_true _
  have e2 : (nr == nr) = true := beq_self_eq_true _
  have ri0 := cell_regrown i0
  have ri1 := cell_regrown i1
  have ri2 := cell_regrown i2
  have ri3 := cell_regrown i3
  have ri4 := cell_regrown i4
  have ri5 := cell_regrown i5
  have ri6 := cell_regrown i6
  have ri7 := cell_regrown i7
  have ri8 := cell_regrown i8
  clear i0 i1 i2 i3 i4 i5 i6 i7 i8 cC1 cC2 cD1 cD2 cR1 cR2
  go_upto_region 5 with fail
  refine wp_region_quiet_below (by kernel_rfl) (by kernel_rfl) ?_
  repeat (go_big_quiet_step (first | with_reducible exact k1 _ _ | with_reducible exact k2 _ _ | with_reducible exact k3 _ _ | with_reducible exact k4 _ _ | with_reducible exact k5 _ _ | with_reducible exact k6 _ _))
  refine wpQuiet_nil ?_
  intro _ hw'
  obtain ⟨⟨dq, osq⟩, hw''⟩ := hw'
  subst hw''
  have HB5 := Lib.hid (HB3.out.trans ((below_regrown w3 dq osq).mono HB3.out.size))
  clear k1 k2 k3 k4 k5 k6
  go_wp2_with fail
  go_ret
  exact ⟨by first | rfl | (simp; done), HB5.out⟩
end Go.Proofs.YtfpocpmcoobjkaaDoor
