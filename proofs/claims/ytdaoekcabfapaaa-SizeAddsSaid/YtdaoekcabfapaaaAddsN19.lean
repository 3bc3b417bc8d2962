/-
  The law SizeAdds (chapter 19) at any Field and any tree with no Kids; no condition but that its Name is not too long for a Name.
-/
import Derived.Test.YtdaoekcabfapaaaAwake19
import Derived.Test.YtdaoekcabfapaaaOwn19
import Derived.Test.YtdaoekcabfapaaaMore19
import Derived.Deep.RegionHeld3
import Derived.BigQuiet
namespace Go.Proofs.Ytdaoekcabfapaaa
set_option maxRecDepth 100000
open Go.RowKit

set_option maxHeartbeats 8000000 in
theorem adds19N (t : Tree) (cs : List Value) (nm : List UInt8) (tf : Tree) (f0 f1 f2 f3 f4 f5 f6 f7 f8 : Value) (w : World) (hkd : ¬ (t.own.kind = 3 ∨ t.own.kind = 4 ∨ t.own.kind = 15)) (hT : TreeAt w (· < w.heap.size) t cs) (_hN : nm.length ≤ maxLen) (hF : TreeAt w (· < w.heap.size) tf [f0, f1, f2, f3, f4, f5, f6, f7, f8]) :
    Calls Try.prog 5 #[.agg cs.toArray, .agg #[.string ⟨nm.toArray⟩, f0, f1, f2, f3, f4, f5, f6, f7, f8]] w fun e w' => e = .returned (.bool true) ∧ Below w.heap.size w w' := by
  obtain ⟨o, l⟩ := t
  have HKD := Lib.hid hkd
  clear hkd
  simp only [Tree.own] at HKD
  obtain ⟨Ab, cb, Ak, ck, rfl, _, _, _, _⟩ := hT.open_
  have B2 : Below w.heap.size w ((w.alloc (.cells #[.int .i64 o.kind, .int .u64 (o.bits : Int), .int .u64 (o.high : Int), .int .u64 (o.low : Int), .string ⟨o.text.toArray⟩, .string ⟨o.more.toArray⟩, .int .i64 o.sub, .slice Ab o.bytes.length cb, .slice Ak l.length ck] 26)).alloc (.cells #[.string ⟨nm.toArray⟩, f0, f1, f2, f3, f4, f5, f6, f7, f8] 37)) := ((Below.refl _ _).alloc (Nat.le_refl _) _).alloc (by simp) _
  have g1 : ((w.alloc (.cells #[.int .i64 o.kind, .int .u64 (o.bits : Int), .int .u64 (o.high : Int), .int .u64 (o.low : Int), .string ⟨o.text.toArray⟩, .string ⟨o.more.toArray⟩, .int .i64 o.sub, .slice Ab o.bytes.length cb, .slice Ak l.length ck] 26)).alloc (.cells #[.string ⟨nm.toArray⟩, f0, f1, f2, f3, f4, f5, f6, f7, f8] 37)).heap[w.heap.size + 1]? = some (.cells #[.string ⟨nm.toArray⟩, f0, f1, f2, f3, f4, f5, f6, f7, f8] 37) := by
    have := heap_alloc_new (w.alloc (.cells #[.int .i64 o.kind, .int .u64 (o.bits : Int), .int .u64 (o.high : Int), .int .u64 (o.low : Int), .string ⟨o.text.toArray⟩, .string ⟨o.more.toArray⟩, .int .i64 o.sub, .slice Ab o.bytes.length cb, .slice Ak l.length ck] 26)) (.cells #[.string ⟨nm.toArray⟩, f0, f1, f2, f3, f4, f5, f6, f7, f8] 37)
    simpa using this
  have g0 : ((w.alloc (.cells #[.int .i64 o.kind, .int .u64 (o.bits : Int), .int .u64 (o.high : Int), .int .u64 (o.low : Int), .string ⟨o.text.toArray⟩, .string ⟨o.more.toArray⟩, .int .i64 o.sub, .slice Ab o.bytes.length cb, .slice Ak l.length ck] 26)).alloc (.cells #[.string ⟨nm.toArray⟩, f0, f1, f2, f3, f4, f5, f6, f7, f8] 37)).heap[w.heap.size]? = some (.cells #[.int .i64 o.kind, .int .u64 (o.bits : Int), .int .u64 (o.high : Int), .int .u64 (o.low : Int), .string ⟨o.text.toArray⟩, .string ⟨o.more.toArray⟩, .int .i64 o.sub, .slice Ab o.bytes.length cb, .slice Ak l.length ck] 26) := (Below.heap_alloc _ _ _ (by simp)).trans (heap_alloc_new w _)
  have CX := Lib.hid fun (V : World) (hV : Below w.heap.size w V) => small_any (.node o l) _ _ _ _ _ _ _ _ _ V (hT.up hV)
  have CY := Lib.hid fun (V : World) (hV : Below w.heap.size w V) => small_any tf _ _ _ _ _ _ _ _ _ V (hF.up hV)
  have HT := Lib.hid hT
  have HF := Lib.hid hF
  have HB2 := Lib.hid B2
  have G0 := Lib.hid g0
  have G1 := Lib.hid g1
  clear hT hF B2 g0 g1
  obtain ⟨x, hx⟩ : ∃ x, x = smallB (.node o l) := ⟨_, rfl⟩
  obtain ⟨y, hy⟩ : ∃ y, y = smallB tf := ⟨_, rfl⟩
  rw [← hx] at CX
  rw [← hy] at CY
  have HX := Lib.hid hx
  have HY := Lib.hid hy
  clear hx hy
  unfold cellsV
  obtain ⟨k, hk⟩ : ∃ k, k = o.kind := ⟨_, rfl⟩
  rw [← hk] at CX G0 G1 HB2 ⊢
  have HK := Lib.hid hk
  clear hk
  go_enter Try.func5, Try.ntmps5
  go_wp2_with fail
  refine (awake_any _).mono ?_
  rintro e w3 ⟨rfl, B1⟩
  have HB3 := Lib.hid (HB2.out.trans (B1.mono HB2.out.size))
  have G03 := Lib.hid ((B1.block _ (block_lt G0.out)).trans G0.out)
  have G13 := Lib.hid ((B1.block _ (block_lt G1.out)).trans G1.out)
  clear B1 HB2 G0 G1
  have i0 : w3.cell? ⟨w.heap.size, 0, none⟩ = some (.int .i64 k) := by rw [block_cell G03.out]; rfl
  have i1 : w3.cell? ⟨w.heap.size, 1, none⟩ = some (.int .u64 (o.bits : Int)) := by rw [block_cell G03.out]; rfl
  have i2 : w3.cell? ⟨w.heap.size, 2, none⟩ = some (.int .u64 (o.high : Int)) := by rw [block_cell G03.out]; rfl
  have i3 : w3.cell? ⟨w.heap.size, 3, none⟩ = some (.int .u64 (o.low : Int)) := by rw [block_cell G03.out]; rfl
  have i4 : w3.cell? ⟨w.heap.size, 4, none⟩ = some (.string ⟨o.text.toArray⟩) := by rw [block_cell G03.out]; rfl
  have i5 : w3.cell? ⟨w.heap.size, 5, none⟩ = some (.string ⟨o.more.toArray⟩) := by rw [block_cell G03.out]; rfl
  have i6 : w3.cell? ⟨w.heap.size, 6, none⟩ = some (.int .i64 o.sub) := by rw [block_cell G03.out]; rfl
  have i7 : w3.cell? ⟨w.heap.size, 7, none⟩ = some (.slice Ab o.bytes.length cb) := by rw [block_cell G03.out]; rfl
  have i8 : w3.cell? ⟨w.heap.size, 8, none⟩ = some (.slice Ak l.length ck) := by rw [block_cell G03.out]; rfl
  go_wp2_with fail
  refine (CX.out _ HB3.out).mono ?_
  rintro e w4 ⟨rfl, B1⟩
  have HB4 := Lib.hid (HB3.out.trans (B1.mono HB3.out.size))
  have G04 := Lib.hid ((B1.block _ (block_lt G03.out)).trans G03.out)
  have G14 := Lib.hid ((B1.block _ (block_lt G13.out)).trans G13.out)
  clear B1 CX HB3 G03 G13 i0 i1 i2 i3 i4 i5 i6 i7 i8
  cases x with
  | false =>
    go_wp2_with fail
    go_ret
    exact ⟨rfl, HB4.out⟩
  | true =>
  have m0 : w4.cell? ⟨w.heap.size + 1, 0, none⟩ = some (.string ⟨nm.toArray⟩) := by rw [block_cell G14.out]; rfl
  have m1 : w4.cell? ⟨w.heap.size + 1, 1, none⟩ = some (f0) := by rw [block_cell G14.out]; rfl
  have m2 : w4.cell? ⟨w.heap.size + 1, 2, none⟩ = some (f1) := by rw [block_cell G14.out]; rfl
  have m3 : w4.cell? ⟨w.heap.size + 1, 3, none⟩ = some (f2) := by rw [block_cell G14.out]; rfl
  have m4 : w4.cell? ⟨w.heap.size + 1, 4, none⟩ = some (f3) := by rw [block_cell G14.out]; rfl
  have m5 : w4.cell? ⟨w.heap.size + 1, 5, none⟩ = some (f4) := by rw [block_cell G14.out]; rfl
  have m6 : w4.cell? ⟨w.heap.size + 1, 6, none⟩ = some (f5) := by rw [block_cell G14.out]; rfl
  have m7 : w4.cell? ⟨w.heap.size + 1, 7, none⟩ = some (f6) := by rw [block_cell G14.out]; rfl
  have m8 : w4.cell? ⟨w.heap.size + 1, 8, none⟩ = some (f7) := by rw [block_cell G14.out]; rfl
  have m9 : w4.cell? ⟨w.heap.size + 1, 9, none⟩ = some (f8) := by rw [block_cell G14.out]; rfl
  go_wp2_with fail
  refine (CY.out _ HB4.out).mono ?_
  rintro e w5 ⟨rfl, B1⟩
  have HB5 := Lib.hid (HB4.out.trans (B1.mono HB4.out.size))
  have G05 := Lib.hid ((B1.block _ (block_lt G04.out)).trans G04.out)
  have G15 := Lib.hid ((B1.block _ (block_lt G14.out)).trans G14.out)
  clear B1 CY HB4 G04 G14 m0 m1 m2 m3 m4 m5 m6 m7 m8 m9
  cases y with
  | false =>
    go_wp2_with fail
    go_ret
    exact ⟨rfl, HB5.out⟩
  | true =>
  have i0 : w5.cell? ⟨w.heap.size, 0, none⟩ = some (.int .i64 k) := by rw [block_cell G05.out]; rfl
  have i1 : w5.cell? ⟨w.heap.size, 1, none⟩ = some (.int .u64 (o.bits : Int)) := by rw [block_cell G05.out]; rfl
  have i2 : w5.cell? ⟨w.heap.size, 2, none⟩ = some (.int .u64 (o.high : Int)) := by rw [block_cell G05.out]; rfl
  have i3 : w5.cell? ⟨w.heap.size, 3, none⟩ = some (.int .u64 (o.low : Int)) := by rw [block_cell G05.out]; rfl
  have i4 : w5.cell? ⟨w.heap.size, 4, none⟩ = some (.string ⟨o.text.toArray⟩) := by rw [block_cell G05.out]; rfl
  have i5 : w5.cell? ⟨w.heap.size, 5, none⟩ = some (.string ⟨o.more.toArray⟩) := by rw [block_cell G05.out]; rfl
  have i6 : w5.cell? ⟨w.heap.size, 6, none⟩ = some (.int .i64 o.sub) := by rw [block_cell G05.out]; rfl
  have i7 : w5.cell? ⟨w.heap.size, 7, none⟩ = some (.slice Ab o.bytes.length cb) := by rw [block_cell G05.out]; rfl
  have i8 : w5.cell? ⟨w.heap.size, 8, none⟩ = some (.slice Ak l.length ck) := by rw [block_cell G05.out]; rfl
  have m0 : w5.cell? ⟨w.heap.size + 1, 0, none⟩ = some (.string ⟨nm.toArray⟩) := by rw [block_cell G15.out]; rfl
  have m1 : w5.cell? ⟨w.heap.size + 1, 1, none⟩ = some (f0) := by rw [block_cell G15.out]; rfl
  have m2 : w5.cell? ⟨w.heap.size + 1, 2, none⟩ = some (f1) := by rw [block_cell G15.out]; rfl
  have m3 : w5.cell? ⟨w.heap.size + 1, 3, none⟩ = some (f2) := by rw [block_cell G15.out]; rfl
  have m4 : w5.cell? ⟨w.heap.size + 1, 4, none⟩ = some (f3) := by rw [block_cell G15.out]; rfl
  have m5 : w5.cell? ⟨w.heap.size + 1, 5, none⟩ = some (f4) := by rw [block_cell G15.out]; rfl
  have m6 : w5.cell? ⟨w.heap.size + 1, 6, none⟩ = some (f5) := by rw [block_cell G15.out]; rfl
  have m7 : w5.cell? ⟨w.heap.size + 1, 7, none⟩ = some (f6) := by rw [block_cell G15.out]; rfl
  have m8 : w5.cell? ⟨w.heap.size + 1, 8, none⟩ = some (f7) := by rw [block_cell G15.out]; rfl
  have m9 : w5.cell? ⟨w.heap.size + 1, 9, none⟩ = some (f8) := by rw [block_cell G15.out]; rfl
  by_cases q : (1000 : Int) < (nm.length : Int)
  · have e1 : decide ((1000 : Int) < (nm.length : Int)) = true := decide_eq_true q
    clear q
    go_wp2_with fail
    go_ret
    exact ⟨rfl, HB5.out⟩
  have e1 : decide ((1000 : Int) < (nm.length : Int)) = false := decide_eq_false q
  have HL : Hid (nm.length ≤ 1000) := show _ ≤ _ by omega
  clear q
  have q3 : ¬ (k = 3 ∨ k = 4 ∨ k = 15) := by rw [HK.out]; exact HKD.out
  have a3 : (k == 3) = false := beq_eq_false_iff_ne.2 (fun h => q3 (.inl h))
  have a4 : (k == 4) = false := beq_eq_false_iff_ne.2 (fun h => q3 (.inr (.inl h)))
  have a15 : (k == 15) = false := beq_eq_false_iff_ne.2 (fun h => q3 (.inr (.inr h)))
  have b3 : (k != 3) = true := by rw [bne, a3]; rfl
  have b4 : (k != 4) = true := by rw [bne, a4]; rfl
  have b15 : (k != 15) = true := by rw [bne, a15]; rfl
  clear q3 HKD HK HT HF HX HY
  go_wp2_with fail
  go_ret
  exact ⟨rfl, HB5.out⟩
end Go.Proofs.Ytdaoekcabfapaaa
