/-
  The law SizeAdds (chapter 19) at any Field and any tree of Kind 15; no condition but that its Name is not too long for a Name.
-/
import Derived.Test.YtdaoekcabfapaaaAwake19
import Derived.Test.YtdaoekcabfapaaaOwn19
import Derived.Test.YtdaoekcabfapaaaMore19
import Derived.Deep.RegionHeld3
import Derived.BigQuiet
namespace Go.Proofs.Ytdaoekcabfapaaa
set_option maxRecDepth 100000
open Go.RowKit

set_option maxHeartbeats 16000000 in
theorem adds19C (t : Tree) (cs : List Value) (nm : List UInt8) (tf : Tree) (f0 f1 f2 f3 f4 f5 f6 f7 f8 : Value) (w : World) (hkd : t.own.kind = 15) (hT : TreeAt w (· < w.heap.size) t cs) (hN : nm.length ≤ maxLen) (hF : TreeAt w (· < w.heap.size) tf [f0, f1, f2, f3, f4, f5, f6, f7, f8]) :
    Calls Try.prog 5 #[.agg cs.toArray, .agg #[.string ⟨nm.toArray⟩, f0, f1, f2, f3, f4, f5, f6, f7, f8]] w fun e w' => e = .returned (.bool true) ∧ Below w.heap.size w w' := by
  obtain ⟨o, l⟩ := t
  have HKD := Lib.hid hkd
  clear hkd
  simp only [Tree.own] at HKD
  obtain ⟨Ab, cb, Ak, ck, rfl, _, _, _, _⟩ := hT.open_
  have B2 : Below w.heap.size w ((w.alloc (.cells #[.int .i64 o.kind, .int .u64 (o.bits : Int), .int .u64 (o.high : Int), .int .u64 (o.low : Int), .string ⟨o.text.toArray⟩, .string ⟨o.more.toArray⟩, .int .i64 o.sub, .slice Ab o.bytes.length cb, .slice Ak l.length ck] 26)).alloc (.cells #[.string ⟨nm.toArray⟩, f0, f1, f2, f3, f4, f5, f6, f7, f8] 37)) := ((Below.refl _ _).alloc (Nat.le_refl _) _).alloc (by simp) _
  have g1 : ((w.alloc (.cells #[.int .i64 o.kind, .int .u64 (o.bits : Int), .int .u64 (o.high : Int), .int .u64 (o.low : Int), .string ⟨o.text.toArray⟩, .string ⟨o.more.toArray⟩, .int .i64 o.sub, .slice Ab o.bytes.length cb, .slice Ak l.length ck] 26)).alloc (.cells #[.string ⟨nm.toArray⟩, f0, f1, f2, f3, f4, f5, f6, f7, f8] 37)).heap[w.heap.size + 1]? = some (.cells #[.string ⟨nm.toArray⟩, f0, f1, f2, f3, f4, f5, f6, f7, f8] 37) := by
    have := heap_alloc_new (w.alloc (.cells #[.int .i64 o.kind, .int .u64 (o.bits : Int), .int .u64 (o.high : Int), .int .u64 (o.low : Int), .string ⟨o.text.toArray⟩, .string ⟨o.more.toArray⟩, .int .i64 o.sub, .slice Ab o.bytes.length cb, .slice Ak l.length ck] 26)) (.cells #[.string ⟨nm.toArray⟩, f0, f1, f2, f3, f4, f5, f6, f7, f8] 37)
    simpa using this
  have g0 : ((w.alloc (.cells #[.int .i64 o.kind, .int .u64 (o.bits : Int), .int .u64 (o.high : Int), .int .u64 (o.low : Int), .string ⟨o.text.toArray⟩, .string ⟨o.more.toArray⟩, .int .i64 o.sub, .slice Ab o.bytes.length cb, .slice Ak l.length ck] 26)).alloc (.cells #[.string ⟨nm.toArray⟩, f0, f1, f2, f3, f4, f5, f6, f7, f8] 37)).heap[w.heap.size]? = some (.cells #[.int .i64 o.kind, .int .u64 (o.bits : Int), .int .u64 (o.high : Int), .int .u64 (o.low : Int), .string ⟨o.text.toArray⟩, .string ⟨o.more.toArray⟩, .int .i64 o.sub, .slice Ab o.bytes.length cb, .slice Ak l.length ck] 26) := (Below.heap_alloc _ _ _ (by simp)).trans (heap_alloc_new w _)
  have CX := Lib.hid fun (V : World) (hV : Below w.heap.size w V) => small_any (.node o l) _ _ _ _ _ _ _ _ _ V (hT.up hV)
  have CY := Lib.hid fun (V : World) (hV : Below w.heap.size w V) => small_any tf _ _ _ _ _ _ _ _ _ V (hF.up hV)
  have HT := Lib.hid hT
  have HF := Lib.hid hF
  have HB2 := Lib.hid B2
  have G0 := Lib.hid g0
  have G1 := Lib.hid g1
  clear hT hF B2 g0 g1
  obtain ⟨x, hx⟩ : ∃ x, x = smallB (.node o l) := ⟨_, rfl⟩
  obtain ⟨y, hy⟩ : ∃ y, y = smallB tf := ⟨_, rfl⟩
  rw [← hx] at CX
  rw [← hy] at CY
  have HX := Lib.hid hx
  have HY := Lib.hid hy
  clear hx hy
  unfold cellsV
  obtain ⟨k, hk⟩ : ∃ k, k = o.kind := ⟨_, rfl⟩
  rw [← hk] at CX G0 G1 HB2 ⊢
  have HK := Lib.hid hk
  clear hk
  go_enter Try.func5, Try.ntmps5
  go_wp2_with fail
  refine (awake_any _).mono ?_
  rintro e w3 ⟨rfl, B1⟩
  have HB3 := Lib.hid (HB2.out.trans (B1.mono HB2.out.size))
  have G03 := Lib.hid ((B1.block _ (block_lt G0.out)).trans G0.out)
  have G13 := Lib.hid ((B1.block _ (block_lt G1.out)).trans G1.out)
  clear B1 HB2 G0 G1
  have i0 : w3.cell? ⟨w.heap.size, 0, none⟩ = some (.int .i64 k) := by rw [block_cell G03.out]; rfl
  have i1 : w3.cell? ⟨w.heap.size, 1, none⟩ = some (.int .u64 (o.bits : Int)) := by rw [block_cell G03.out]; rfl
  have i2 : w3.cell? ⟨w.heap.size, 2, none⟩ = some (.int .u64 (o.high : Int)) := by rw [block_cell G03.out]; rfl
  have i3 : w3.cell? ⟨w.heap.size, 3, none⟩ = some (.int .u64 (o.low : Int)) := by rw [block_cell G03.out]; rfl
  have i4 : w3.cell? ⟨w.heap.size, 4, none⟩ = some (.string ⟨o.text.toArray⟩) := by rw [block_cell G03.out]; rfl
  have i5 : w3.cell? ⟨w.heap.size, 5, none⟩ = some (.string ⟨o.more.toArray⟩) := by rw [block_cell G03.out]; rfl
  have i6 : w3.cell? ⟨w.heap.size, 6, none⟩ = some (.int .i64 o.sub) := by rw [block_cell G03.out]; rfl
  have i7 : w3.cell? ⟨w.heap.size, 7, none⟩ = some (.slice Ab o.bytes.length cb) := by rw [block_cell G03.out]; rfl
  have i8 : w3.cell? ⟨w.heap.size, 8, none⟩ = some (.slice Ak l.length ck) := by rw [block_cell G03.out]; rfl
  go_wp2_with fail
  refine (CX.out _ HB3.out).mono ?_
  rintro e w4 ⟨rfl, B1⟩
  have HB4 := Lib.hid (HB3.out.trans (B1.mono HB3.out.size))
  have G04 := Lib.hid ((B1.block _ (block_lt G03.out)).trans G03.out)
  have G14 := Lib.hid ((B1.block _ (block_lt G13.out)).trans G13.out)
  clear B1 CX HB3 G03 G13 i0 i1 i2 i3 i4 i5 i6 i7 i8
  cases x with
  | false =>
    go_wp2_with fail
    go_ret
    exact ⟨rfl, HB4.out⟩
  | true =>
  have m0 : w4.cell? ⟨w.heap.size + 1, 0, none⟩ = some (.string ⟨nm.toArray⟩) := by rw [block_cell G14.out]; rfl
  have m1 : w4.cell? ⟨w.heap.size + 1, 1, none⟩ = some (f0) := by rw [block_cell G14.out]; rfl
  have m2 : w4.cell? ⟨w.heap.size + 1, 2, none⟩ = some (f1) := by rw [block_cell G14.out]; rfl
  have m3 : w4.cell? ⟨w.heap.size + 1, 3, none⟩ = some (f2) := by rw [block_cell G14.out]; rfl
  have m4 : w4.cell? ⟨w.heap.size + 1, 4, none⟩ = some (f3) := by rw [block_cell G14.out]; rfl
  have m5 : w4.cell? ⟨w.heap.size + 1, 5, none⟩ = some (f4) := by rw [block_cell G14.out]; rfl
  have m6 : w4.cell? ⟨w.heap.size + 1, 6, none⟩ = some (f5) := by rw [block_cell G14.out]; rfl
  have m7 : w4.cell? ⟨w.heap.size + 1, 7, none⟩ = some (f6) := by rw [block_cell G14.out]; rfl
  have m8 : w4.cell? ⟨w.heap.size + 1, 8, none⟩ = some (f7) := by rw [block_cell G14.out]; rfl
  have m9 : w4.cell? ⟨w.heap.size + 1, 9, none⟩ = some (f8) := by rw [block_cell G14.out]; rfl
  go_wp2_with fail
  refine (CY.out _ HB4.out).mono ?_
  rintro e w5 ⟨rfl, B1⟩
  have HB5 := Lib.hid (HB4.out.trans (B1.mono HB4.out.size))
  have G05 := Lib.hid ((B1.block _ (block_lt G04.out)).trans G04.out)
  have G15 := Lib.hid ((B1.block _ (block_lt G14.out)).trans G14.out)
  clear B1 CY HB4 G04 G14 m0 m1 m2 m3 m4 m5 m6 m7 m8 m9
  cases y with
  | false =>
    go_wp2_with fail
    go_ret
    exact ⟨rfl, HB5.out⟩
  | true =>
  have i0 : w5.cell? ⟨w.heap.size, 0, none⟩ = some (.int .i64 k) := by rw [block_cell G05.out]; rfl
  have i1 : w5.cell? ⟨w.heap.size, 1, none⟩ = some (.int .u64 (o.bits : Int)) := by rw [block_cell G05.out]; rfl
  have i2 : w5.cell? ⟨w.heap.size, 2, none⟩ = some (.int .u64 (o.high : Int)) := by rw [block_cell G05.out]; rfl
  have i3 : w5.cell? ⟨w.heap.size, 3, none⟩ = some (.int .u64 (o.low : Int)) := by rw [block_cell G05.out]; rfl
  have i4 : w5.cell? ⟨w.heap.size, 4, none⟩ = some (.string ⟨o.text.toArray⟩) := by rw [block_cell G05.out]; rfl
  have i5 : w5.cell? ⟨w.heap.size, 5, none⟩ = some (.string ⟨o.more.toArray⟩) := by rw [block_cell G05.out]; rfl
  have i6 : w5.cell? ⟨w.heap.size, 6, none⟩ = some (.int .i64 o.sub) := by rw [block_cell G05.out]; rfl
  have i7 : w5.cell? ⟨w.heap.size, 7, none⟩ = some (.slice Ab o.bytes.length cb) := by rw [block_cell G05.out]; rfl
  have i8 : w5.cell? ⟨w.heap.size, 8, none⟩ = some (.slice Ak l.length ck) := by rw [block_cell G05.out]; rfl
  have m0 : w5.cell? ⟨w.heap.size + 1, 0, none⟩ = some (.string ⟨nm.toArray⟩) := by rw [block_cell G15.out]; rfl
  have m1 : w5.cell? ⟨w.heap.size + 1, 1, none⟩ = some (f0) := by rw [block_cell G15.out]; rfl
  have m2 : w5.cell? ⟨w.heap.size + 1, 2, none⟩ = some (f1) := by rw [block_cell G15.out]; rfl
  have m3 : w5.cell? ⟨w.heap.size + 1, 3, none⟩ = some (f2) := by rw [block_cell G15.out]; rfl
  have m4 : w5.cell? ⟨w.heap.size + 1, 4, none⟩ = some (f3) := by rw [block_cell G15.out]; rfl
  have m5 : w5.cell? ⟨w.heap.size + 1, 5, none⟩ = some (f4) := by rw [block_cell G15.out]; rfl
  have m6 : w5.cell? ⟨w.heap.size + 1, 6, none⟩ = some (f5) := by rw [block_cell G15.out]; rfl
  have m7 : w5.cell? ⟨w.heap.size + 1, 7, none⟩ = some (f6) := by rw [block_cell G15.out]; rfl
  have m8 : w5.cell? ⟨w.heap.size + 1, 8, none⟩ = some (f7) := by rw [block_cell G15.out]; rfl
  have m9 : w5.cell? ⟨w.heap.size + 1, 9, none⟩ = some (f8) := by rw [block_cell G15.out]; rfl
  by_cases q : (1000 : Int) < (nm.length : Int)
  · have e1 : decide ((1000 : Int) < (nm.length : Int)) = true := decide_eq_true q
    clear q
    go_wp2_with fail
    go_ret
    exact ⟨rfl, HB5.out⟩
  have e1 : decide ((1000 : Int) < (nm.length : Int)) = false := decide_eq_false q
  have HL : Hid (nm.length ≤ 1000) := show _ ≤ _ by omega
  clear q
  have q3 : k = 15 := HK.out.trans HKD.out
  have HQ : Hid (o.kind = 3 ∨ o.kind = 4 ∨ o.kind = 15) := .inr (.inr HKD.out)
  clear HKD
  subst q3
  go_upto_region 6 with fail
  clear e1 i0 i1 i2 i3 i4 i5 i6 i7 i8 m0 m1 m2 m3 m4 m5 m6 m7 m8 m9
  have B6 : Below w5.heap.size w5 (w5.alloc (.cells #[.int .i64 15, .int .u64 (o.bits : Int), .int .u64 (o.high : Int), .int .u64 (o.low : Int), .string ⟨o.text.toArray⟩, .string ⟨o.more.toArray⟩, .int .i64 o.sub, .slice Ab o.bytes.length cb, .slice Ak l.length ck] 26)) := (Below.refl _ _).alloc (Nat.le_refl _) _
  have GZ : Hid ((w5.alloc (.cells #[.int .i64 15, .int .u64 (o.bits : Int), .int .u64 (o.high : Int), .int .u64 (o.low : Int), .string ⟨o.text.toArray⟩, .string ⟨o.more.toArray⟩, .int .i64 o.sub, .slice Ab o.bytes.length cb, .slice Ak l.length ck] 26)).heap[w5.heap.size]? = some (.cells #[.int .i64 15, .int .u64 (o.bits : Int), .int .u64 (o.high : Int), .int .u64 (o.low : Int), .string ⟨o.text.toArray⟩, .string ⟨o.more.toArray⟩, .int .i64 o.sub, .slice Ab o.bytes.length cb, .slice Ak l.length ck] 26)) := heap_alloc_new w5 _
  have G06 := Lib.hid ((B6.block _ (block_lt G05.out)).trans G05.out)
  have G16 := Lib.hid ((B6.block _ (block_lt G15.out)).trans G15.out)
  have HB6 := Lib.hid (low17 HB5.out B6)
  have HZL : Hid (w.heap.size + 2 ≤ w5.heap.size) := show _ ≤ _ from block_lt G15.out
  clear B6 HB5 G05 G15
  generalize w5.heap.size = z at *
  generalize (w5.alloc (.cells #[.int .i64 15, .int .u64 (o.bits : Int), .int .u64 (o.high : Int), .int .u64 (o.low : Int), .string ⟨o.text.toArray⟩, .string ⟨o.more.toArray⟩, .int .i64 o.sub, .slice Ab o.bytes.length cb, .slice Ak l.length ck] 26)) = W at *
  have HZW : Hid (z < W.heap.size) := show _ < _ from block_lt GZ.out
  obtain ⟨b, off, xs, hAk, hK, hxl, hxc, hxo⟩ := kids_row HT.out
  have HKK := Lib.hid hK
  have HXL := Lib.hid hxl
  have HXC := Lib.hid hxc
  have HXO := Lib.hid hxo
  have HXP : Hid (∀ V : World, Below W.heap.size W V → 0 < l.length → ∃ ad, Ak = some ad ∧ ∀ j u, xs[j]? = some u → V.cell? (ad.add j) = some u) := fun V hV hl => by
    obtain ⟨e, hb⟩ := hAk (fun e => by rw [e] at hl; exact absurd hl (Nat.lt_irrefl _))
    refine ⟨_, e, fun j u hj => ?_⟩
    rw [Addr.add_lit]
    exact ((low17 HB6.out hV).cell (p := ⟨b, off + j, none⟩) hb).trans (hxc j u hj)
  have HLB : Hid (l.length ≤ 12000) := show _ ≤ _ by
    have h1 := small_size HX.out.symm
    rw [sizeT] at h1
    have h2 := len_size l
    have h3 := sizeO_kids (o := o) (sizeK l) HQ.out
    omega
  have HM1 : Hid (0 + l.length ≤ maxLen) := show _ ≤ _ by have := HLB.out; simp only [maxLen]; omega
  have HM2 : Hid ((0 + l.length) * 136 ≤ 140737488355328) := show _ ≤ _ by have := HLB.out; omega
  have HM4 : Hid (l.length + 1 ≤ maxLen) := show _ ≤ _ by have := HLB.out; simp only [maxLen]; omega
  have HM5 : Hid ((l.length + 1) * 136 ≤ 140737488355328) := show _ ≤ _ by have := HLB.out; omega
  have HFO : Hid (∀ u ∈ #[.string ⟨nm.toArray⟩, f0, f1, f2, f3, f4, f5, f6, f7, f8].toList, u.oneCell' = true) := fun u hu => by
    rcases List.mem_cons.1 hu with rfl | hu
    · rfl
    · exact tree_one HF.out u hu
  clear hAk hK hxl hxc hxo
  obtain ⟨i0, z0, hi0, hz0, hz1, hz2, hz3⟩ := field_parts
  have HZ0 := Lib.hid hz0; have HI0 := Lib.hid hi0; have HZ1 := Lib.hid hz1; have HZ2 := Lib.hid hz2; have HZ3 := Lib.hid hz3
  clear hi0 hz0 hz1 hz2 hz3
  have j8 : W.cell? ⟨w.heap.size, 8, none⟩ = some (.slice Ak l.length ck) := by rw [block_cell G06.out]; rfl
  have m0 : W.cell? ⟨w.heap.size + 1, 0, none⟩ = some (.string ⟨nm.toArray⟩) := by rw [block_cell G16.out]; rfl
  have m1 : W.cell? ⟨w.heap.size + 1, 1, none⟩ = some (f0) := by rw [block_cell G16.out]; rfl
  have m2 : W.cell? ⟨w.heap.size + 1, 2, none⟩ = some (f1) := by rw [block_cell G16.out]; rfl
  have m3 : W.cell? ⟨w.heap.size + 1, 3, none⟩ = some (f2) := by rw [block_cell G16.out]; rfl
  have m4 : W.cell? ⟨w.heap.size + 1, 4, none⟩ = some (f3) := by rw [block_cell G16.out]; rfl
  have m5 : W.cell? ⟨w.heap.size + 1, 5, none⟩ = some (f4) := by rw [block_cell G16.out]; rfl
  have m6 : W.cell? ⟨w.heap.size + 1, 6, none⟩ = some (f5) := by rw [block_cell G16.out]; rfl
  have m7 : W.cell? ⟨w.heap.size + 1, 7, none⟩ = some (f6) := by rw [block_cell G16.out]; rfl
  have m8 : W.cell? ⟨w.heap.size + 1, 8, none⟩ = some (f7) := by rw [block_cell G16.out]; rfl
  have m9 : W.cell? ⟨w.heap.size + 1, 9, none⟩ = some (f8) := by rw [block_cell G16.out]; rfl
  have hz0 : w.heap.size < z := by have := HZL.out; omega
  have hz1 : w.heap.size + 1 < z := by have := HZL.out; omega
  have HS : Hid (∀ V : World, Below z W V → (fun V : World => V.cell? ⟨w.heap.size, 8, none⟩ = some (.slice Ak l.length ck) ∧ V.cell? ⟨w.heap.size + 1, 0, none⟩ = some (.string ⟨nm.toArray⟩) ∧ V.cell? ⟨w.heap.size + 1, 1, none⟩ = some (f0) ∧ V.cell? ⟨w.heap.size + 1, 2, none⟩ = some (f1) ∧ V.cell? ⟨w.heap.size + 1, 3, none⟩ = some (f2) ∧ V.cell? ⟨w.heap.size + 1, 4, none⟩ = some (f3) ∧ V.cell? ⟨w.heap.size + 1, 5, none⟩ = some (f4) ∧ V.cell? ⟨w.heap.size + 1, 6, none⟩ = some (f5) ∧ V.cell? ⟨w.heap.size + 1, 7, none⟩ = some (f6) ∧ V.cell? ⟨w.heap.size + 1, 8, none⟩ = some (f7) ∧ V.cell? ⟨w.heap.size + 1, 9, none⟩ = some (f8)) V) := fun V hV => ⟨(hV.cell (p := ⟨w.heap.size, 8, none⟩) hz0).trans j8, (hV.cell (p := ⟨w.heap.size + 1, 0, none⟩) hz1).trans m0, (hV.cell (p := ⟨w.heap.size + 1, 1, none⟩) hz1).trans m1, (hV.cell (p := ⟨w.heap.size + 1, 2, none⟩) hz1).trans m2, (hV.cell (p := ⟨w.heap.size + 1, 3, none⟩) hz1).trans m3, (hV.cell (p := ⟨w.heap.size + 1, 4, none⟩) hz1).trans m4, (hV.cell (p := ⟨w.heap.size + 1, 5, none⟩) hz1).trans m5, (hV.cell (p := ⟨w.heap.size + 1, 6, none⟩) hz1).trans m6, (hV.cell (p := ⟨w.heap.size + 1, 7, none⟩) hz1).trans m7, (hV.cell (p := ⟨w.heap.size + 1, 8, none⟩) hz1).trans m8, (hV.cell (p := ⟨w.heap.size + 1, 9, none⟩) hz1).trans m9⟩
  clear hz0 hz1
  go_region_held3 (fun V : World => V.cell? ⟨w.heap.size, 8, none⟩ = some (.slice Ak l.length ck) ∧ V.cell? ⟨w.heap.size + 1, 0, none⟩ = some (.string ⟨nm.toArray⟩) ∧ V.cell? ⟨w.heap.size + 1, 1, none⟩ = some (f0) ∧ V.cell? ⟨w.heap.size + 1, 2, none⟩ = some (f1) ∧ V.cell? ⟨w.heap.size + 1, 3, none⟩ = some (f2) ∧ V.cell? ⟨w.heap.size + 1, 4, none⟩ = some (f3) ∧ V.cell? ⟨w.heap.size + 1, 5, none⟩ = some (f4) ∧ V.cell? ⟨w.heap.size + 1, 6, none⟩ = some (f5) ∧ V.cell? ⟨w.heap.size + 1, 7, none⟩ = some (f6) ∧ V.cell? ⟨w.heap.size + 1, 8, none⟩ = some (f7) ∧ V.cell? ⟨w.heap.size + 1, 9, none⟩ = some (f8))
    ((refine HS.out _ ?_; (repeat (first | with_reducible refine below_set ?_ _ _ | with_reducible refine below_drewz ?_)); exact below_z HZW.out (by (repeat (first | with_reducible exact Below.refl _ _ | with_reducible exact B42 | with_reducible exact B45 | with_reducible refine below_drew ?_ | with_reducible refine below_more ?_ _)))))
    (first | (refine step_append_rows rfl (.tmp 39) (.tmp 41) 24 rfl W.heap.size 37 i0 z0 10 136 Try.underlying24 HI0.out HZ0.out HZ1.out HZ2.out HZ3.out (by decide) (.slice (some ⟨_, 0, none⟩) 0 0) 0 [] rfl (by (repeat (first | with_reducible exact ho6.out | with_reducible refine own_drew ?_ | with_reducible exact own_lit 37 10 _ (by (repeat (first | with_reducible exact Below.refl _ _ | with_reducible exact B42 | with_reducible exact B45 | with_reducible refine below_drew ?_ | with_reducible refine below_more ?_ _))) (by simp) | with_reducible refine World.ownsRow.alloc ?_ _))) Ak l.length ck xs rfl HXL.out (HXP.out _ (by (repeat (first | with_reducible exact Below.refl _ _ | with_reducible exact B42 | with_reducible exact B45 | with_reducible refine below_drew ?_ | with_reducible refine below_more ?_ _)))) HXO.out HM1.out HM2.out (Below.size (by (repeat (first | with_reducible exact Below.refl _ _ | with_reducible exact B42 | with_reducible exact B45 | with_reducible refine below_drew ?_ | with_reducible refine below_more ?_ _)))) ?_; intro A6 c6 w6 ho6z hg6 hs6; have ho6 : Hid (w6.ownsRow W.heap.size 37 10 (.slice A6 l.length c6) l.length xs) := (show World.ownsRow _ _ _ _ _ _ _ from by have := ho6z.out; rwa [Nat.zero_add, List.nil_append] at this); clear ho6z; have B42 : Below W.heap.size W w6 := Below.grown (by (repeat (first | with_reducible exact Below.refl _ _ | with_reducible exact B42 | with_reducible exact B45 | with_reducible refine below_drew ?_ | with_reducible refine below_more ?_ _))) hg6 (Below.size (by (repeat (first | with_reducible exact Below.refl _ _ | with_reducible exact B42 | with_reducible exact B45 | with_reducible refine below_drew ?_ | with_reducible refine below_more ?_ _)))) (fun k hk => by simp [Value.ownBlock] at hk; omega)) | (refine step_append_rows rfl (.tmp 42) (.tmp 44) 24 rfl W.heap.size 37 i0 z0 10 136 Try.underlying24 HI0.out HZ0.out HZ1.out HZ2.out HZ3.out (by decide) (.slice A6 l.length c6) l.length xs (by first | rfl | exact congrArg (fun n => Value.slice A6 n c6) (Nat.zero_add l.length)) (by (repeat (first | with_reducible exact ho6.out | with_reducible refine own_drew ?_ | with_reducible exact own_lit 37 10 _ (by (repeat (first | with_reducible exact Below.refl _ _ | with_reducible exact B42 | with_reducible exact B45 | with_reducible refine below_drew ?_ | with_reducible refine below_more ?_ _))) (by simp) | with_reducible refine World.ownsRow.alloc ?_ _))) (some _) 1 _ #[.string ⟨nm.toArray⟩, f0, f1, f2, f3, f4, f5, f6, f7, f8].toList rfl rfl (row_old (by (repeat (first | with_reducible refine heap_drew ?_ | with_reducible exact heap_newk _ (by simp) | with_reducible refine heap_more _ ?_ | with_reducible refine heap_grown hg6 ?_ (by simp [Value.ownBlock]))))) HFO.out HM4.out HM5.out (Below.size (by (repeat (first | with_reducible exact Below.refl _ _ | with_reducible exact B42 | with_reducible exact B45 | with_reducible refine below_drew ?_ | with_reducible refine below_more ?_ _)))) ?_; intro A7 c7 w7 ho7 hg7 hs7; have B45 : Below W.heap.size W w7 := Below.grown (by (repeat (first | with_reducible exact Below.refl _ _ | with_reducible exact B42 | with_reducible exact B45 | with_reducible refine below_drew ?_ | with_reducible refine below_more ?_ _))) hg7 (Below.size (by (repeat (first | with_reducible exact Below.refl _ _ | with_reducible exact B42 | with_reducible exact B45 | with_reducible refine below_drew ?_ | with_reducible refine below_more ?_ _)))) (fun k hk => (ho6.out.lt k hk).1); have z8 : w7.cell? ⟨z, 8, none⟩ = some (.slice Ak l.length ck) := cell_low B45 (by rw [block_cell GZ.out]; rfl); have zf : w7.frozen? ⟨z, 8, none⟩ = false := frozen_low B45 HZW.out (block_frozen GZ.out 8)))
  all_goals
    clear hg6 hs6 ho6 B42 hg7 hs7 z8 zf j8 m0 m1 m2 m3 m4 m5 m6 m7 m8 m9 HS HXP HXO HM1 HM2 HM5 HFO
    obtain ⟨g, rfl, hbg, hlg, _, _, _, hc7⟩ := own_rows ho7.out (Nat.succ_pos _)
    have hzw := HZW.out
    have hzl := HZL.out
    have hzg : ¬ z = g := by omega
    have Z7 : w7.heap[z]? = some (.cells #[.int .i64 15, .int .u64 (o.bits : Int), .int .u64 (o.high : Int), .int .u64 (o.low : Int), .string ⟨o.text.toArray⟩, .string ⟨o.more.toArray⟩, .int .i64 o.sub, .slice Ab o.bytes.length cb, .slice Ak l.length ck] 26) := (B45.block z hzw).trans GZ.out
    have HB8 : Hid (Below w.heap.size w (w7.setCell ⟨z, 8, none⟩ (.slice (some ⟨g, 0, none⟩) (l.length + 1) c7))) := show Below _ _ _ from (low17 HB6.out B45).setCell (p := ⟨z, 8, none⟩) (show w.heap.size ≤ z by omega) _
    have GZ8 : Hid ((w7.setCell ⟨z, 8, none⟩ (.slice (some ⟨g, 0, none⟩) (l.length + 1) c7)).heap[z]? = some (.cells #[.int .i64 15, .int .u64 (o.bits : Int), .int .u64 (o.high : Int), .int .u64 (o.low : Int), .string ⟨o.text.toArray⟩, .string ⟨o.more.toArray⟩, .int .i64 o.sub, .slice Ab o.bytes.length cb, .slice (some ⟨g, 0, none⟩) (l.length + 1) c7] 26)) := show _ = _ by rw [heap_setCell_same _ _ _ _ _ _ Z7]; rfl
    have GV8 : Hid ((w7.setCell ⟨z, 8, none⟩ (.slice (some ⟨g, 0, none⟩) (l.length + 1) c7)).heap[w.heap.size]? = some (.cells #[.int .i64 15, .int .u64 (o.bits : Int), .int .u64 (o.high : Int), .int .u64 (o.low : Int), .string ⟨o.text.toArray⟩, .string ⟨o.more.toArray⟩, .int .i64 o.sub, .slice Ab o.bytes.length cb, .slice Ak l.length ck] 26)) := block_oth ((B45.block _ (block_lt G06.out)).trans G06.out) (by omega) 8 _
    have GF8 : Hid ((w7.setCell ⟨z, 8, none⟩ (.slice (some ⟨g, 0, none⟩) (l.length + 1) c7)).heap[w.heap.size + 1]? = some (.cells #[.string ⟨nm.toArray⟩, f0, f1, f2, f3, f4, f5, f6, f7, f8] 37)) := block_oth ((B45.block _ (block_lt G16.out)).trans G16.out) (by omega) 8 _
    have HC8 : Hid (∀ j u, (xs ++ #[.string ⟨nm.toArray⟩, f0, f1, f2, f3, f4, f5, f6, f7, f8].toList)[j]? = some u → (w7.setCell ⟨z, 8, none⟩ (.slice (some ⟨g, 0, none⟩) (l.length + 1) c7)).cell? ⟨g, j, none⟩ = some u) := fun j u h => cell_oth hzg (hc7 j u h)
    have HG8 : Hid (g < (w7.setCell ⟨z, 8, none⟩ (.slice (some ⟨g, 0, none⟩) (l.length + 1) c7)).heap.size) := show _ < _ by simpa [World.setCell] using hlg
    clear hbg hlg hc7 hzw hzl hzg Z7 ho7 B45 G06 G16 GZ HB6 HZW HZL
    generalize (w7.setCell ⟨z, 8, none⟩ (.slice (some ⟨g, 0, none⟩) (l.length + 1) c7)) = w8 at *
    have TV := HT.out.up HB8.out
    have TF := HF.out.up HB8.out
    have TN : TreeAt w8 (· < w8.heap.size) (.node o (l ++ [(nm, tf)])) (cellsV o Ab cb (some ⟨g, 0, none⟩) (l.length + 1) c7) := by
      obtain ⟨Ab', cb', Ak', ck', e, hf, _, hb, _⟩ := TV.open_
      simp only [cellsV, List.cons.injEq, Value.slice.injEq, and_true, true_and] at e
      obtain ⟨⟨rfl, rfl⟩, _, _⟩ := e
      rw [TreeAt]
      have hll : (l ++ [(nm, tf)]).length = l.length + 1 := by rw [List.length_append]; rfl
      exact ⟨Ab, cb, some ⟨g, 0, none⟩, c7, by rw [hll], hf, by rw [hll]; exact HM4.out, hb, fun _ => ⟨g, 0, rfl, HG8.out, kids_more HKK.out HXL.out HXC.out hN rfl TF HC8.out (fun k hk => HB8.out.block k hk) (fun k hk => Nat.lt_of_lt_of_le hk HB8.out.size)⟩⟩
    have hsn := size_more (l := l) nm tf HQ.out
    have hs1 := small_size HX.out.symm
    have hs2 := small_size HY.out.symm
    have hs3 := HL.out
    have cV := fun d os => Calls.regrown_of (of_any (.node o l) _ (Sort.grow (redrawn w8 d) os) (by omega) (TV.up (below_regrown w8 d os)))
    have cF := fun d os => Calls.regrown_of (of_any tf _ (Sort.grow (redrawn w8 d) os) (by omega) (TF.up (below_regrown w8 d os)))
    have cN := fun d os => Calls.regrown_of (of_any (.node o (l ++ [(nm, tf)])) _ (Sort.grow (redrawn w8 d) os) (by omega) (TN.up (below_regrown w8 d os)))
    simp only [cellsV] at cV cN
    rw [← HK.out] at cV cN
    generalize sizeT (.node o l) = sV at *
    generalize sizeT tf = sF at *
    generalize sizeT (.node o (l ++ [(nm, tf)])) = R at *
    have b1 : sV + nm.length ≤ 4000000000 := by omega
    have b2 : sV + nm.length + 2 ≤ 4000000000 := by omega
    have b3 : R ≤ 4000000000 := by omega
    have q1 : (sV : Int) + (nm.length : Int) = ((sV + nm.length : Nat) : Int) := by omega
    have q2 : ((sV + nm.length : Nat) : Int) + 2 = ((sV + nm.length + 2 : Nat) : Int) := by omega
    have q3 : ((sV + nm.length + 2 : Nat) : Int) + (sF : Int) = (R : Int) := by omega
    have x1 : IntKind.i64.wrap ((sV : Int) + (nm.length : Int)) = ((sV + nm.length : Nat) : Int) := i9 q1 b1
    have x2 : IntKind.i64.wrap (((sV + nm.length : Nat) : Int) + 2) = ((sV + nm.length + 2 : Nat) : Int) := i9 q2 b2
    have x3 : IntKind.i64.wrap (((sV + nm.length + 2 : Nat) : Int) + (sF : Int)) = (R : Int) := i9 q3 b3
    have y1 : wrap64 ((sV : Int) + (nm.length : Int)) = ((sV + nm.length : Nat) : Int) := w9 q1 b1
    have y2 : wrap64 (((sV + nm.length : Nat) : Int) + 2) = ((sV + nm.length + 2 : Nat) : Int) := w9 q2 b2
    have y3 : wrap64 (((sV + nm.length + 2 : Nat) : Int) + (sF : Int)) = (R : Int) := w9 q3 b3
    clear b1 b2 b3 q1 q2 q3 hsn hs1 hs2 hs3 TV TF TN
    obtain ⟨n2, hn2⟩ : ∃ n2, n2 = sV + nm.length + 2 := ⟨_, rfl⟩
    rw [← hn2] at x2 x3 y2 y3
    obtain ⟨n1, hn1⟩ : ∃ n1, n1 = sV + nm.length := ⟨_, rfl⟩
    rw [← hn1] at x1 x2 y1 y2
    clear hn1 hn2
    have jn0 : w8.cell? ⟨z, 0, none⟩ = some (.int .i64 15) := by rw [block_cell GZ8.out]; rfl
    have rjn0 := cell_regrown jn0
    have jn1 : w8.cell? ⟨z, 1, none⟩ = some (.int .u64 (o.bits : Int)) := by rw [block_cell GZ8.out]; rfl
    have rjn1 := cell_regrown jn1
    have jn2 : w8.cell? ⟨z, 2, none⟩ = some (.int .u64 (o.high : Int)) := by rw [block_cell GZ8.out]; rfl
    have rjn2 := cell_regrown jn2
    have jn3 : w8.cell? ⟨z, 3, none⟩ = some (.int .u64 (o.low : Int)) := by rw [block_cell GZ8.out]; rfl
    have rjn3 := cell_regrown jn3
    have jn4 : w8.cell? ⟨z, 4, none⟩ = some (.string ⟨o.text.toArray⟩) := by rw [block_cell GZ8.out]; rfl
    have rjn4 := cell_regrown jn4
    have jn5 : w8.cell? ⟨z, 5, none⟩ = some (.string ⟨o.more.toArray⟩) := by rw [block_cell GZ8.out]; rfl
    have rjn5 := cell_regrown jn5
    have jn6 : w8.cell? ⟨z, 6, none⟩ = some (.int .i64 o.sub) := by rw [block_cell GZ8.out]; rfl
    have rjn6 := cell_regrown jn6
    have jn7 : w8.cell? ⟨z, 7, none⟩ = some (.slice Ab o.bytes.length cb) := by rw [block_cell GZ8.out]; rfl
    have rjn7 := cell_regrown jn7
    have jn8 : w8.cell? ⟨z, 8, none⟩ = some (.slice (some ⟨g, 0, none⟩) (l.length + 1) c7) := by rw [block_cell GZ8.out]; rfl
    have rjn8 := cell_regrown jn8
    have jv0 : w8.cell? ⟨w.heap.size, 0, none⟩ = some (.int .i64 15) := by rw [block_cell GV8.out]; rfl
    have rjv0 := cell_regrown jv0
    have jv1 : w8.cell? ⟨w.heap.size, 1, none⟩ = some (.int .u64 (o.bits : Int)) := by rw [block_cell GV8.out]; rfl
    have rjv1 := cell_regrown jv1
    have jv2 : w8.cell? ⟨w.heap.size, 2, none⟩ = some (.int .u64 (o.high : Int)) := by rw [block_cell GV8.out]; rfl
    have rjv2 := cell_regrown jv2
    have jv3 : w8.cell? ⟨w.heap.size, 3, none⟩ = some (.int .u64 (o.low : Int)) := by rw [block_cell GV8.out]; rfl
    have rjv3 := cell_regrown jv3
    have jv4 : w8.cell? ⟨w.heap.size, 4, none⟩ = some (.string ⟨o.text.toArray⟩) := by rw [block_cell GV8.out]; rfl
    have rjv4 := cell_regrown jv4
    have jv5 : w8.cell? ⟨w.heap.size, 5, none⟩ = some (.string ⟨o.more.toArray⟩) := by rw [block_cell GV8.out]; rfl
    have rjv5 := cell_regrown jv5
    have jv6 : w8.cell? ⟨w.heap.size, 6, none⟩ = some (.int .i64 o.sub) := by rw [block_cell GV8.out]; rfl
    have rjv6 := cell_regrown jv6
    have jv7 : w8.cell? ⟨w.heap.size, 7, none⟩ = some (.slice Ab o.bytes.length cb) := by rw [block_cell GV8.out]; rfl
    have rjv7 := cell_regrown jv7
    have jv8 : w8.cell? ⟨w.heap.size, 8, none⟩ = some (.slice Ak l.length ck) := by rw [block_cell GV8.out]; rfl
    have rjv8 := cell_regrown jv8
    have jf0 : w8.cell? ⟨w.heap.size + 1, 0, none⟩ = some (.string ⟨nm.toArray⟩) := by rw [block_cell GF8.out]; rfl
    have rjf0 := cell_regrown jf0
    have jf1 : w8.cell? ⟨w.heap.size + 1, 1, none⟩ = some (f0) := by rw [block_cell GF8.out]; rfl
    have rjf1 := cell_regrown jf1
    have jf2 : w8.cell? ⟨w.heap.size + 1, 2, none⟩ = some (f1) := by rw [block_cell GF8.out]; rfl
    have rjf2 := cell_regrown jf2
    have jf3 : w8.cell? ⟨w.heap.size + 1, 3, none⟩ = some (f2) := by rw [block_cell GF8.out]; rfl
    have rjf3 := cell_regrown jf3
    have jf4 : w8.cell? ⟨w.heap.size + 1, 4, none⟩ = some (f3) := by rw [block_cell GF8.out]; rfl
    have rjf4 := cell_regrown jf4
    have jf5 : w8.cell? ⟨w.heap.size + 1, 5, none⟩ = some (f4) := by rw [block_cell GF8.out]; rfl
    have rjf5 := cell_regrown jf5
    have jf6 : w8.cell? ⟨w.heap.size + 1, 6, none⟩ = some (f5) := by rw [block_cell GF8.out]; rfl
    have rjf6 := cell_regrown jf6
    have jf7 : w8.cell? ⟨w.heap.size + 1, 7, none⟩ = some (f6) := by rw [block_cell GF8.out]; rfl
    have rjf7 := cell_regrown jf7
    have jf8 : w8.cell? ⟨w.heap.size + 1, 8, none⟩ = some (f7) := by rw [block_cell GF8.out]; rfl
    have rjf8 := cell_regrown jf8
    have jf9 : w8.cell? ⟨w.heap.size + 1, 9, none⟩ = some (f8) := by rw [block_cell GF8.out]; rfl
    have rjf9 := cell_regrown jf9
    clear HT HF HX HY HL HQ HKK HXL HXC HLB HM4 HC8 HG8 GZ8 GV8 GF8 HK
    go_upto_region 7 with fail
    refine wp_region_quiet_below (by kernel_rfl) (by kernel_rfl) ?_
    repeat (go_big_quiet_step (first | with_reducible exact cN _ _ | with_reducible exact cV _ _ | with_reducible exact cF _ _))
    refine wpQuiet_nil ?_
    intro _ hw'
    obtain ⟨⟨dq, osq⟩, hw''⟩ := hw'
    subst hw''
    have HB9 := Lib.hid (HB8.out.trans ((below_regrown w8 dq osq).mono HB8.out.size))
    clear cN cV cF HB8 jn0 jn1 jn2 jn3 jn4 jn5 jn6 jn7 jn8 rjn0 rjn1 rjn2 rjn3 rjn4 rjn5 rjn6 rjn7 rjn8 jv0 jv1 jv2 jv3 jv4 jv5 jv6 jv7 jv8 rjv0 rjv1 rjv2 rjv3 rjv4 rjv5 rjv6 rjv7 rjv8 jf0 jf1 jf2 jf3 jf4 jf5 jf6 jf7 jf8 jf9 rjf0 rjf1 rjf2 rjf3 rjf4 rjf5 rjf6 rjf7 rjf8 rjf9 x1 x2 x3 y1 y2 y3
    generalize Sort.grow (redrawn w8 dq) osq = w9 at *
    go_wp2_with fail
    go_ret
    exact ⟨by first | rfl | simp, HB9.out⟩
end Go.Proofs.Ytdaoekcabfapaaa
