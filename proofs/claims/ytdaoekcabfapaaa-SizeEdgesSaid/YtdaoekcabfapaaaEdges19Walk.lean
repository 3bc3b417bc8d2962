/-
  The law SizeEdges (chapter 19) at any tree; no condition.
-/
import Derived.Test.YtdaoekcabfapaaaAwake19
namespace Go.Proofs.Ytdaoekcabfapaaa
set_option maxRecDepth 100000
open Go.RowKit

theorem edge_small {o : OwnV} {l : List Kid} (hk : o.kind = 3) : 5 ≤ sizeT (.node o l) ∧ 1 ≤ depT (.node o l) := by
  rw [sizeT, depT]
  simp [sizeO, hk, kidsB]
theorem edge0 {o : OwnV} {l : List Kid} (hk : o.kind = 3) (hd : depT (.node o l) ≤ 200) (hs : sizeT (.node o l) ≤ 12000) : fitsN (.node o l) (depT (.node o l)) (sizeT (.node o l)) 0 = 0 := by
  have ⟨h1, h2⟩ := edge_small (o := o) (l := l) hk
  have hm : mayB (depT (.node o l)) (sizeT (.node o l)) 0 = true := decide_eq_true (by omega)
  unfold fitsN
  rw [hm, if_neg (by decide), if_neg (show ¬ (Tree.node o l).own.kind ≠ 3 from fun h => h hk), if_neg (by omega), if_neg (by omega)]
theorem edge1 {o : OwnV} {l : List Kid} (hk : o.kind = 3) (hd : depT (.node o l) ≤ 200) (hs : sizeT (.node o l) ≤ 12000) (h5 : ¬ (sizeT (.node o l) : Int) = 5) : fitsN (.node o l) (depT (.node o l)) ((sizeT (.node o l) : Int) - 1) 0 = 9 := by
  have ⟨h1, h2⟩ := edge_small (o := o) (l := l) hk
  have hm : mayB (depT (.node o l)) ((sizeT (.node o l) : Int) - 1) 0 = true := decide_eq_true (by omega)
  unfold fitsN
  rw [hm, if_neg (by decide), if_neg (show ¬ (Tree.node o l).own.kind ≠ 3 from fun h => h hk), if_neg (by omega), if_pos (by omega)]
theorem edge2 {o : OwnV} {l : List Kid} (hk : o.kind = 3) (hd : depT (.node o l) ≤ 200) (hs : sizeT (.node o l) ≤ 12000) (h5 : ¬ (depT (.node o l) : Int) = 1) : fitsN (.node o l) ((depT (.node o l) : Int) - 1) (sizeT (.node o l)) 0 = 8 := by
  have ⟨h1, h2⟩ := edge_small (o := o) (l := l) hk
  have hm : mayB ((depT (.node o l) : Int) - 1) (sizeT (.node o l)) 0 = true := decide_eq_true (by omega)
  unfold fitsN
  rw [hm, if_neg (by decide), if_neg (show ¬ (Tree.node o l).own.kind ≠ 3 from fun h => h hk), if_pos (by omega)]
set_option maxHeartbeats 16000000 in
theorem edges19 (t : Tree) (cs : List Value) (w : World) (hT : TreeAt w (· < w.heap.size) t cs) :
    Calls Try.prog 6 #[.agg cs.toArray] w fun e w' => e = .returned (.bool true) ∧ Below w.heap.size w w' := by
  obtain ⟨o, l⟩ := t
  obtain ⟨Ab, cb, Ak, ck, rfl, _, _, _, _⟩ := hT.open_
  have B2 : Below w.heap.size w (w.alloc (.cells #[.int .i64 o.kind, .int .u64 (o.bits : Int), .int .u64 (o.high : Int), .int .u64 (o.low : Int), .string ⟨o.text.toArray⟩, .string ⟨o.more.toArray⟩, .int .i64 o.sub, .slice Ab o.bytes.length cb, .slice Ak l.length ck] 26)) := (Below.refl _ _).alloc (Nat.le_refl _) _
  have g1 : (w.alloc (.cells #[.int .i64 o.kind, .int .u64 (o.bits : Int), .int .u64 (o.high : Int), .int .u64 (o.low : Int), .string ⟨o.text.toArray⟩, .string ⟨o.more.toArray⟩, .int .i64 o.sub, .slice Ab o.bytes.length cb, .slice Ak l.length ck] 26)).heap[w.heap.size]? = some (.cells #[.int .i64 o.kind, .int .u64 (o.bits : Int), .int .u64 (o.high : Int), .int .u64 (o.low : Int), .string ⟨o.text.toArray⟩, .string ⟨o.more.toArray⟩, .int .i64 o.sub, .slice Ab o.bytes.length cb, .slice Ak l.length ck] 26) := heap_alloc_new w _
  have cX := fun (V : World) (hV : Below w.heap.size w V) => small_any (.node o l) _ _ _ _ _ _ _ _ _ V (hT.up hV)
  have cB := fun (V : World) (hV : Below w.heap.size w V) (hs : smallB (.node o l) = true) => refSize_any (.node o l) _ V (Nat.le_trans (small_size hs) (by decide)) (hT.up hV)
  have cD := fun (V : World) (hV : Below w.heap.size w V) (hs : smallB (.node o l) = true) => refDepth_any (.node o l) _ V (Nat.le_trans (small_cnt hs) (by decide)) (hT.up hV)
  have cF := fun (V : World) (hV : Below w.heap.size w V) (hs : smallB (.node o l) = true) (a b c : Int) => fits_any (.node o l) _ a b c V (Nat.le_trans (small_cnt hs) (by decide)) (Nat.le_trans (small_size hs) (by decide)) (hT.up hV)
  have f0 := edge0 (o := o) (l := l)
  have f1 := edge1 (o := o) (l := l)
  have f2 := edge2 (o := o) (l := l)
  have fs := edge_small (o := o) (l := l)
  have hz := small_size (t := .node o l)
  have hc := fun h => Nat.le_trans (dep_cnt (.node o l)) (small_cnt (t := .node o l) h)
  unfold cellsV at *
  clear hT
  generalize fitsN (.node o l) = F at *
  generalize smallB (.node o l) = x at *
  generalize sizeT (.node o l) = n at *
  generalize depT (.node o l) = d at *
  have HB2 := Lib.hid B2
  have G1 := Lib.hid g1
  clear B2 g1
  have CX := Lib.hid cX
  have CB := Lib.hid cB
  have CD := Lib.hid cD
  have CF := Lib.hid cF
  clear cX cB cD cF
  generalize o.kind = k at *
  have H0 := Lib.hid f0
  have H1 := Lib.hid f1
  have H2 := Lib.hid f2
  have HS := Lib.hid fs
  have HZ := Lib.hid hz
  have HC := Lib.hid hc
  clear f0 f1 f2 fs hz hc
  go_enter Try.func6, Try.ntmps6
  go_wp2_with fail
  refine (awake_any _).mono ?_
  rintro e w3 ⟨rfl, B1⟩
  have HB3 := Lib.hid (HB2.out.trans (B1.mono HB2.out.size))
  have G3 := Lib.hid ((B1.block _ (block_lt G1.out)).trans G1.out)
  clear B1 HB2 G1
  have i0 : w3.cell? ⟨w.heap.size, 0, none⟩ = some (.int .i64 k) := by rw [block_cell G3.out]; rfl
  have i1 : w3.cell? ⟨w.heap.size, 1, none⟩ = some (.int .u64 (o.bits : Int)) := by rw [block_cell G3.out]; rfl
  have i2 : w3.cell? ⟨w.heap.size, 2, none⟩ = some (.int .u64 (o.high : Int)) := by rw [block_cell G3.out]; rfl
  have i3 : w3.cell? ⟨w.heap.size, 3, none⟩ = some (.int .u64 (o.low : Int)) := by rw [block_cell G3.out]; rfl
  have i4 : w3.cell? ⟨w.heap.size, 4, none⟩ = some (.string ⟨o.text.toArray⟩) := by rw [block_cell G3.out]; rfl
  have i5 : w3.cell? ⟨w.heap.size, 5, none⟩ = some (.string ⟨o.more.toArray⟩) := by rw [block_cell G3.out]; rfl
  have i6 : w3.cell? ⟨w.heap.size, 6, none⟩ = some (.int .i64 o.sub) := by rw [block_cell G3.out]; rfl
  have i7 : w3.cell? ⟨w.heap.size, 7, none⟩ = some (.slice Ab o.bytes.length cb) := by rw [block_cell G3.out]; rfl
  have i8 : w3.cell? ⟨w.heap.size, 8, none⟩ = some (.slice Ak l.length ck) := by rw [block_cell G3.out]; rfl
  go_wp2_with fail
  refine (CX.out _ HB3.out).mono ?_
  rintro e w4 ⟨rfl, B1⟩
  have HB4 := Lib.hid (HB3.out.trans (B1.mono HB3.out.size))
  have G4 := Lib.hid ((B1.block _ (block_lt G3.out)).trans G3.out)
  clear B1 CX HB3 G3 i0 i1 i2 i3 i4 i5 i6 i7 i8
  cases x with
  | false =>
    go_wp2_with fail
    go_ret
    exact ⟨rfl, HB4.out⟩
  | true =>
  by_cases hk : k = 3
  rotate_left 1
  · have e1 : (k == 3) = false := beq_eq_false_iff_ne.2 hk
    have e2 : (k != 3) = true := by rw [bne, e1]; rfl
    clear CB CD CF H0 H1 H2 HS HZ HC hk
    have i0 : w4.cell? ⟨w.heap.size, 0, none⟩ = some (.int .i64 k) := by rw [block_cell G4.out]; rfl
    have i1 : w4.cell? ⟨w.heap.size, 1, none⟩ = some (.int .u64 (o.bits : Int)) := by rw [block_cell G4.out]; rfl
    have i2 : w4.cell? ⟨w.heap.size, 2, none⟩ = some (.int .u64 (o.high : Int)) := by rw [block_cell G4.out]; rfl
    have i3 : w4.cell? ⟨w.heap.size, 3, none⟩ = some (.int .u64 (o.low : Int)) := by rw [block_cell G4.out]; rfl
    have i4 : w4.cell? ⟨w.heap.size, 4, none⟩ = some (.string ⟨o.text.toArray⟩) := by rw [block_cell G4.out]; rfl
    have i5 : w4.cell? ⟨w.heap.size, 5, none⟩ = some (.string ⟨o.more.toArray⟩) := by rw [block_cell G4.out]; rfl
    have i6 : w4.cell? ⟨w.heap.size, 6, none⟩ = some (.int .i64 o.sub) := by rw [block_cell G4.out]; rfl
    have i7 : w4.cell? ⟨w.heap.size, 7, none⟩ = some (.slice Ab o.bytes.length cb) := by rw [block_cell G4.out]; rfl
    have i8 : w4.cell? ⟨w.heap.size, 8, none⟩ = some (.slice Ak l.length ck) := by rw [block_cell G4.out]; rfl
    go_wp2_with fail
    go_ret
    exact ⟨rfl, HB4.out⟩
  subst hk
  have i0 : w4.cell? ⟨w.heap.size, 0, none⟩ = some (.int .i64 3) := by rw [block_cell G4.out]; rfl
  have i1 : w4.cell? ⟨w.heap.size, 1, none⟩ = some (.int .u64 (o.bits : Int)) := by rw [block_cell G4.out]; rfl
  have i2 : w4.cell? ⟨w.heap.size, 2, none⟩ = some (.int .u64 (o.high : Int)) := by rw [block_cell G4.out]; rfl
  have i3 : w4.cell? ⟨w.heap.size, 3, none⟩ = some (.int .u64 (o.low : Int)) := by rw [block_cell G4.out]; rfl
  have i4 : w4.cell? ⟨w.heap.size, 4, none⟩ = some (.string ⟨o.text.toArray⟩) := by rw [block_cell G4.out]; rfl
  have i5 : w4.cell? ⟨w.heap.size, 5, none⟩ = some (.string ⟨o.more.toArray⟩) := by rw [block_cell G4.out]; rfl
  have i6 : w4.cell? ⟨w.heap.size, 6, none⟩ = some (.int .i64 o.sub) := by rw [block_cell G4.out]; rfl
  have i7 : w4.cell? ⟨w.heap.size, 7, none⟩ = some (.slice Ab o.bytes.length cb) := by rw [block_cell G4.out]; rfl
  have i8 : w4.cell? ⟨w.heap.size, 8, none⟩ = some (.slice Ak l.length ck) := by rw [block_cell G4.out]; rfl
  go_wp2_with fail
  refine (CD.out _ HB4.out (by trivial)).mono ?_
  rintro e w5 ⟨rfl, B1⟩
  have HB5 := Lib.hid (HB4.out.trans (B1.mono HB4.out.size))
  have G5 := Lib.hid ((B1.block _ (block_lt G4.out)).trans G4.out)
  clear B1 HB4 G4 i0 i1 i2 i3 i4 i5 i6 i7 i8
  by_cases hd : (d : Int) > 200
  · have e1 : decide ((200 : Int) < (d : Int)) = true := decide_eq_true hd
    clear CB CD CF H0 H1 H2 HS HZ HC
    go_wp2_with fail
    go_ret
    exact ⟨rfl, HB5.out⟩
  have e1 : decide ((200 : Int) < (d : Int)) = false := decide_eq_false hd
  have HD : Hid (d ≤ 200) := show _ ≤ _ by omega
  clear hd
  have i0 : w5.cell? ⟨w.heap.size, 0, none⟩ = some (.int .i64 3) := by rw [block_cell G5.out]; rfl
  have i1 : w5.cell? ⟨w.heap.size, 1, none⟩ = some (.int .u64 (o.bits : Int)) := by rw [block_cell G5.out]; rfl
  have i2 : w5.cell? ⟨w.heap.size, 2, none⟩ = some (.int .u64 (o.high : Int)) := by rw [block_cell G5.out]; rfl
  have i3 : w5.cell? ⟨w.heap.size, 3, none⟩ = some (.int .u64 (o.low : Int)) := by rw [block_cell G5.out]; rfl
  have i4 : w5.cell? ⟨w.heap.size, 4, none⟩ = some (.string ⟨o.text.toArray⟩) := by rw [block_cell G5.out]; rfl
  have i5 : w5.cell? ⟨w.heap.size, 5, none⟩ = some (.string ⟨o.more.toArray⟩) := by rw [block_cell G5.out]; rfl
  have i6 : w5.cell? ⟨w.heap.size, 6, none⟩ = some (.int .i64 o.sub) := by rw [block_cell G5.out]; rfl
  have i7 : w5.cell? ⟨w.heap.size, 7, none⟩ = some (.slice Ab o.bytes.length cb) := by rw [block_cell G5.out]; rfl
  have i8 : w5.cell? ⟨w.heap.size, 8, none⟩ = some (.slice Ak l.length ck) := by rw [block_cell G5.out]; rfl
  have CB5 := fun dd os => Calls.regrown_of (CB.out (Sort.grow (redrawn w5 dd) os) (HB5.out.trans ((below_regrown w5 dd os).mono HB5.out.size)) (by trivial))
  have CD5 := fun dd os => Calls.regrown_of (CD.out (Sort.grow (redrawn w5 dd) os) (HB5.out.trans ((below_regrown w5 dd os).mono HB5.out.size)) (by trivial))
  have ri0 := cell_regrown i0
  have ri1 := cell_regrown i1
  have ri2 := cell_regrown i2
  have ri3 := cell_regrown i3
  have ri4 := cell_regrown i4
  have ri5 := cell_regrown i5
  have ri6 := cell_regrown i6
  have ri7 := cell_regrown i7
  have ri8 := cell_regrown i8
  clear i0 i1 i2 i3 i4 i5 i6 i7 i8 CB CD
  go_upto_region 5 with fail
  clear e1
  refine wp_region_quiet_below (by kernel_rfl) (by kernel_rfl) ?_
  repeat (go_big_quiet_step (first | with_reducible exact CB5 _ _ | with_reducible exact CD5 _ _))
  refine wpQuiet_nil ?_
  intro _ hw'
  obtain ⟨⟨dq, osq⟩, hw''⟩ := hw'
  subst hw''
  have HB6 := Lib.hid (HB5.out.trans ((below_regrown w5 dq osq).mono HB5.out.size))
  have G6 := Lib.hid (((below_regrown w5 dq osq).block _ (block_lt G5.out)).trans G5.out)
  clear CB5 CD5 ri0 ri1 ri2 ri3 ri4 ri5 ri6 ri7 ri8 HB5 G5
  generalize Sort.grow (redrawn w5 dq) osq = w6 at *
  have h0 := H0.out (by trivial) HD.out (HZ.out (by trivial))
  have i0 : w6.cell? ⟨w.heap.size, 0, none⟩ = some (.int .i64 3) := by rw [block_cell G6.out]; rfl
  have i1 : w6.cell? ⟨w.heap.size, 1, none⟩ = some (.int .u64 (o.bits : Int)) := by rw [block_cell G6.out]; rfl
  have i2 : w6.cell? ⟨w.heap.size, 2, none⟩ = some (.int .u64 (o.high : Int)) := by rw [block_cell G6.out]; rfl
  have i3 : w6.cell? ⟨w.heap.size, 3, none⟩ = some (.int .u64 (o.low : Int)) := by rw [block_cell G6.out]; rfl
  have i4 : w6.cell? ⟨w.heap.size, 4, none⟩ = some (.string ⟨o.text.toArray⟩) := by rw [block_cell G6.out]; rfl
  have i5 : w6.cell? ⟨w.heap.size, 5, none⟩ = some (.string ⟨o.more.toArray⟩) := by rw [block_cell G6.out]; rfl
  have i6 : w6.cell? ⟨w.heap.size, 6, none⟩ = some (.int .i64 o.sub) := by rw [block_cell G6.out]; rfl
  have i7 : w6.cell? ⟨w.heap.size, 7, none⟩ = some (.slice Ab o.bytes.length cb) := by rw [block_cell G6.out]; rfl
  have i8 : w6.cell? ⟨w.heap.size, 8, none⟩ = some (.slice Ak l.length ck) := by rw [block_cell G6.out]; rfl
  go_wp2_with fail
  refine (CF.out _ HB6.out (by trivial) _ _ _).mono ?_
  rintro e w7 ⟨rfl, B1⟩
  have HB7 := Lib.hid (HB6.out.trans (B1.mono HB6.out.size))
  have G7 := Lib.hid ((B1.block _ (block_lt G6.out)).trans G6.out)
  clear B1 HB6 G6 i0 i1 i2 i3 i4 i5 i6 i7 i8
  rw [h0]
  clear h0
  have h1 := fun h => H1.out (by trivial) HD.out (HZ.out (by trivial)) h
  have h2 := fun h => H2.out (by trivial) HD.out (HZ.out (by trivial)) h
  have wn : wrap64 ((n : Int) - 1) = (n : Int) - 1 := by
    have hz := HZ.out (by trivial)
    have hs := (HS.out (by trivial)).1
    exact (w9 (n := n - 1) (by omega) (by omega)).trans (by omega)
  have wd : wrap64 ((d : Int) - 1) = (d : Int) - 1 := by
    have hz := HD.out
    have hs := (HS.out (by trivial)).2
    exact (w9 (n := d - 1) (by omega) (by omega)).trans (by omega)
  have HN := Lib.hid h1
  have HM := Lib.hid h2
  clear h1 h2 H0 H1 H2 HS HZ HC HD
  have i0 : w7.cell? ⟨w.heap.size, 0, none⟩ = some (.int .i64 3) := by rw [block_cell G7.out]; rfl
  have i1 : w7.cell? ⟨w.heap.size, 1, none⟩ = some (.int .u64 (o.bits : Int)) := by rw [block_cell G7.out]; rfl
  have i2 : w7.cell? ⟨w.heap.size, 2, none⟩ = some (.int .u64 (o.high : Int)) := by rw [block_cell G7.out]; rfl
  have i3 : w7.cell? ⟨w.heap.size, 3, none⟩ = some (.int .u64 (o.low : Int)) := by rw [block_cell G7.out]; rfl
  have i4 : w7.cell? ⟨w.heap.size, 4, none⟩ = some (.string ⟨o.text.toArray⟩) := by rw [block_cell G7.out]; rfl
  have i5 : w7.cell? ⟨w.heap.size, 5, none⟩ = some (.string ⟨o.more.toArray⟩) := by rw [block_cell G7.out]; rfl
  have i6 : w7.cell? ⟨w.heap.size, 6, none⟩ = some (.int .i64 o.sub) := by rw [block_cell G7.out]; rfl
  have i7 : w7.cell? ⟨w.heap.size, 7, none⟩ = some (.slice Ab o.bytes.length cb) := by rw [block_cell G7.out]; rfl
  have i8 : w7.cell? ⟨w.heap.size, 8, none⟩ = some (.slice Ak l.length ck) := by rw [block_cell G7.out]; rfl
  by_cases q5 : (n : Int) = 5
  · have e5 : ((n : Int) == 5) = true := beq_iff_eq.2 q5
    clear q5 HN
    by_cases q1 : (d : Int) = 1
    · have e6 : ((d : Int) == 1) = true := beq_iff_eq.2 q1
      clear q1 HM
      go_wp2_with fail
      go_ret
      exact ⟨rfl, HB7.out⟩
    · have e6 : ((d : Int) == 1) = false := beq_eq_false_iff_ne.2 q1
      have h2 := HM.out q1
      clear q1 HM
      go_wp2_with fail
      refine (CF.out _ HB7.out (by trivial) _ _ _).mono ?_
      rintro e w8 ⟨rfl, B1⟩
      have HB8 := Lib.hid (HB7.out.trans (B1.mono HB7.out.size))
      clear B1 HB7 i0 i1 i2 i3 i4 i5 i6 i7 i8 CF
      rw [h2]
      clear h2
      go_wp2_with fail
      go_ret
      exact ⟨rfl, HB8.out⟩
  have e5 : ((n : Int) == 5) = false := beq_eq_false_iff_ne.2 q5
  have h1 := HN.out q5
  clear q5 HN
  go_wp2_with fail
  refine (CF.out _ HB7.out (by trivial) _ _ _).mono ?_
  rintro e w8 ⟨rfl, B1⟩
  have HB8 := Lib.hid (HB7.out.trans (B1.mono HB7.out.size))
  have G8 := Lib.hid ((B1.block _ (block_lt G7.out)).trans G7.out)
  clear B1 HB7 G7 i0 i1 i2 i3 i4 i5 i6 i7 i8
  rw [h1]
  clear h1
  have i0 : w8.cell? ⟨w.heap.size, 0, none⟩ = some (.int .i64 3) := by rw [block_cell G8.out]; rfl
  have i1 : w8.cell? ⟨w.heap.size, 1, none⟩ = some (.int .u64 (o.bits : Int)) := by rw [block_cell G8.out]; rfl
  have i2 : w8.cell? ⟨w.heap.size, 2, none⟩ = some (.int .u64 (o.high : Int)) := by rw [block_cell G8.out]; rfl
  have i3 : w8.cell? ⟨w.heap.size, 3, none⟩ = some (.int .u64 (o.low : Int)) := by rw [block_cell G8.out]; rfl
  have i4 : w8.cell? ⟨w.heap.size, 4, none⟩ = some (.string ⟨o.text.toArray⟩) := by rw [block_cell G8.out]; rfl
  have i5 : w8.cell? ⟨w.heap.size, 5, none⟩ = some (.string ⟨o.more.toArray⟩) := by rw [block_cell G8.out]; rfl
  have i6 : w8.cell? ⟨w.heap.size, 6, none⟩ = some (.int .i64 o.sub) := by rw [block_cell G8.out]; rfl
  have i7 : w8.cell? ⟨w.heap.size, 7, none⟩ = some (.slice Ab o.bytes.length cb) := by rw [block_cell G8.out]; rfl
  have i8 : w8.cell? ⟨w.heap.size, 8, none⟩ = some (.slice Ak l.length ck) := by rw [block_cell G8.out]; rfl
  by_cases q1 : (d : Int) = 1
  · have e6 : ((d : Int) == 1) = true := beq_iff_eq.2 q1
    clear q1 HM CF
    go_wp2_with fail
    go_ret
    exact ⟨rfl, HB8.out⟩
  · have e6 : ((d : Int) == 1) = false := beq_eq_false_iff_ne.2 q1
    have h2 := HM.out q1
    clear q1 HM
    go_wp2_with fail
    refine (CF.out _ HB8.out (by trivial) _ _ _).mono ?_
    rintro e w9 ⟨rfl, B1⟩
    have HB9 := Lib.hid (HB8.out.trans (B1.mono HB8.out.size))
    clear B1 HB8 i0 i1 i2 i3 i4 i5 i6 i7 i8 CF
    rw [h2]
    clear h2
    go_wp2_with fail
    go_ret
    exact ⟨rfl, HB9.out⟩
end Go.Proofs.Ytdaoekcabfapaaa
