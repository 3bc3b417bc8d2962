/-
  What the document's May and Fits do (chapter 19), for every limits, every tree; no condition but bounds.
-/
import Derived.Test.YtdaoekcabfapaaaRefSize19
import Derived.Test.YtdaoekcabfapaaaRefA17
namespace Go.Proofs.Ytdaoekcabfapaaa
set_option maxRecDepth 100000
open Go.RowKit

/-- May limits be? -/
def mayB (a b c : Int) : Bool := decide (1 ≤ a ∧ a ≤ 200 ∧ 5 ≤ b ∧ b ≤ 16777216 ∧ 0 ≤ c ∧ c ≤ 67108864)
/-- Is a tree within limits? -/
def fitsN (t : Tree) (a b c : Int) : Int :=
  if mayB a b c = false then 1 else if t.own.kind ≠ 3 then 5 else if a < (depT t : Int) then 8 else if b < (sizeT t : Int) then 9 else 0
set_option maxHeartbeats 4000000 in
theorem refMay_any (a b c : Int) (w : World) : Calls Try.prog 12 #[.agg #[.int .i64 a, .int .i64 b, .int .i64 c]] w fun e w' => e = .returned (.bool (mayB a b c)) ∧ Below w.heap.size w w' := by
  obtain ⟨r, hr⟩ : ∃ r, r = mayB a b c := ⟨_, rfl⟩
  rw [← hr]
  unfold mayB at hr
  have HB : Hid (Below w.heap.size w (w.alloc (.cells #[.int .i64 a, .int .i64 b, .int .i64 c] 31))) := show Below _ _ _ from (Below.refl _ _).alloc (Nat.le_refl _) _
  by_cases h0 : 1 ≤ a
  rotate_left 1
  · have d0 : decide (1 ≤ a) = false := decide_eq_false h0
    have HR : Hid (r = false) := show _ = _ by rw [hr]; exact decide_eq_false (fun h => h0 (by omega))
    clear hr
    go_enter Try.func12, Try.ntmps12
    go_wp2_with fail
    go_ret
    exact ⟨by rw [HR.out]; rfl, HB.out⟩
  have d0 : decide (1 ≤ a) = true := decide_eq_true h0
  by_cases h1 : a ≤ 200
  rotate_left 1
  · have d1 : decide (a ≤ 200) = false := decide_eq_false h1
    have HR : Hid (r = false) := show _ = _ by rw [hr]; exact decide_eq_false (fun h => h1 (by omega))
    clear hr
    go_enter Try.func12, Try.ntmps12
    go_wp2_with fail
    go_ret
    exact ⟨by rw [HR.out]; rfl, HB.out⟩
  have d1 : decide (a ≤ 200) = true := decide_eq_true h1
  by_cases h2 : 5 ≤ b
  rotate_left 1
  · have d2 : decide (5 ≤ b) = false := decide_eq_false h2
    have HR : Hid (r = false) := show _ = _ by rw [hr]; exact decide_eq_false (fun h => h2 (by omega))
    clear hr
    go_enter Try.func12, Try.ntmps12
    go_wp2_with fail
    go_ret
    exact ⟨by rw [HR.out]; rfl, HB.out⟩
  have d2 : decide (5 ≤ b) = true := decide_eq_true h2
  by_cases h3 : b ≤ 16777216
  rotate_left 1
  · have d3 : decide (b ≤ 16777216) = false := decide_eq_false h3
    have HR : Hid (r = false) := show _ = _ by rw [hr]; exact decide_eq_false (fun h => h3 (by omega))
    clear hr
    go_enter Try.func12, Try.ntmps12
    go_wp2_with fail
    go_ret
    exact ⟨by rw [HR.out]; rfl, HB.out⟩
  have d3 : decide (b ≤ 16777216) = true := decide_eq_true h3
  by_cases h4 : 0 ≤ c
  rotate_left 1
  · have d4 : decide (0 ≤ c) = false := decide_eq_false h4
    have HR : Hid (r = false) := show _ = _ by rw [hr]; exact decide_eq_false (fun h => h4 (by omega))
    clear hr
    go_enter Try.func12, Try.ntmps12
    go_wp2_with fail
    go_ret
    exact ⟨by rw [HR.out]; rfl, HB.out⟩
  have d4 : decide (0 ≤ c) = true := decide_eq_true h4
  by_cases h5 : c ≤ 67108864
  rotate_left 1
  · have d5 : decide (c ≤ 67108864) = false := decide_eq_false h5
    have HR : Hid (r = false) := show _ = _ by rw [hr]; exact decide_eq_false (fun h => h5 (by omega))
    clear hr
    go_enter Try.func12, Try.ntmps12
    go_wp2_with fail
    go_ret
    exact ⟨by rw [HR.out]; rfl, HB.out⟩
  have d5 : decide (c ≤ 67108864) = true := decide_eq_true h5
  have HR : Hid (r = true) := show _ = _ by rw [hr]; exact decide_eq_true (by omega)
  clear hr
  go_enter Try.func12, Try.ntmps12
  go_wp2_with fail
  go_ret
  exact ⟨by rw [HR.out]; rfl, HB.out⟩
set_option maxHeartbeats 8000000 in
theorem refFits_any (t : Tree) (cs : List Value) (a b c : Int) (w : World) (hc : cntT t ≤ 1000000) (hs : sizeT t ≤ 1000000000) (hT : TreeAt w (· < w.heap.size) t cs) :
    Calls Try.prog 14 #[.agg cs.toArray, .agg #[.int .i64 a, .int .i64 b, .int .i64 c]] w fun e w' => e = .returned (.int .i64 (fitsN t a b c)) ∧ Below w.heap.size w w' := by
  obtain ⟨o, l⟩ := t
  obtain ⟨Ab, cb, Ak, ck, rfl, _, _, _, _⟩ := hT.open_
  have B2 : Below w.heap.size w ((w.alloc (.cells #[.int .i64 o.kind, .int .u64 (o.bits : Int), .int .u64 (o.high : Int), .int .u64 (o.low : Int), .string ⟨o.text.toArray⟩, .string ⟨o.more.toArray⟩, .int .i64 o.sub, .slice Ab o.bytes.length cb, .slice Ak l.length ck] 26)).alloc (.cells #[.int .i64 a, .int .i64 b, .int .i64 c] 31)) := ((Below.refl _ _).alloc (Nat.le_refl _) _).alloc (by simp) _
  have g1 : ((w.alloc (.cells #[.int .i64 o.kind, .int .u64 (o.bits : Int), .int .u64 (o.high : Int), .int .u64 (o.low : Int), .string ⟨o.text.toArray⟩, .string ⟨o.more.toArray⟩, .int .i64 o.sub, .slice Ab o.bytes.length cb, .slice Ak l.length ck] 26)).alloc (.cells #[.int .i64 a, .int .i64 b, .int .i64 c] 31)).heap[w.heap.size + 1]? = some (.cells #[.int .i64 a, .int .i64 b, .int .i64 c] 31) := by
    have := heap_alloc_new (w.alloc (.cells #[.int .i64 o.kind, .int .u64 (o.bits : Int), .int .u64 (o.high : Int), .int .u64 (o.low : Int), .string ⟨o.text.toArray⟩, .string ⟨o.more.toArray⟩, .int .i64 o.sub, .slice Ab o.bytes.length cb, .slice Ak l.length ck] 26)) (.cells #[.int .i64 a, .int .i64 b, .int .i64 c] 31)
    simpa using this
  have g0 : ((w.alloc (.cells #[.int .i64 o.kind, .int .u64 (o.bits : Int), .int .u64 (o.high : Int), .int .u64 (o.low : Int), .string ⟨o.text.toArray⟩, .string ⟨o.more.toArray⟩, .int .i64 o.sub, .slice Ab o.bytes.length cb, .slice Ak l.length ck] 26)).alloc (.cells #[.int .i64 a, .int .i64 b, .int .i64 c] 31)).heap[w.heap.size]? = some (.cells #[.int .i64 o.kind, .int .u64 (o.bits : Int), .int .u64 (o.high : Int), .int .u64 (o.low : Int), .string ⟨o.text.toArray⟩, .string ⟨o.more.toArray⟩, .int .i64 o.sub, .slice Ab o.bytes.length cb, .slice Ak l.length ck] 26) := (Below.heap_alloc _ _ _ (by simp)).trans (heap_alloc_new w _)
  obtain ⟨r, hr⟩ : ∃ r, r = fitsN (.node o l) a b c := ⟨_, rfl⟩
  rw [← hr]
  unfold fitsN at hr
  have hr : r = if mayB a b c = false then 1 else if o.kind ≠ 3 then 5 else if a < (depT (.node o l) : Int) then 8 else if b < (sizeT (.node o l) : Int) then 9 else 0 := hr
  have up : ∀ V, Below w.heap.size w V → TreeAt V (· < V.heap.size) (.node o l) (cellsV o Ab cb Ak l.length ck) := fun V hV => TreeAt.weaken (fun z hz => Nat.lt_of_lt_of_le hz hV.size) _ _ (TreeAt.keep (fun z hz => hV.block z hz) _ _ hT)
  have cD := Lib.hid fun (V : World) (hV : Below w.heap.size w V) => refDepth_any (.node o l) _ V hc (up V hV)
  have cS := Lib.hid fun (V : World) (hV : Below w.heap.size w V) => refSize_any (.node o l) _ V hs (up V hV)
  have cM := Lib.hid (refMay_any a b c ((w.alloc (.cells #[.int .i64 o.kind, .int .u64 (o.bits : Int), .int .u64 (o.high : Int), .int .u64 (o.low : Int), .string ⟨o.text.toArray⟩, .string ⟨o.more.toArray⟩, .int .i64 o.sub, .slice Ab o.bytes.length cb, .slice Ak l.length ck] 26)).alloc (.cells #[.int .i64 a, .int .i64 b, .int .i64 c] 31)))
  generalize depT (.node o l) = dn at *
  generalize sizeT (.node o l) = sn at *
  generalize mayB a b c = mb at *
  have HR := Lib.hid hr
  have HB2 := Lib.hid B2
  have G0 := Lib.hid g0
  have G1 := Lib.hid g1
  clear hr hT hc hs up B2 g0 g1
  unfold cellsV at *
  go_enter Try.func14, Try.ntmps14
  go_upto_region 1 with fail
  generalize ((w.alloc (.cells #[.int .i64 o.kind, .int .u64 (o.bits : Int), .int .u64 (o.high : Int), .int .u64 (o.low : Int), .string ⟨o.text.toArray⟩, .string ⟨o.more.toArray⟩, .int .i64 o.sub, .slice Ab o.bytes.length cb, .slice Ak l.length ck] 26)).alloc (.cells #[.int .i64 a, .int .i64 b, .int .i64 c] 31)) = W at *
  have k0 : W.cell? ⟨w.heap.size + 1, 0, none⟩ = some (.int .i64 a) := by rw [block_cell G1.out]; rfl
  have k1 : W.cell? ⟨w.heap.size + 1, 1, none⟩ = some (.int .i64 b) := by rw [block_cell G1.out]; rfl
  have k2 : W.cell? ⟨w.heap.size + 1, 2, none⟩ = some (.int .i64 c) := by rw [block_cell G1.out]; rfl
  go_wp2_with fail
  refine (cM.out).mono ?_
  rintro e w1 ⟨rfl, B1⟩
  have HB1 := Lib.hid (HB2.out.trans (B1.mono HB2.out.size))
  have G01 := Lib.hid ((B1.block _ (block_lt G0.out)).trans G0.out)
  have G11 := Lib.hid ((B1.block _ (block_lt G1.out)).trans G1.out)
  clear B1 cM HB2 G0 G1 k0 k1 k2
  cases mb with
  | false =>
    have HE : Hid (r = 1) := show _ = _ by rw [HR.out]; rfl
    clear HR
    go_wp2_with fail
    go_ret
    exact ⟨by rw [HE.out]; rfl, HB1.out⟩
  | true =>
  have HR1 : Hid (r = if o.kind ≠ 3 then 5 else if a < (dn : Int) then 8 else if b < (sn : Int) then 9 else 0) := show _ = _ by rw [HR.out]; rfl
  clear HR
  have j0 : w1.cell? ⟨w.heap.size, 0, none⟩ = some (.int .i64 o.kind) := by rw [block_cell G01.out]; rfl
  have j1 : w1.cell? ⟨w.heap.size, 1, none⟩ = some (.int .u64 (o.bits : Int)) := by rw [block_cell G01.out]; rfl
  have j2 : w1.cell? ⟨w.heap.size, 2, none⟩ = some (.int .u64 (o.high : Int)) := by rw [block_cell G01.out]; rfl
  have j3 : w1.cell? ⟨w.heap.size, 3, none⟩ = some (.int .u64 (o.low : Int)) := by rw [block_cell G01.out]; rfl
  have j4 : w1.cell? ⟨w.heap.size, 4, none⟩ = some (.string ⟨o.text.toArray⟩) := by rw [block_cell G01.out]; rfl
  have j5 : w1.cell? ⟨w.heap.size, 5, none⟩ = some (.string ⟨o.more.toArray⟩) := by rw [block_cell G01.out]; rfl
  have j6 : w1.cell? ⟨w.heap.size, 6, none⟩ = some (.int .i64 o.sub) := by rw [block_cell G01.out]; rfl
  have j7 : w1.cell? ⟨w.heap.size, 7, none⟩ = some (.slice Ab o.bytes.length cb) := by rw [block_cell G01.out]; rfl
  have j8 : w1.cell? ⟨w.heap.size, 8, none⟩ = some (.slice Ak l.length ck) := by rw [block_cell G01.out]; rfl
  by_cases hk : o.kind = 3
  rotate_left 1
  · have e1 : (o.kind == 3) = false := beq_eq_false_iff_ne.2 hk
    have e2 : (o.kind != 3) = true := by rw [bne, e1]; rfl
    have HE : Hid (r = 5) := show _ = _ by rw [HR1.out, if_pos hk]
    clear HR1 hk
    go_wp2_with fail
    go_ret
    exact ⟨by rw [HE.out]; rfl, HB1.out⟩
  have e1 : (o.kind == 3) = true := beq_iff_eq.2 hk
  have e2 : (o.kind != 3) = false := by rw [bne, e1]; rfl
  have HR2 : Hid (r = if a < (dn : Int) then 8 else if b < (sn : Int) then 9 else 0) := show _ = _ by rw [HR1.out, if_neg (by simp [hk])]
  clear HR1 hk
  have cI := fun d os => Calls.regrown_of (cD.out (Sort.grow (redrawn w1 d) os) (HB1.out.trans ((below_regrown w1 d os).mono HB1.out.size)))
  have m0 : w1.cell? ⟨w.heap.size + 1, 0, none⟩ = some (.int .i64 a) := by rw [block_cell G11.out]; rfl
  have rm := cell_regrown m0
  have rj0 := cell_regrown j0
  have rj1 := cell_regrown j1
  have rj2 := cell_regrown j2
  have rj3 := cell_regrown j3
  have rj4 := cell_regrown j4
  have rj5 := cell_regrown j5
  have rj6 := cell_regrown j6
  have rj7 := cell_regrown j7
  have rj8 := cell_regrown j8
  obtain ⟨v, hv⟩ : ∃ v, v = decide (a < (dn : Int)) := ⟨_, rfl⟩
  have d1 := hv.symm
  have HV := Lib.hid hv
  clear hv
  go_upto_region 5 with fail
  clear e1 e2
  refine wp_region_quiet_below (by kernel_rfl) (by kernel_rfl) ?_
  repeat (go_big_quiet_step (first | with_reducible exact cI _ _))
  refine wpQuiet_nil ?_
  intro _ hw'
  obtain ⟨⟨dq, osq⟩, hw''⟩ := hw'
  subst hw''
  have BG := below_regrown w1 dq osq
  have HB3 := Lib.hid (HB1.out.trans (BG.mono HB1.out.size))
  have G03 := Lib.hid ((BG.block _ (block_lt G01.out)).trans G01.out)
  have G13 := Lib.hid ((BG.block _ (block_lt G11.out)).trans G11.out)
  clear BG cI rm m0 rj0 rj1 rj2 rj3 rj4 rj5 rj6 rj7 rj8 j0 j1 j2 j3 j4 j5 j6 j7 j8 HB1 G01 G11
  generalize Sort.grow (redrawn w1 dq) osq = w3 at *
  cases v with
  | true =>
    have HE : Hid (r = 8) := show _ = _ by rw [HR2.out, if_pos (of_decide_eq_true HV.out.symm)]
    clear HR2
    go_wp2_with fail
    go_ret
    exact ⟨by rw [HE.out]; rfl, HB3.out⟩
  | false =>
  have HR3 : Hid (r = if b < (sn : Int) then 9 else 0) := show _ = _ by rw [HR2.out, if_neg (of_decide_eq_false HV.out.symm)]
  clear HR2 HV d1
  have cI := fun d os => Calls.regrown_of (cS.out (Sort.grow (redrawn w3 d) os) (HB3.out.trans ((below_regrown w3 d os).mono HB3.out.size)))
  have m0 : w3.cell? ⟨w.heap.size + 1, 1, none⟩ = some (.int .i64 b) := by rw [block_cell G13.out]; rfl
  have rm := cell_regrown m0
  have j0 : w3.cell? ⟨w.heap.size, 0, none⟩ = some (.int .i64 o.kind) := by rw [block_cell G03.out]; rfl
  have j1 : w3.cell? ⟨w.heap.size, 1, none⟩ = some (.int .u64 (o.bits : Int)) := by rw [block_cell G03.out]; rfl
  have j2 : w3.cell? ⟨w.heap.size, 2, none⟩ = some (.int .u64 (o.high : Int)) := by rw [block_cell G03.out]; rfl
  have j3 : w3.cell? ⟨w.heap.size, 3, none⟩ = some (.int .u64 (o.low : Int)) := by rw [block_cell G03.out]; rfl
  have j4 : w3.cell? ⟨w.heap.size, 4, none⟩ = some (.string ⟨o.text.toArray⟩) := by rw [block_cell G03.out]; rfl
  have j5 : w3.cell? ⟨w.heap.size, 5, none⟩ = some (.string ⟨o.more.toArray⟩) := by rw [block_cell G03.out]; rfl
  have j6 : w3.cell? ⟨w.heap.size, 6, none⟩ = some (.int .i64 o.sub) := by rw [block_cell G03.out]; rfl
  have j7 : w3.cell? ⟨w.heap.size, 7, none⟩ = some (.slice Ab o.bytes.length cb) := by rw [block_cell G03.out]; rfl
  have j8 : w3.cell? ⟨w.heap.size, 8, none⟩ = some (.slice Ak l.length ck) := by rw [block_cell G03.out]; rfl
  have rj0 := cell_regrown j0
  have rj1 := cell_regrown j1
  have rj2 := cell_regrown j2
  have rj3 := cell_regrown j3
  have rj4 := cell_regrown j4
  have rj5 := cell_regrown j5
  have rj6 := cell_regrown j6
  have rj7 := cell_regrown j7
  have rj8 := cell_regrown j8
  obtain ⟨v, hv⟩ : ∃ v, v = decide (b < (sn : Int)) := ⟨_, rfl⟩
  have d1 := hv.symm
  have HV := Lib.hid hv
  clear hv
  go_upto_region 7 with fail
  refine wp_region_quiet_below (by kernel_rfl) (by kernel_rfl) ?_
  repeat (go_big_quiet_step (first | with_reducible exact cI _ _))
  refine wpQuiet_nil ?_
  intro _ hw'
  obtain ⟨⟨dq, osq⟩, hw''⟩ := hw'
  subst hw''
  have HB5 := Lib.hid (HB3.out.trans ((below_regrown w3 dq osq).mono HB3.out.size))
  clear cI rm m0 rj0 rj1 rj2 rj3 rj4 rj5 rj6 rj7 rj8 j0 j1 j2 j3 j4 j5 j6 j7 j8 HB3 G03 G13
  generalize Sort.grow (redrawn w3 dq) osq = w5 at *
  cases v with
  | true =>
    have HE : Hid (r = 9) := show _ = _ by rw [HR3.out, if_pos (of_decide_eq_true HV.out.symm)]
    clear HR3
    go_wp2_with fail
    go_ret
    exact ⟨by rw [HE.out]; rfl, HB5.out⟩
  | false =>
    have HE : Hid (r = 0) := show _ = _ by rw [HR3.out, if_neg (of_decide_eq_false HV.out.symm)]
    clear HR3
    go_wp2_with fail
    go_ret
    exact ⟨by rw [HE.out]; rfl, HB5.out⟩
end Go.Proofs.Ytdaoekcabfapaaa
