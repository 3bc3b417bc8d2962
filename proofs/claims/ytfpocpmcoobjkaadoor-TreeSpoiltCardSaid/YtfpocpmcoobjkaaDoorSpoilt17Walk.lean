/-
  The law TreeSpoilt (chapter 17) at any tree and any number; no condition but that the words are laid.
-/
import Derived.Test.YtfpocpmcoobjkaaDoorWith17
import Derived.Test.YtfpocpmcoobjkaaDoorChecks17Walk
namespace Go.Proofs.YtfpocpmcoobjkaaDoor
set_option maxRecDepth 100000
open Go.RowKit

/-- A value that has a Kind and Bits alone. -/
def plainO (k : Int) (n : Nat) : OwnV := ⟨k, n, 0, 0, [], [], 0, []⟩
theorem tree_plain (k : Int) (n : Nat) (h0 : -9223372036854775808 ≤ k) (h1 : k ≤ 9223372036854775807) (h2 : n < 18446744073709551616) (w : World) (M : Nat → Prop) : TreeAt w M (.node (plainO k n) []) (cellsV (plainO k n) none 0 none 0 0) := by
  rw [TreeAt]
  exact ⟨none, 0, none, 0, rfl, ⟨h0, h1, h2, show (0 : Nat) < 18446744073709551616 by decide, show (0 : Nat) < 18446744073709551616 by decide, by show (-9223372036854775808 : Int) ≤ 0; decide, by show (0 : Int) ≤ 9223372036854775807; decide, Nat.zero_le _, Nat.zero_le _, Nat.zero_le _⟩, Nat.zero_le _, Held.nothing rfl, fun h => absurd rfl h⟩
theorem e300 : ownE (plainO 300 0) 0 = 5 := by decide +kernel
theorem e82 : ownE (plainO 8 2) 0 = 1 := by decide +kernel
theorem e81 : ownE (plainO 8 1) 0 = 0 := by decide +kernel
theorem cntK_set : ∀ (l : List Kid) (i : Nat) (x : Kid), cntK (l.set i x) ≤ cntK l + cntT x.2
  | [], _, _ => by simp [cntK]
  | (n, t) :: l, 0, (m, u) => by rw [List.set_cons_zero, cntK, cntK]; show _ ≤ _ + cntT u; omega
  | (n, t) :: l, i + 1, x => by
    have := cntK_set l i x
    rw [List.set_cons_succ, cntK, cntK]; omega
theorem cntK_set2 : ∀ (l : List Kid) (i : Nat) (h : i < l.length) (x : Kid) (d : Nat), cntT x.2 ≤ cntT (l[i]).2 + d → cntK (l.set i x) ≤ cntK l + d
  | (n, t) :: l, 0, _, (m, u), d, hd => by
    have hd : cntT u ≤ cntT t + d := hd
    rw [List.set_cons_zero, cntK, cntK]; omega
  | (n, t) :: l, i + 1, h, x, d, hd => by
    have := cntK_set2 l i (Nat.lt_of_succ_lt_succ h) x d hd
    rw [List.set_cons_succ, cntK, cntK]; omega
theorem cnt_with (u : Tree) : ∀ (q : List Nat) (t : Tree), cntT (withT t q u) ≤ cntT t + cntT u
  | [], t => by
    cases t
    rw [withT]; omega
  | i :: q, .node o l => by
    rw [withT, cntT, cntT]
    split
    · rename_i h
      have := cntK_set2 l i h ((l[i]).1, withT (l[i]).2 q u) (cntT u) (cnt_with u q _)
      omega
    · omega
theorem fewK_set : ∀ (l : List Kid) (i : Nat) (x : Kid), fewK l → x.1.length ≤ 100000000 → fewT x.2 → fewK (l.set i x)
  | [], _, _, h, _, _ => h
  | (n, t) :: l, 0, (m, u), h, h1, h2 => by
    rw [List.set_cons_zero]; rw [fewK] at h ⊢; exact ⟨h1, h2, h.2.2⟩
  | (n, t) :: l, i + 1, x, h, h1, h2 => by
    rw [List.set_cons_succ]; rw [fewK] at h ⊢; exact ⟨h.1, h.2.1, fewK_set l i x h.2.2 h1 h2⟩
theorem few_with (u : Tree) (hu : fewT u) : ∀ (q : List Nat) (t : Tree), fewT t → fewT (withT t q u)
  | [], t, _ => by cases t; rw [withT]; exact hu
  | i :: q, .node o l, h => by
    rw [withT]
    rw [fewT] at h ⊢
    refine ⟨h.1, h.2.1, ?_⟩
    split
    · rename_i hi
      have hk := fewK_get h.2.2 hi
      exact fewK_set l i _ h.2.2 hk.1 (few_with u hu q _ hk.2)
    · exact h.2.2
theorem few_plain (k : Int) (n : Nat) : fewT (.node (plainO k n) []) := by
  rw [fewT]
  exact ⟨Nat.zero_le _, Nat.zero_le _, by rw [fewK]; trivial⟩
theorem RowsI.get {w : World} {M : Nat → Prop} : ∀ {xs : List Value} {ls : List (List Int)}, RowsI w M xs ls → ∀ (j : Nat) (h : j < ls.length), ∃ A n c, xs[j]? = some (.slice A n c) ∧ n ≤ c ∧ Ints w M A n ls[j]
  | [], [], _, j, h => absurd h (Nat.not_lt_zero _)
  | _ :: _, _ :: _, ⟨⟨A, n, c, e, hnc, hi⟩, _⟩, 0, _ => ⟨A, n, c, by rw [e]; rfl, hnc, hi⟩
  | _ :: _, _ :: _, ⟨_, t⟩, j + 1, h => RowsI.get t j (Nat.lt_of_succ_lt_succ h)
theorem has_short : ∀ (q : List Nat) (t : Tree), HasAt t q → q.length ≤ cntT t
  | [], _, _ => Nat.zero_le _
  | i :: q, .node o l, ⟨hi, hq⟩ => by
    have := has_short q _ hq
    have h2 := cntT_kid hi
    rw [cntT, List.length_cons]
    omega
set_option maxHeartbeats 16000000 in
theorem spoilt17 (t : Tree) (cs : List Value) (k : Int) (w : World) (hW : Words w) (hT : TreeAt w (· < w.heap.size) t cs) :
    Calls Tryd.prog 7 #[.agg cs.toArray, .int .i64 k] w fun e w' => e = .returned (.bool true) ∧ Below w.heap.size w w' := by
  obtain ⟨o, l⟩ := t
  obtain ⟨Ab, cb, Ak, ck, rfl, _, _, _, _⟩ := hT.open_
  have B2 : Below w.heap.size w (w.alloc (.cells #[.int .i64 o.kind, .int .u64 (o.bits : Int), .int .u64 (o.high : Int), .int .u64 (o.low : Int), .string ⟨o.text.toArray⟩, .string ⟨o.more.toArray⟩, .int .i64 o.sub, .slice Ab o.bytes.length cb, .slice Ak l.length ck] 26)) := (Below.refl _ _).alloc (Nat.le_refl _) _
  have g1 : (w.alloc (.cells #[.int .i64 o.kind, .int .u64 (o.bits : Int), .int .u64 (o.high : Int), .int .u64 (o.low : Int), .string ⟨o.text.toArray⟩, .string ⟨o.more.toArray⟩, .int .i64 o.sub, .slice Ab o.bytes.length cb, .slice Ak l.length ck] 26)).heap[w.heap.size]? = some (.cells #[.int .i64 o.kind, .int .u64 (o.bits : Int), .int .u64 (o.high : Int), .int .u64 (o.low : Int), .string ⟨o.text.toArray⟩, .string ⟨o.more.toArray⟩, .int .i64 o.sub, .slice Ab o.bytes.length cb, .slice Ak l.length ck] 26) := heap_alloc_new w _
  have cA := Lib.hid fun (V : World) (hV : Below w.heap.size w V) => awake_any V (hW.up hV)
  have cX := Lib.hid fun (V : World) (hV : Below w.heap.size w V) => small_any (.node o l) _ _ _ _ _ _ _ _ _ V (hT.up hV)
  have cR := Lib.hid fun (V : World) (hV : Below w.heap.size w V) (hs : smallB (.node o l) = true) => refCheckV_any (.node o l) _ V (Nat.le_trans (small_cnt hs) (by decide)) (small_few hs) (hT.up hV)
  have cL := Lib.hid fun (V : World) (hV : Below w.heap.size w V) (hs : smallB (.node o l) = true) => refAllV_any (.node o l) _ V (Nat.le_trans (small_cnt hs) (by decide)) (hT.up hV)
  have HSM := Lib.hid fun (hs : smallB (.node o l) = true) => And.intro (small_cnt hs) (small_few hs)
  have HT := Lib.hid hT
  have HW := Lib.hid hW
  obtain ⟨tr, htr⟩ : ∃ tr, tr = Tree.node o l := ⟨_, rfl⟩
  rw [← htr] at cX cR cL HSM HT
  clear htr
  obtain ⟨xs, hxs⟩ : ∃ x, x = smallB tr := ⟨_, rfl⟩
  rw [← hxs] at cX cR cL HSM
  obtain ⟨r, hr⟩ : ∃ r, r = chkT tr [] [] := ⟨_, rfl⟩
  rw [← hr] at cR
  have HR := Lib.hid hr
  obtain ⟨P0, E0⟩ := r
  have HB2 := Lib.hid B2
  have G1 := Lib.hid g1
  clear hW hT B2 g1 hr hxs
  unfold cellsV at *
  go_enter Tryd.func7, Tryd.ntmps7
  go_wp2_with fail
  refine (cA.out _ HB2.out).mono ?_
  rintro e w1 ⟨rfl, B1⟩
  have HB1 := Lib.hid (low17 HB2.out B1)
  have G3 := Lib.hid ((B1.block _ (block_lt G1.out)).trans G1.out)
  clear B1 cA HB2 G1
  have i0 : w1.cell? ⟨w.heap.size, 0, none⟩ = some (.int .i64 o.kind) := by rw [block_cell G3.out]; rfl
  have i1 : w1.cell? ⟨w.heap.size, 1, none⟩ = some (.int .u64 (o.bits : Int)) := by rw [block_cell G3.out]; rfl
  have i2 : w1.cell? ⟨w.heap.size, 2, none⟩ = some (.int .u64 (o.high : Int)) := by rw [block_cell G3.out]; rfl
  have i3 : w1.cell? ⟨w.heap.size, 3, none⟩ = some (.int .u64 (o.low : Int)) := by rw [block_cell G3.out]; rfl
  have i4 : w1.cell? ⟨w.heap.size, 4, none⟩ = some (.string ⟨o.text.toArray⟩) := by rw [block_cell G3.out]; rfl
  have i5 : w1.cell? ⟨w.heap.size, 5, none⟩ = some (.string ⟨o.more.toArray⟩) := by rw [block_cell G3.out]; rfl
  have i6 : w1.cell? ⟨w.heap.size, 6, none⟩ = some (.int .i64 o.sub) := by rw [block_cell G3.out]; rfl
  have i7 : w1.cell? ⟨w.heap.size, 7, none⟩ = some (.slice Ab o.bytes.length cb) := by rw [block_cell G3.out]; rfl
  have i8 : w1.cell? ⟨w.heap.size, 8, none⟩ = some (.slice Ak l.length ck) := by rw [block_cell G3.out]; rfl
  go_wp2_with fail
  refine (cX.out _ HB1.out).mono ?_
  rintro e w2 ⟨rfl, B1⟩
  have HB2 := Lib.hid (low17 HB1.out B1)
  have G5 := Lib.hid ((B1.block _ (block_lt G3.out)).trans G3.out)
  clear B1 cX HB1 G3 i0 i1 i2 i3 i4 i5 i6 i7 i8
  cases xs with
  | false =>
    go_wp2_with fail
    go_ret
    exact ⟨rfl, HB2.out⟩
  | true =>
  have hsm := HSM.out rfl
  have HCN := Lib.hid hsm.1
  have HFE := Lib.hid hsm.2
  have cRR := Lib.hid fun (V : World) (hV : Below w.heap.size w V) => cR.out V hV rfl
  have cLL := Lib.hid fun (V : World) (hV : Below w.heap.size w V) => cL.out V hV rfl
  clear hsm HSM cR cL
  have i0 : w2.cell? ⟨w.heap.size, 0, none⟩ = some (.int .i64 o.kind) := by rw [block_cell G5.out]; rfl
  have i1 : w2.cell? ⟨w.heap.size, 1, none⟩ = some (.int .u64 (o.bits : Int)) := by rw [block_cell G5.out]; rfl
  have i2 : w2.cell? ⟨w.heap.size, 2, none⟩ = some (.int .u64 (o.high : Int)) := by rw [block_cell G5.out]; rfl
  have i3 : w2.cell? ⟨w.heap.size, 3, none⟩ = some (.int .u64 (o.low : Int)) := by rw [block_cell G5.out]; rfl
  have i4 : w2.cell? ⟨w.heap.size, 4, none⟩ = some (.string ⟨o.text.toArray⟩) := by rw [block_cell G5.out]; rfl
  have i5 : w2.cell? ⟨w.heap.size, 5, none⟩ = some (.string ⟨o.more.toArray⟩) := by rw [block_cell G5.out]; rfl
  have i6 : w2.cell? ⟨w.heap.size, 6, none⟩ = some (.int .i64 o.sub) := by rw [block_cell G5.out]; rfl
  have i7 : w2.cell? ⟨w.heap.size, 7, none⟩ = some (.slice Ab o.bytes.length cb) := by rw [block_cell G5.out]; rfl
  have i8 : w2.cell? ⟨w.heap.size, 8, none⟩ = some (.slice Ak l.length ck) := by rw [block_cell G5.out]; rfl
  go_wp2_with fail
  refine (cRR.out _ HB2.out).mono ?_
  rintro e w3 ⟨⟨A, n, c, rfl, _⟩, B1⟩
  have HB3 := Lib.hid (low17 HB2.out B1)
  have G7 := Lib.hid ((B1.block _ (block_lt G5.out)).trans G5.out)
  clear B1 cRR HB2 G5 i0 i1 i2 i3 i4 i5 i6 i7 i8
  have i0 : w3.cell? ⟨w.heap.size, 0, none⟩ = some (.int .i64 o.kind) := by rw [block_cell G7.out]; rfl
  have i1 : w3.cell? ⟨w.heap.size, 1, none⟩ = some (.int .u64 (o.bits : Int)) := by rw [block_cell G7.out]; rfl
  have i2 : w3.cell? ⟨w.heap.size, 2, none⟩ = some (.int .u64 (o.high : Int)) := by rw [block_cell G7.out]; rfl
  have i3 : w3.cell? ⟨w.heap.size, 3, none⟩ = some (.int .u64 (o.low : Int)) := by rw [block_cell G7.out]; rfl
  have i4 : w3.cell? ⟨w.heap.size, 4, none⟩ = some (.string ⟨o.text.toArray⟩) := by rw [block_cell G7.out]; rfl
  have i5 : w3.cell? ⟨w.heap.size, 5, none⟩ = some (.string ⟨o.more.toArray⟩) := by rw [block_cell G7.out]; rfl
  have i6 : w3.cell? ⟨w.heap.size, 6, none⟩ = some (.int .i64 o.sub) := by rw [block_cell G7.out]; rfl
  have i7 : w3.cell? ⟨w.heap.size, 7, none⟩ = some (.slice Ab o.bytes.length cb) := by rw [block_cell G7.out]; rfl
  have i8 : w3.cell? ⟨w.heap.size, 8, none⟩ = some (.slice Ak l.length ck) := by rw [block_cell G7.out]; rfl
  go_wp2_with fail
  refine (cLL.out _ HB3.out).mono ?_
  rintro e w4 ⟨⟨AL, nL, cL2, ys, rfl, hO, hX⟩, B1⟩
  have HB4 := Lib.hid (low17 HB3.out B1)
  have G9 := Lib.hid ((B1.block _ (block_lt G7.out)).trans G7.out)
  clear B1 cLL HB3 G7 i0 i1 i2 i3 i4 i5 i6 i7 i8
  by_cases z : E0 = 0
  rotate_left 1
  · have z1 : (E0 == 0) = false := beq_eq_false_iff_ne.2 z
    have z2 : (E0 != 0) = true := by rw [bne, z1]; rfl
    clear hO hX
    go_wp2_with fail
    go_ret
    exact ⟨rfl, HB4.out⟩
  subst z
  have hyl : ys.length = nL := by have := hO.1; omega
  have hll := hX.len
  rw [allT_length] at hll
  have hpos := cntT_pos tr
  have hcn := HCN.out
  have cP := Lib.hid fun V => place_any k nL V (by omega) (by omega)
  obtain ⟨gl, eA, _, hlg, hcl⟩ := own_cell hO (by omega)
  have HX := Lib.hid hX
  have HYL : Hid (ys.length = nL ∧ ys.length = cntT tr) := ⟨hyl, hll⟩
  have HCL := Lib.hid hcl
  subst eA
  clear hO hX hyl hll hpos hcn hlg hcl
  go_wp2_with fail
  refine (cP.out _).mono ?_
  rintro e w5 ⟨⟨j, hj, rfl⟩, hw⟩; subst w5
  have hyc := HYL.out
  obtain ⟨Ap, np, cp, hyj, hnc, hip⟩ := HX.out.get j (by rw [allT_length]; omega)
  obtain ⟨q, hq, hH⟩ := all_has tr [] _ (List.getElem_mem (show j < (allT tr []).length by rw [allT_length]; omega))
  rw [hq, List.nil_append] at hip
  have hcj : w4.cell? ⟨gl, j, none⟩ = some (.slice Ap np cp) := (HCL.out j hj).trans hyj
  have HP := Lib.hid (hip.weaken (M' := (· < w4.heap.size)) fun b hb => hb.2.1)
  have HNC := Lib.hid hnc
  have HH := Lib.hid hH
  have hnp : np ≤ 1000000000 := by
    have h1 := hip.1
    have h2 := has_short q tr hH
    have h3 := HCN.out
    rw [List.length_map] at h1
    omega
  have HNP := Lib.hid hnp
  have s0 : (0 : Int) ≤ (j : Int) := by omega
  have s1 : (j : Int) < (nL : Int) := by omega
  clear hyc hyj hnc hip hq hH cP HX HYL HCL hnp hj
  have cW1 : Hid (∀ V, Below w4.heap.size w4 V → Calls Tryd.prog 28 #[.agg #[.int .i64 o.kind, .int .u64 (o.bits : Int), .int .u64 (o.high : Int), .int .u64 (o.low : Int), .string ⟨o.text.toArray⟩, .string ⟨o.more.toArray⟩, .int .i64 o.sub, .slice Ab o.bytes.length cb, .slice Ak l.length ck], .slice Ap np cp, .agg #[.int .i64 300, .int .u64 0, .int .u64 0, .int .u64 0, .string ⟨#[]⟩, .string ⟨#[]⟩, .int .i64 0, .slice none 0 0, .slice none 0 0]] V (AnsW V (· < V.heap.size) (withT tr q (.node (plainO 300 0) [])))) := fun V hV =>
    with_any q tr _ Ap np cp (.node (plainO 300 0) []) _ V (· < V.heap.size) (fun _ h => h) (Nat.le_trans HCN.out (by decide)) (HT.out.up (low17 HB4.out hV)) (HP.out.on hV) HNC.out (tree_plain 300 0 (by decide) (by decide) (by decide) V _) HH.out
  have cC1 : Hid (∀ V, Below w4.heap.size w4 V → ∀ ds, TreeAt V (· < V.heap.size) (withT tr q (.node (plainO 300 0) [])) ds → Calls Tryd.prog 11 #[.agg ds.toArray] V (AnsC V (q.map (fun i : Nat => (i : Int)), (5 : Int)))) := fun V hV ds hds => by
    have h1 := checkV_any _ ds V (HW.out.up (low17 HB4.out hV)) (Nat.le_trans (cnt_with _ q tr) (by rw [show cntT (.node (plainO 300 0) []) = 1 from rfl]; have := HCN.out; omega)) (few_with _ (few_plain _ _) q tr HFE.out) hds
    rw [chk_with _ q tr [] [] (by rw [← HR.out]) HH.out, e300] at h1
    exact h1
  have cW2 : Hid (∀ V, Below w4.heap.size w4 V → Calls Tryd.prog 28 #[.agg #[.int .i64 o.kind, .int .u64 (o.bits : Int), .int .u64 (o.high : Int), .int .u64 (o.low : Int), .string ⟨o.text.toArray⟩, .string ⟨o.more.toArray⟩, .int .i64 o.sub, .slice Ab o.bytes.length cb, .slice Ak l.length ck], .slice Ap np cp, .agg #[.int .i64 8, .int .u64 2, .int .u64 0, .int .u64 0, .string ⟨#[]⟩, .string ⟨#[]⟩, .int .i64 0, .slice none 0 0, .slice none 0 0]] V (AnsW V (· < V.heap.size) (withT tr q (.node (plainO 8 2) [])))) := fun V hV =>
    with_any q tr _ Ap np cp (.node (plainO 8 2) []) _ V (· < V.heap.size) (fun _ h => h) (Nat.le_trans HCN.out (by decide)) (HT.out.up (low17 HB4.out hV)) (HP.out.on hV) HNC.out (tree_plain 8 2 (by decide) (by decide) (by decide) V _) HH.out
  have cC2 : Hid (∀ V, Below w4.heap.size w4 V → ∀ ds, TreeAt V (· < V.heap.size) (withT tr q (.node (plainO 8 2) [])) ds → Calls Tryd.prog 11 #[.agg ds.toArray] V (AnsC V (q.map (fun i : Nat => (i : Int)), (1 : Int)))) := fun V hV ds hds => by
    have h1 := checkV_any _ ds V (HW.out.up (low17 HB4.out hV)) (Nat.le_trans (cnt_with _ q tr) (by rw [show cntT (.node (plainO 8 2) []) = 1 from rfl]; have := HCN.out; omega)) (few_with _ (few_plain _ _) q tr HFE.out) hds
    rw [chk_with _ q tr [] [] (by rw [← HR.out]) HH.out, e82] at h1
    exact h1
  have cW3 : Hid (∀ V, Below w4.heap.size w4 V → Calls Tryd.prog 28 #[.agg #[.int .i64 o.kind, .int .u64 (o.bits : Int), .int .u64 (o.high : Int), .int .u64 (o.low : Int), .string ⟨o.text.toArray⟩, .string ⟨o.more.toArray⟩, .int .i64 o.sub, .slice Ab o.bytes.length cb, .slice Ak l.length ck], .slice Ap np cp, .agg #[.int .i64 8, .int .u64 1, .int .u64 0, .int .u64 0, .string ⟨#[]⟩, .string ⟨#[]⟩, .int .i64 0, .slice none 0 0, .slice none 0 0]] V (AnsW V (· < V.heap.size) (withT tr q (.node (plainO 8 1) [])))) := fun V hV =>
    with_any q tr _ Ap np cp (.node (plainO 8 1) []) _ V (· < V.heap.size) (fun _ h => h) (Nat.le_trans HCN.out (by decide)) (HT.out.up (low17 HB4.out hV)) (HP.out.on hV) HNC.out (tree_plain 8 1 (by decide) (by decide) (by decide) V _) HH.out
  have cC3 : Hid (∀ V, Below w4.heap.size w4 V → ∀ ds, TreeAt V (· < V.heap.size) (withT tr q (.node (plainO 8 1) [])) ds → Calls Tryd.prog 11 #[.agg ds.toArray] V (AnsC V (([] : List Int), (0 : Int)))) := fun V hV ds hds => by
    have h1 := checkV_any _ ds V (HW.out.up (low17 HB4.out hV)) (Nat.le_trans (cnt_with _ q tr) (by rw [show cntT (.node (plainO 8 1) []) = 1 from rfl]; have := HCN.out; omega)) (few_with _ (few_plain _ _) q tr HFE.out) hds
    rw [chk_with _ q tr [] [] (by rw [← HR.out]) HH.out, e81] at h1
    exact h1
  have HB := Lib.hid (Below.refl w4.heap.size w4)
  have i0 : w4.cell? ⟨w.heap.size, 0, none⟩ = some (.int .i64 o.kind) := by rw [block_cell G9.out]; rfl
  have i1 : w4.cell? ⟨w.heap.size, 1, none⟩ = some (.int .u64 (o.bits : Int)) := by rw [block_cell G9.out]; rfl
  have i2 : w4.cell? ⟨w.heap.size, 2, none⟩ = some (.int .u64 (o.high : Int)) := by rw [block_cell G9.out]; rfl
  have i3 : w4.cell? ⟨w.heap.size, 3, none⟩ = some (.int .u64 (o.low : Int)) := by rw [block_cell G9.out]; rfl
  have i4 : w4.cell? ⟨w.heap.size, 4, none⟩ = some (.string ⟨o.text.toArray⟩) := by rw [block_cell G9.out]; rfl
  have i5 : w4.cell? ⟨w.heap.size, 5, none⟩ = some (.string ⟨o.more.toArray⟩) := by rw [block_cell G9.out]; rfl
  have i6 : w4.cell? ⟨w.heap.size, 6, none⟩ = some (.int .i64 o.sub) := by rw [block_cell G9.out]; rfl
  have i7 : w4.cell? ⟨w.heap.size, 7, none⟩ = some (.slice Ab o.bytes.length cb) := by rw [block_cell G9.out]; rfl
  have i8 : w4.cell? ⟨w.heap.size, 8, none⟩ = some (.slice Ak l.length ck) := by rw [block_cell G9.out]; rfl
  go_wp2_with fail
  refine (cW1.out _ HB.out).mono ?_
  rintro e v1 ⟨⟨dp1, Db1, d1, Dk1, m1, dk1, rfl, T1⟩, B1⟩
  have HB' := Lib.hid (low17 HB.out B1)
  have G' := Lib.hid ((B1.block _ (block_lt G9.out)).trans G9.out)
  have hs := B1.size
  have cC := Lib.hid (cC1.out _ HB'.out _ (TreeAt.weaken (fun b hb => by rcases hb with h | h <;> omega) _ _ T1))
  clear B1 hs T1 cW1 cC1 HB G9 i0 i1 i2 i3 i4 i5 i6 i7 i8 hcj s0 s1
  unfold cellsV at cC
  go_wp2_with fail
  refine (cC.out).mono ?_
  rintro e v2 ⟨⟨A1, n1, c1, rfl, I1⟩, B1⟩
  have HB := Lib.hid (low17 HB'.out B1)
  have G1' := Lib.hid ((B1.block _ (block_lt G'.out)).trans G'.out)
  have HI1 := Lib.hid I1
  clear B1 cC HB' G' I1
  have i0 : v2.cell? ⟨w.heap.size, 0, none⟩ = some (.int .i64 o.kind) := by rw [block_cell G1'.out]; rfl
  have i1 : v2.cell? ⟨w.heap.size, 1, none⟩ = some (.int .u64 (o.bits : Int)) := by rw [block_cell G1'.out]; rfl
  have i2 : v2.cell? ⟨w.heap.size, 2, none⟩ = some (.int .u64 (o.high : Int)) := by rw [block_cell G1'.out]; rfl
  have i3 : v2.cell? ⟨w.heap.size, 3, none⟩ = some (.int .u64 (o.low : Int)) := by rw [block_cell G1'.out]; rfl
  have i4 : v2.cell? ⟨w.heap.size, 4, none⟩ = some (.string ⟨o.text.toArray⟩) := by rw [block_cell G1'.out]; rfl
  have i5 : v2.cell? ⟨w.heap.size, 5, none⟩ = some (.string ⟨o.more.toArray⟩) := by rw [block_cell G1'.out]; rfl
  have i6 : v2.cell? ⟨w.heap.size, 6, none⟩ = some (.int .i64 o.sub) := by rw [block_cell G1'.out]; rfl
  have i7 : v2.cell? ⟨w.heap.size, 7, none⟩ = some (.slice Ab o.bytes.length cb) := by rw [block_cell G1'.out]; rfl
  have i8 : v2.cell? ⟨w.heap.size, 8, none⟩ = some (.slice Ak l.length ck) := by rw [block_cell G1'.out]; rfl
  go_wp2_with fail
  refine (cW2.out _ HB.out).mono ?_
  rintro e v3 ⟨⟨dp2, Db2, d2, Dk2, m2, dk2, rfl, T2⟩, B1⟩
  have HB' := Lib.hid (low17 HB.out B1)
  have G' := Lib.hid ((B1.block _ (block_lt G1'.out)).trans G1'.out)
  have hs := B1.size
  have HI1 := Lib.hid (HI1.out.on B1)
  have cC := Lib.hid (cC2.out _ HB'.out _ (TreeAt.weaken (fun b hb => by rcases hb with h | h <;> omega) _ _ T2))
  clear B1 hs T2 cW2 cC2 HB G1' i0 i1 i2 i3 i4 i5 i6 i7 i8
  unfold cellsV at cC
  go_wp2_with fail
  refine (cC.out).mono ?_
  rintro e v4 ⟨⟨A2, n2, c2, rfl, I2⟩, B1⟩
  have HB := Lib.hid (low17 HB'.out B1)
  have HI1 := Lib.hid (HI1.out.on B1)
  have G2' := Lib.hid ((B1.block _ (block_lt G'.out)).trans G'.out)
  have HI2 := Lib.hid I2
  clear B1 cC HB' G' I2
  have i0 : v4.cell? ⟨w.heap.size, 0, none⟩ = some (.int .i64 o.kind) := by rw [block_cell G2'.out]; rfl
  have i1 : v4.cell? ⟨w.heap.size, 1, none⟩ = some (.int .u64 (o.bits : Int)) := by rw [block_cell G2'.out]; rfl
  have i2 : v4.cell? ⟨w.heap.size, 2, none⟩ = some (.int .u64 (o.high : Int)) := by rw [block_cell G2'.out]; rfl
  have i3 : v4.cell? ⟨w.heap.size, 3, none⟩ = some (.int .u64 (o.low : Int)) := by rw [block_cell G2'.out]; rfl
  have i4 : v4.cell? ⟨w.heap.size, 4, none⟩ = some (.string ⟨o.text.toArray⟩) := by rw [block_cell G2'.out]; rfl
  have i5 : v4.cell? ⟨w.heap.size, 5, none⟩ = some (.string ⟨o.more.toArray⟩) := by rw [block_cell G2'.out]; rfl
  have i6 : v4.cell? ⟨w.heap.size, 6, none⟩ = some (.int .i64 o.sub) := by rw [block_cell G2'.out]; rfl
  have i7 : v4.cell? ⟨w.heap.size, 7, none⟩ = some (.slice Ab o.bytes.length cb) := by rw [block_cell G2'.out]; rfl
  have i8 : v4.cell? ⟨w.heap.size, 8, none⟩ = some (.slice Ak l.length ck) := by rw [block_cell G2'.out]; rfl
  go_wp2_with fail
  refine (cW3.out _ HB.out).mono ?_
  rintro e v5 ⟨⟨dp3, Db3, d3, Dk3, m3, dk3, rfl, T3⟩, B1⟩
  have HB' := Lib.hid (low17 HB.out B1)
  have G' := Lib.hid ((B1.block _ (block_lt G2'.out)).trans G2'.out)
  have hs := B1.size
  have HI1 := Lib.hid (HI1.out.on B1)
  have HI2 := Lib.hid (HI2.out.on B1)
  have cC := Lib.hid (cC3.out _ HB'.out _ (TreeAt.weaken (fun b hb => by rcases hb with h | h <;> omega) _ _ T3))
  clear B1 hs T3 cW3 cC3 HB G2' i0 i1 i2 i3 i4 i5 i6 i7 i8
  unfold cellsV at cC
  go_wp2_with fail
  refine (cC.out).mono ?_
  rintro e v6 ⟨⟨A3, n3, c3, rfl, I3⟩, B1⟩
  have HB := Lib.hid (low17 HB'.out B1)
  have HI1 := Lib.hid (HI1.out.on B1)
  have HI2 := Lib.hid (HI2.out.on B1)
  have G3' := Lib.hid ((B1.block _ (block_lt G'.out)).trans G'.out)
  have HI3 := Lib.hid I3
  clear B1 cC HB' G' I3
  have hqn : q.length = np := by have := HP.out.1; rwa [List.length_map] at this
  have hn1 : n1 ≤ 1000000000 := by have h1 := HI1.out.1; have h2 := HNP.out; rw [List.length_map] at h1; omega
  have hn2 : n2 ≤ 1000000000 := by have h1 := HI2.out.1; have h2 := HNP.out; rw [List.length_map] at h1; omega
  have cS1 := Lib.hid fun (V : World) (hV : Below v6.heap.size v6 V) => sameInts_any A1 n1 c1 _ Ap np cp _ V (HI1.out.on hV) (HP.out.on (low17 HB.out hV)) hn1 HNP.out
  have cS2 := Lib.hid fun (V : World) (hV : Below v6.heap.size v6 V) => sameInts_any A2 n2 c2 _ Ap np cp _ V (HI2.out.on hV) (HP.out.on (low17 HB.out hV)) hn2 HNP.out
  simp only [decide_true] at cS1 cS2
  clear hqn hn1 hn2 HI1 HI2 HI3 HP HNP
  go_wp2_with fail
  refine (cS1.out _ (Below.refl _ _)).mono ?_
  rintro e u1 ⟨rfl, b1⟩
  have HU1 := Lib.hid b1
  clear b1 cS1
  go_wp2_with fail
  refine (cS2.out _ HU1.out).mono ?_
  rintro e u2 ⟨rfl, b2⟩
  have HU2 := Lib.hid (low17 HU1.out b2)
  clear b2 cS2
  go_wp2_with fail
  go_ret
  exact ⟨rfl, low17 (low17 HB4.out HB.out) HU2.out⟩
end Go.Proofs.YtfpocpmcoobjkaaDoor
