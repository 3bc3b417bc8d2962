/-
  The law PathDiffs (chapter 18) at any two trees; no condition.
-/
import Derived.Test.YtmkgcifcfgfegaaAwake18
import Derived.Test.YtmkgcifcfgfegaaDiffV18
namespace Go.Proofs.Ytmkgcifcfgfegaa
set_option maxRecDepth 100000
open Go.RowKit

theorem parts_short : ∀ (t u : Tree) (p r : List Int), r ∈ partsT t u p → r.length + 1 ≤ p.length + cntT t := by
  refine Tree.ind ?_
  intro o l ih u p r hr
  obtain ⟨o', m⟩ := u
  have q : ∀ (l' : List Kid) (m' : List Kid) (j : Nat), (∀ x ∈ l', x ∈ l) → r ∈ partsK l' m' j p → r.length + 1 ≤ p.length + 1 + cntK l' := fun l' => by
    induction l' with
    | nil => intro m' j _ h; rw [parts_nil] at h; cases h
    | cons x l' ihm =>
      intro m' j hm h
      cases m' with
      | nil => rw [partsK] at h; cases h; intros; simp_all
      | cons y m' =>
        obtain ⟨n, t⟩ := x
        obtain ⟨k, u⟩ := y
        rw [partsK] at h
        rw [cntK]
        rcases List.mem_append.1 h with h | h
        · have := ih (n, t) (hm _ (.head _)) _ _ _ h
          simp only [List.length_append, List.length_cons, List.length_nil] at this
          omega
        · have := ihm m' (j + 1) (fun y hy => hm y (.tail _ hy)) h
          omega
  rw [partsT] at hr
  rw [cntT]
  rcases List.mem_append.1 hr with hr | hr
  · split at hr
    · cases hr
    · rw [List.mem_singleton.1 hr]; omega
  · have := q l m 0 (fun _ h => h) hr
    omega
theorem diff_short (t u : Tree) : ((diffT t u []).getD []).length ≤ cntT t ∧ ∀ r ∈ (diffT t u []).getD [], r.length ≤ cntT t := by
  rw [diff_parts]
  by_cases h : shapeT t u = true
  · rw [if_pos h]
    refine ⟨parts_few t u [], fun r hr => ?_⟩
    have := parts_short t u [] r hr
    simp only [List.length_nil] at this
    omega
  · rw [if_neg h]
    exact ⟨Nat.zero_le _, fun r hr => by cases hr⟩
theorem diff_none_ne {t u : Tree} (h : diffT t u [] ≠ some []) : sameT t u = false := by
  cases e : sameT t u with
  | false => rfl
  | true => exact absurd ((diff_same t u []).2 ((sameT_iff t u).1 e)) h
set_option maxHeartbeats 8000000 in
theorem diffs18 (t u : Tree) (cs ds : List Value) (w : World) (hT : TreeAt w (· < w.heap.size) t cs) (hU : TreeAt w (· < w.heap.size) u ds) :
    Calls Try.prog 5 #[.agg cs.toArray, .agg ds.toArray] w fun e w' => e = .returned (.bool true) ∧ Below w.heap.size w w' := by
  obtain ⟨c0, c1, c2, c3, c4, c5, c6, c7, c8, rfl⟩ := nine hT.len9
  obtain ⟨a0, a1, a2, a3, a4, a5, a6, a7, a8, rfl⟩ := nine hU.len9
  have B2 : Below w.heap.size w ((w.alloc (.cells #[c0, c1, c2, c3, c4, c5, c6, c7, c8] 26)).alloc (.cells #[a0, a1, a2, a3, a4, a5, a6, a7, a8] 26)) := two_new2 _ _ _
  have g2 : ((w.alloc (.cells #[c0, c1, c2, c3, c4, c5, c6, c7, c8] 26)).alloc (.cells #[a0, a1, a2, a3, a4, a5, a6, a7, a8] 26)).heap[w.heap.size + 1]? = some (.cells #[a0, a1, a2, a3, a4, a5, a6, a7, a8] 26) := heap_two2 _ _ _
  have g1 : ((w.alloc (.cells #[c0, c1, c2, c3, c4, c5, c6, c7, c8] 26)).alloc (.cells #[a0, a1, a2, a3, a4, a5, a6, a7, a8] 26)).heap[w.heap.size]? = some (.cells #[c0, c1, c2, c3, c4, c5, c6, c7, c8] 26) := (Below.heap_alloc _ _ _ (by simp)).trans (heap_alloc_new w _)
  have cX := Lib.hid fun (V : World) (hV : Below w.heap.size w V) => small_any t _ _ _ _ _ _ _ _ _ V (hT.low hV)
  have cY := Lib.hid fun (V : World) (hV : Below w.heap.size w V) => small_any u _ _ _ _ _ _ _ _ _ V (hU.low hV)
  have cA := Lib.hid fun (V : World) => awake_any V
  have cD := Lib.hid fun (hc : cntT t ≤ 1000000) (V : World) (hV : Below w.heap.size w V) => diffV_any t u _ _ V hc (hT.low hV) (hU.low hV)
  have cR := Lib.hid fun (hc : cntT t ≤ 1000000) (V : World) (hV : Below w.heap.size w V) => refDiffV_any t u _ _ V hc (hT.low hV) (hU.low hV)
  have cE := Lib.hid fun (hc : cntT t ≤ 1000000) (V : World) (hV : Below w.heap.size w V) => diffV_any t t _ _ V hc (hT.low hV) (hT.low hV)
  have cS := Lib.hid fun (V : World) (hV : Below w.heap.size w V) => refSame_any t _ u _ V (hT.low hV) (hU.low hV)
  rw [(diff_same t t []).2 rfl] at cE
  have HSM : Hid (smallB t = true → cntT t ≤ 1000000) := fun h => by have := small_cnt h; omega
  have HSH := Lib.hid (diff_short t u)
  have HCS : Hid ((sameT t u = true ∧ diffT t u [] = some []) ∨ (sameT t u = false ∧ diffT t u [] ≠ some [])) := by
    by_cases h : diffT t u [] = some []
    · exact .inl ⟨(sameT_iff t u).2 ((diff_same t u []).1 h), h⟩
    · exact .inr ⟨diff_none_ne h, h⟩
  generalize sameT t u = s at *
  generalize diffT t u [] = r at *
  generalize cntT t = N at *
  generalize smallB t = x at *
  generalize smallB u = y at *
  have HB2 := Lib.hid B2
  have G1 := Lib.hid g1
  have G2 := Lib.hid g2
  clear hT hU B2 g1 g2
  go_enter Try.func5, Try.ntmps5
  go_upto_region 1 with fail
  generalize ((w.alloc (.cells #[c0, c1, c2, c3, c4, c5, c6, c7, c8] 26)).alloc (.cells #[a0, a1, a2, a3, a4, a5, a6, a7, a8] 26)) = W at *
  go_wp2_with fail
  refine (cA.out _).mono ?_
  rintro e w1 ⟨rfl, B1⟩
  have HB1 := Lib.hid (low17 HB2.out B1)
  have G3 := Lib.hid ((B1.block _ (block_lt G1.out)).trans G1.out)
  have G4 := Lib.hid ((B1.block _ (block_lt G2.out)).trans G2.out)
  clear B1 cA HB2 G1 G2
  have v0 : w1.cell? ⟨w.heap.size, 0, none⟩ = some c0 := by rw [block_cell G3.out]; rfl
  have v1 : w1.cell? ⟨w.heap.size, 1, none⟩ = some c1 := by rw [block_cell G3.out]; rfl
  have v2 : w1.cell? ⟨w.heap.size, 2, none⟩ = some c2 := by rw [block_cell G3.out]; rfl
  have v3 : w1.cell? ⟨w.heap.size, 3, none⟩ = some c3 := by rw [block_cell G3.out]; rfl
  have v4 : w1.cell? ⟨w.heap.size, 4, none⟩ = some c4 := by rw [block_cell G3.out]; rfl
  have v5 : w1.cell? ⟨w.heap.size, 5, none⟩ = some c5 := by rw [block_cell G3.out]; rfl
  have v6 : w1.cell? ⟨w.heap.size, 6, none⟩ = some c6 := by rw [block_cell G3.out]; rfl
  have v7 : w1.cell? ⟨w.heap.size, 7, none⟩ = some c7 := by rw [block_cell G3.out]; rfl
  have v8 : w1.cell? ⟨w.heap.size, 8, none⟩ = some c8 := by rw [block_cell G3.out]; rfl
  have y0 : w1.cell? ⟨w.heap.size + 1, 0, none⟩ = some a0 := by rw [block_cell G4.out]; rfl
  have y1 : w1.cell? ⟨w.heap.size + 1, 1, none⟩ = some a1 := by rw [block_cell G4.out]; rfl
  have y2 : w1.cell? ⟨w.heap.size + 1, 2, none⟩ = some a2 := by rw [block_cell G4.out]; rfl
  have y3 : w1.cell? ⟨w.heap.size + 1, 3, none⟩ = some a3 := by rw [block_cell G4.out]; rfl
  have y4 : w1.cell? ⟨w.heap.size + 1, 4, none⟩ = some a4 := by rw [block_cell G4.out]; rfl
  have y5 : w1.cell? ⟨w.heap.size + 1, 5, none⟩ = some a5 := by rw [block_cell G4.out]; rfl
  have y6 : w1.cell? ⟨w.heap.size + 1, 6, none⟩ = some a6 := by rw [block_cell G4.out]; rfl
  have y7 : w1.cell? ⟨w.heap.size + 1, 7, none⟩ = some a7 := by rw [block_cell G4.out]; rfl
  have y8 : w1.cell? ⟨w.heap.size + 1, 8, none⟩ = some a8 := by rw [block_cell G4.out]; rfl
  go_wp2_with fail
  refine (cX.out _ HB1.out).mono ?_
  rintro e w2 ⟨rfl, B1⟩
  have HB2 := Lib.hid (low17 HB1.out B1)
  have G5 := Lib.hid ((B1.block _ (block_lt G3.out)).trans G3.out)
  have G6 := Lib.hid ((B1.block _ (block_lt G4.out)).trans G4.out)
  clear B1 cX HB1 G3 G4 v0 y0 v1 y1 v2 y2 v3 y3 v4 y4 v5 y5 v6 y6 v7 y7 v8 y8
  cases x with
  | false =>
    go_wp2_with fail
    go_ret
    exact ⟨rfl, HB2.out⟩
  | true =>
  have HN := Lib.hid (HSM.out (by trivial))
  clear HSM
  have v0 : w2.cell? ⟨w.heap.size, 0, none⟩ = some c0 := by rw [block_cell G5.out]; rfl
  have v1 : w2.cell? ⟨w.heap.size, 1, none⟩ = some c1 := by rw [block_cell G5.out]; rfl
  have v2 : w2.cell? ⟨w.heap.size, 2, none⟩ = some c2 := by rw [block_cell G5.out]; rfl
  have v3 : w2.cell? ⟨w.heap.size, 3, none⟩ = some c3 := by rw [block_cell G5.out]; rfl
  have v4 : w2.cell? ⟨w.heap.size, 4, none⟩ = some c4 := by rw [block_cell G5.out]; rfl
  have v5 : w2.cell? ⟨w.heap.size, 5, none⟩ = some c5 := by rw [block_cell G5.out]; rfl
  have v6 : w2.cell? ⟨w.heap.size, 6, none⟩ = some c6 := by rw [block_cell G5.out]; rfl
  have v7 : w2.cell? ⟨w.heap.size, 7, none⟩ = some c7 := by rw [block_cell G5.out]; rfl
  have v8 : w2.cell? ⟨w.heap.size, 8, none⟩ = some c8 := by rw [block_cell G5.out]; rfl
  have y0 : w2.cell? ⟨w.heap.size + 1, 0, none⟩ = some a0 := by rw [block_cell G6.out]; rfl
  have y1 : w2.cell? ⟨w.heap.size + 1, 1, none⟩ = some a1 := by rw [block_cell G6.out]; rfl
  have y2 : w2.cell? ⟨w.heap.size + 1, 2, none⟩ = some a2 := by rw [block_cell G6.out]; rfl
  have y3 : w2.cell? ⟨w.heap.size + 1, 3, none⟩ = some a3 := by rw [block_cell G6.out]; rfl
  have y4 : w2.cell? ⟨w.heap.size + 1, 4, none⟩ = some a4 := by rw [block_cell G6.out]; rfl
  have y5 : w2.cell? ⟨w.heap.size + 1, 5, none⟩ = some a5 := by rw [block_cell G6.out]; rfl
  have y6 : w2.cell? ⟨w.heap.size + 1, 6, none⟩ = some a6 := by rw [block_cell G6.out]; rfl
  have y7 : w2.cell? ⟨w.heap.size + 1, 7, none⟩ = some a7 := by rw [block_cell G6.out]; rfl
  have y8 : w2.cell? ⟨w.heap.size + 1, 8, none⟩ = some a8 := by rw [block_cell G6.out]; rfl
  go_wp2_with fail
  refine (cY.out _ HB2.out).mono ?_
  rintro e w3 ⟨rfl, B1⟩
  have HB3 := Lib.hid (low17 HB2.out B1)
  have G7 := Lib.hid ((B1.block _ (block_lt G5.out)).trans G5.out)
  have G8 := Lib.hid ((B1.block _ (block_lt G6.out)).trans G6.out)
  clear B1 cY HB2 G5 G6 v0 y0 v1 y1 v2 y2 v3 y3 v4 y4 v5 y5 v6 y6 v7 y7 v8 y8
  cases y with
  | false =>
    go_wp2_with fail
    go_ret
    exact ⟨rfl, HB3.out⟩
  | true =>
  have v0 : w3.cell? ⟨w.heap.size, 0, none⟩ = some c0 := by rw [block_cell G7.out]; rfl
  have v1 : w3.cell? ⟨w.heap.size, 1, none⟩ = some c1 := by rw [block_cell G7.out]; rfl
  have v2 : w3.cell? ⟨w.heap.size, 2, none⟩ = some c2 := by rw [block_cell G7.out]; rfl
  have v3 : w3.cell? ⟨w.heap.size, 3, none⟩ = some c3 := by rw [block_cell G7.out]; rfl
  have v4 : w3.cell? ⟨w.heap.size, 4, none⟩ = some c4 := by rw [block_cell G7.out]; rfl
  have v5 : w3.cell? ⟨w.heap.size, 5, none⟩ = some c5 := by rw [block_cell G7.out]; rfl
  have v6 : w3.cell? ⟨w.heap.size, 6, none⟩ = some c6 := by rw [block_cell G7.out]; rfl
  have v7 : w3.cell? ⟨w.heap.size, 7, none⟩ = some c7 := by rw [block_cell G7.out]; rfl
  have v8 : w3.cell? ⟨w.heap.size, 8, none⟩ = some c8 := by rw [block_cell G7.out]; rfl
  have y0 : w3.cell? ⟨w.heap.size + 1, 0, none⟩ = some a0 := by rw [block_cell G8.out]; rfl
  have y1 : w3.cell? ⟨w.heap.size + 1, 1, none⟩ = some a1 := by rw [block_cell G8.out]; rfl
  have y2 : w3.cell? ⟨w.heap.size + 1, 2, none⟩ = some a2 := by rw [block_cell G8.out]; rfl
  have y3 : w3.cell? ⟨w.heap.size + 1, 3, none⟩ = some a3 := by rw [block_cell G8.out]; rfl
  have y4 : w3.cell? ⟨w.heap.size + 1, 4, none⟩ = some a4 := by rw [block_cell G8.out]; rfl
  have y5 : w3.cell? ⟨w.heap.size + 1, 5, none⟩ = some a5 := by rw [block_cell G8.out]; rfl
  have y6 : w3.cell? ⟨w.heap.size + 1, 6, none⟩ = some a6 := by rw [block_cell G8.out]; rfl
  have y7 : w3.cell? ⟨w.heap.size + 1, 7, none⟩ = some a7 := by rw [block_cell G8.out]; rfl
  have y8 : w3.cell? ⟨w.heap.size + 1, 8, none⟩ = some a8 := by rw [block_cell G8.out]; rfl
  go_wp2_with fail
  refine (cD.out HN.out _ HB3.out).mono ?_
  rintro e w4 ⟨⟨L, lc, rfl, p4⟩, B1⟩
  have HB4 := Lib.hid (low17 HB3.out B1)
  have G9 := Lib.hid ((B1.block _ (block_lt G7.out)).trans G7.out)
  have G10 := Lib.hid ((B1.block _ (block_lt G8.out)).trans G8.out)
  have P4 := Lib.hid p4
  clear B1 cD HB3 G7 G8 v0 y0 v1 y1 v2 y2 v3 y3 v4 y4 v5 y5 v6 y6 v7 y7 v8 y8 p4
  have v0 : w4.cell? ⟨w.heap.size, 0, none⟩ = some c0 := by rw [block_cell G9.out]; rfl
  have v1 : w4.cell? ⟨w.heap.size, 1, none⟩ = some c1 := by rw [block_cell G9.out]; rfl
  have v2 : w4.cell? ⟨w.heap.size, 2, none⟩ = some c2 := by rw [block_cell G9.out]; rfl
  have v3 : w4.cell? ⟨w.heap.size, 3, none⟩ = some c3 := by rw [block_cell G9.out]; rfl
  have v4 : w4.cell? ⟨w.heap.size, 4, none⟩ = some c4 := by rw [block_cell G9.out]; rfl
  have v5 : w4.cell? ⟨w.heap.size, 5, none⟩ = some c5 := by rw [block_cell G9.out]; rfl
  have v6 : w4.cell? ⟨w.heap.size, 6, none⟩ = some c6 := by rw [block_cell G9.out]; rfl
  have v7 : w4.cell? ⟨w.heap.size, 7, none⟩ = some c7 := by rw [block_cell G9.out]; rfl
  have v8 : w4.cell? ⟨w.heap.size, 8, none⟩ = some c8 := by rw [block_cell G9.out]; rfl
  have y0 : w4.cell? ⟨w.heap.size + 1, 0, none⟩ = some a0 := by rw [block_cell G10.out]; rfl
  have y1 : w4.cell? ⟨w.heap.size + 1, 1, none⟩ = some a1 := by rw [block_cell G10.out]; rfl
  have y2 : w4.cell? ⟨w.heap.size + 1, 2, none⟩ = some a2 := by rw [block_cell G10.out]; rfl
  have y3 : w4.cell? ⟨w.heap.size + 1, 3, none⟩ = some a3 := by rw [block_cell G10.out]; rfl
  have y4 : w4.cell? ⟨w.heap.size + 1, 4, none⟩ = some a4 := by rw [block_cell G10.out]; rfl
  have y5 : w4.cell? ⟨w.heap.size + 1, 5, none⟩ = some a5 := by rw [block_cell G10.out]; rfl
  have y6 : w4.cell? ⟨w.heap.size + 1, 6, none⟩ = some a6 := by rw [block_cell G10.out]; rfl
  have y7 : w4.cell? ⟨w.heap.size + 1, 7, none⟩ = some a7 := by rw [block_cell G10.out]; rfl
  have y8 : w4.cell? ⟨w.heap.size + 1, 8, none⟩ = some a8 := by rw [block_cell G10.out]; rfl
  go_wp2_with fail
  refine (cR.out HN.out _ HB4.out).mono ?_
  rintro e w5 ⟨⟨M, mc, rfl, p5⟩, B1⟩
  have HB5 := Lib.hid (low17 HB4.out B1)
  have G11 := Lib.hid ((B1.block _ (block_lt G9.out)).trans G9.out)
  have G12 := Lib.hid ((B1.block _ (block_lt G10.out)).trans G10.out)
  have P5 := Lib.hid (P4.out.up B1)
  have Q5 := Lib.hid p5
  clear B1 cR HB4 G9 G10 v0 y0 v1 y1 v2 y2 v3 y3 v4 y4 v5 y5 v6 y6 v7 y7 v8 y8 P4 p5
  have v0 : w5.cell? ⟨w.heap.size, 0, none⟩ = some c0 := by rw [block_cell G11.out]; rfl
  have v1 : w5.cell? ⟨w.heap.size, 1, none⟩ = some c1 := by rw [block_cell G11.out]; rfl
  have v2 : w5.cell? ⟨w.heap.size, 2, none⟩ = some c2 := by rw [block_cell G11.out]; rfl
  have v3 : w5.cell? ⟨w.heap.size, 3, none⟩ = some c3 := by rw [block_cell G11.out]; rfl
  have v4 : w5.cell? ⟨w.heap.size, 4, none⟩ = some c4 := by rw [block_cell G11.out]; rfl
  have v5 : w5.cell? ⟨w.heap.size, 5, none⟩ = some c5 := by rw [block_cell G11.out]; rfl
  have v6 : w5.cell? ⟨w.heap.size, 6, none⟩ = some c6 := by rw [block_cell G11.out]; rfl
  have v7 : w5.cell? ⟨w.heap.size, 7, none⟩ = some c7 := by rw [block_cell G11.out]; rfl
  have v8 : w5.cell? ⟨w.heap.size, 8, none⟩ = some c8 := by rw [block_cell G11.out]; rfl
  have y0 : w5.cell? ⟨w.heap.size + 1, 0, none⟩ = some a0 := by rw [block_cell G12.out]; rfl
  have y1 : w5.cell? ⟨w.heap.size + 1, 1, none⟩ = some a1 := by rw [block_cell G12.out]; rfl
  have y2 : w5.cell? ⟨w.heap.size + 1, 2, none⟩ = some a2 := by rw [block_cell G12.out]; rfl
  have y3 : w5.cell? ⟨w.heap.size + 1, 3, none⟩ = some a3 := by rw [block_cell G12.out]; rfl
  have y4 : w5.cell? ⟨w.heap.size + 1, 4, none⟩ = some a4 := by rw [block_cell G12.out]; rfl
  have y5 : w5.cell? ⟨w.heap.size + 1, 5, none⟩ = some a5 := by rw [block_cell G12.out]; rfl
  have y6 : w5.cell? ⟨w.heap.size + 1, 6, none⟩ = some a6 := by rw [block_cell G12.out]; rfl
  have y7 : w5.cell? ⟨w.heap.size + 1, 7, none⟩ = some a7 := by rw [block_cell G12.out]; rfl
  have y8 : w5.cell? ⟨w.heap.size + 1, 8, none⟩ = some a8 := by rw [block_cell G12.out]; rfl
  go_wp2_with fail
  refine (cE.out HN.out _ HB5.out).mono ?_
  rintro e w6 ⟨⟨K, kc, rfl, p6⟩, B1⟩
  have HB6 := Lib.hid (low17 HB5.out B1)
  have G13 := Lib.hid ((B1.block _ (block_lt G11.out)).trans G11.out)
  have G14 := Lib.hid ((B1.block _ (block_lt G12.out)).trans G12.out)
  have P6 := Lib.hid (P5.out.up B1)
  have Q6 := Lib.hid (Q5.out.up B1)
  have hsh := HSH.out
  have hn := HN.out
  have cP := Lib.hid (samePaths_any L (r.getD []).length lc _ M (r.getD []).length mc _ w6 P6.out Q6.out (by omega) (fun z hz => Nat.le_trans (hsh.2 z hz) hn) (fun z hz => Nat.le_trans (hsh.2 z hz) hn))
  rw [show decide (r.getD [] = r.getD []) = true from decide_eq_true rfl] at cP
  obtain ⟨z, hz⟩ : ∃ z, z = (r.getD []).length := ⟨_, rfl⟩
  obtain ⟨b, hb⟩ : ∃ b, b = r.isSome := ⟨_, rfl⟩
  rw [← hz] at cP ⊢
  rw [← hb] at ⊢
  have HH : Hid ((s = true ∧ b = true ∧ z = 0) ∨ (s = false ∧ b = false) ∨ (s = false ∧ b = true ∧ 0 < z)) := by
    rw [hb, hz]
    rcases HCS.out with ⟨h1, h2⟩ | ⟨h1, h2⟩
    · subst h2; exact .inl ⟨h1, rfl, rfl⟩
    · cases r with
      | none => exact .inr (.inl ⟨h1, rfl⟩)
      | some ls =>
        refine .inr (.inr ⟨h1, rfl, ?_⟩)
        cases ls with
        | nil => exact absurd rfl h2
        | cons => exact Nat.succ_pos _
  clear B1 cE HB5 G11 G12 v0 y0 v1 y1 v2 y2 v3 y3 v4 y4 v5 y5 v6 y6 v7 y7 v8 y8 P5 Q5 P6 Q6 p6 hsh hn hz hb HSH HCS
  rcases HH.out with ⟨rfl, rfl, rfl⟩ | ⟨rfl, rfl⟩ | ⟨rfl, rfl, h3⟩
  · clear HH
    go_wp2_with fail
    refine (cP.out).mono ?_
    rintro e w7 ⟨rfl, B1⟩
    have HB7 := Lib.hid (low17 HB6.out B1)
    have g15 := (B1.block _ (block_lt G13.out)).trans G13.out
    have g16 := (B1.block _ (block_lt G14.out)).trans G14.out
    have G15 := Lib.hid g15
    have G16 := Lib.hid g16
    clear B1 cP HB6 G13 G14 g15 g16
    have v0 : w7.cell? ⟨w.heap.size, 0, none⟩ = some c0 := by rw [block_cell G15.out]; rfl
    have v1 : w7.cell? ⟨w.heap.size, 1, none⟩ = some c1 := by rw [block_cell G15.out]; rfl
    have v2 : w7.cell? ⟨w.heap.size, 2, none⟩ = some c2 := by rw [block_cell G15.out]; rfl
    have v3 : w7.cell? ⟨w.heap.size, 3, none⟩ = some c3 := by rw [block_cell G15.out]; rfl
    have v4 : w7.cell? ⟨w.heap.size, 4, none⟩ = some c4 := by rw [block_cell G15.out]; rfl
    have v5 : w7.cell? ⟨w.heap.size, 5, none⟩ = some c5 := by rw [block_cell G15.out]; rfl
    have v6 : w7.cell? ⟨w.heap.size, 6, none⟩ = some c6 := by rw [block_cell G15.out]; rfl
    have v7 : w7.cell? ⟨w.heap.size, 7, none⟩ = some c7 := by rw [block_cell G15.out]; rfl
    have v8 : w7.cell? ⟨w.heap.size, 8, none⟩ = some c8 := by rw [block_cell G15.out]; rfl
    have y0 : w7.cell? ⟨w.heap.size + 1, 0, none⟩ = some a0 := by rw [block_cell G16.out]; rfl
    have y1 : w7.cell? ⟨w.heap.size + 1, 1, none⟩ = some a1 := by rw [block_cell G16.out]; rfl
    have y2 : w7.cell? ⟨w.heap.size + 1, 2, none⟩ = some a2 := by rw [block_cell G16.out]; rfl
    have y3 : w7.cell? ⟨w.heap.size + 1, 3, none⟩ = some a3 := by rw [block_cell G16.out]; rfl
    have y4 : w7.cell? ⟨w.heap.size + 1, 4, none⟩ = some a4 := by rw [block_cell G16.out]; rfl
    have y5 : w7.cell? ⟨w.heap.size + 1, 5, none⟩ = some a5 := by rw [block_cell G16.out]; rfl
    have y6 : w7.cell? ⟨w.heap.size + 1, 6, none⟩ = some a6 := by rw [block_cell G16.out]; rfl
    have y7 : w7.cell? ⟨w.heap.size + 1, 7, none⟩ = some a7 := by rw [block_cell G16.out]; rfl
    have y8 : w7.cell? ⟨w.heap.size + 1, 8, none⟩ = some a8 := by rw [block_cell G16.out]; rfl
    go_wp2_with fail
    refine (cS.out _ HB7.out).mono ?_
    rintro e w8 ⟨rfl, B1⟩
    have HB8 := Lib.hid (low17 HB7.out B1)
    clear B1 cS HB7 G15 G16 v0 y0 v1 y1 v2 y2 v3 y3 v4 y4 v5 y5 v6 y6 v7 y7 v8 y8
    go_wp2_with fail
    go_ret
    exact ⟨rfl, HB8.out⟩
  · clear HH
    go_wp2_with fail
    refine (cP.out).mono ?_
    rintro e w7 ⟨rfl, B1⟩
    have HB7 := Lib.hid (low17 HB6.out B1)
    have g15 := (B1.block _ (block_lt G13.out)).trans G13.out
    have g16 := (B1.block _ (block_lt G14.out)).trans G14.out
    have G15 := Lib.hid g15
    have G16 := Lib.hid g16
    clear B1 cP HB6 G13 G14 g15 g16
    have v0 : w7.cell? ⟨w.heap.size, 0, none⟩ = some c0 := by rw [block_cell G15.out]; rfl
    have v1 : w7.cell? ⟨w.heap.size, 1, none⟩ = some c1 := by rw [block_cell G15.out]; rfl
    have v2 : w7.cell? ⟨w.heap.size, 2, none⟩ = some c2 := by rw [block_cell G15.out]; rfl
    have v3 : w7.cell? ⟨w.heap.size, 3, none⟩ = some c3 := by rw [block_cell G15.out]; rfl
    have v4 : w7.cell? ⟨w.heap.size, 4, none⟩ = some c4 := by rw [block_cell G15.out]; rfl
    have v5 : w7.cell? ⟨w.heap.size, 5, none⟩ = some c5 := by rw [block_cell G15.out]; rfl
    have v6 : w7.cell? ⟨w.heap.size, 6, none⟩ = some c6 := by rw [block_cell G15.out]; rfl
    have v7 : w7.cell? ⟨w.heap.size, 7, none⟩ = some c7 := by rw [block_cell G15.out]; rfl
    have v8 : w7.cell? ⟨w.heap.size, 8, none⟩ = some c8 := by rw [block_cell G15.out]; rfl
    have y0 : w7.cell? ⟨w.heap.size + 1, 0, none⟩ = some a0 := by rw [block_cell G16.out]; rfl
    have y1 : w7.cell? ⟨w.heap.size + 1, 1, none⟩ = some a1 := by rw [block_cell G16.out]; rfl
    have y2 : w7.cell? ⟨w.heap.size + 1, 2, none⟩ = some a2 := by rw [block_cell G16.out]; rfl
    have y3 : w7.cell? ⟨w.heap.size + 1, 3, none⟩ = some a3 := by rw [block_cell G16.out]; rfl
    have y4 : w7.cell? ⟨w.heap.size + 1, 4, none⟩ = some a4 := by rw [block_cell G16.out]; rfl
    have y5 : w7.cell? ⟨w.heap.size + 1, 5, none⟩ = some a5 := by rw [block_cell G16.out]; rfl
    have y6 : w7.cell? ⟨w.heap.size + 1, 6, none⟩ = some a6 := by rw [block_cell G16.out]; rfl
    have y7 : w7.cell? ⟨w.heap.size + 1, 7, none⟩ = some a7 := by rw [block_cell G16.out]; rfl
    have y8 : w7.cell? ⟨w.heap.size + 1, 8, none⟩ = some a8 := by rw [block_cell G16.out]; rfl
    go_wp2_with fail
    refine (cS.out _ HB7.out).mono ?_
    rintro e w8 ⟨rfl, B1⟩
    have HB8 := Lib.hid (low17 HB7.out B1)
    clear B1 cS HB7 G15 G16 v0 y0 v1 y1 v2 y2 v3 y3 v4 y4 v5 y5 v6 y6 v7 y7 v8 y8
    go_wp2_with fail
    go_ret
    exact ⟨rfl, HB8.out⟩
  · have e1 : ((z : Int) == 0) = false := beq_eq_false_iff_ne.2 (by omega)
    have e2 : (z == 0) = false := beq_eq_false_iff_ne.2 (by omega)
    clear HH
    go_wp2_with fail
    refine (cP.out).mono ?_
    rintro e w7 ⟨rfl, B1⟩
    have HB7 := Lib.hid (low17 HB6.out B1)
    have g15 := (B1.block _ (block_lt G13.out)).trans G13.out
    have g16 := (B1.block _ (block_lt G14.out)).trans G14.out
    have G15 := Lib.hid g15
    have G16 := Lib.hid g16
    clear B1 cP HB6 G13 G14 g15 g16
    have v0 : w7.cell? ⟨w.heap.size, 0, none⟩ = some c0 := by rw [block_cell G15.out]; rfl
    have v1 : w7.cell? ⟨w.heap.size, 1, none⟩ = some c1 := by rw [block_cell G15.out]; rfl
    have v2 : w7.cell? ⟨w.heap.size, 2, none⟩ = some c2 := by rw [block_cell G15.out]; rfl
    have v3 : w7.cell? ⟨w.heap.size, 3, none⟩ = some c3 := by rw [block_cell G15.out]; rfl
    have v4 : w7.cell? ⟨w.heap.size, 4, none⟩ = some c4 := by rw [block_cell G15.out]; rfl
    have v5 : w7.cell? ⟨w.heap.size, 5, none⟩ = some c5 := by rw [block_cell G15.out]; rfl
    have v6 : w7.cell? ⟨w.heap.size, 6, none⟩ = some c6 := by rw [block_cell G15.out]; rfl
    have v7 : w7.cell? ⟨w.heap.size, 7, none⟩ = some c7 := by rw [block_cell G15.out]; rfl
    have v8 : w7.cell? ⟨w.heap.size, 8, none⟩ = some c8 := by rw [block_cell G15.out]; rfl
    have y0 : w7.cell? ⟨w.heap.size + 1, 0, none⟩ = some a0 := by rw [block_cell G16.out]; rfl
    have y1 : w7.cell? ⟨w.heap.size + 1, 1, none⟩ = some a1 := by rw [block_cell G16.out]; rfl
    have y2 : w7.cell? ⟨w.heap.size + 1, 2, none⟩ = some a2 := by rw [block_cell G16.out]; rfl
    have y3 : w7.cell? ⟨w.heap.size + 1, 3, none⟩ = some a3 := by rw [block_cell G16.out]; rfl
    have y4 : w7.cell? ⟨w.heap.size + 1, 4, none⟩ = some a4 := by rw [block_cell G16.out]; rfl
    have y5 : w7.cell? ⟨w.heap.size + 1, 5, none⟩ = some a5 := by rw [block_cell G16.out]; rfl
    have y6 : w7.cell? ⟨w.heap.size + 1, 6, none⟩ = some a6 := by rw [block_cell G16.out]; rfl
    have y7 : w7.cell? ⟨w.heap.size + 1, 7, none⟩ = some a7 := by rw [block_cell G16.out]; rfl
    have y8 : w7.cell? ⟨w.heap.size + 1, 8, none⟩ = some a8 := by rw [block_cell G16.out]; rfl
    go_wp2_with fail
    refine (cS.out _ HB7.out).mono ?_
    rintro e w8 ⟨rfl, B1⟩
    have HB8 := Lib.hid (low17 HB7.out B1)
    clear B1 cS HB7 G15 G16 v0 y0 v1 y1 v2 y2 v3 y3 v4 y4 v5 y5 v6 y6 v7 y7 v8 y8
    go_wp2_with fail
    go_ret
    exact ⟨rfl, HB8.out⟩
end Go.Proofs.Ytmkgcifcfgfegaa
