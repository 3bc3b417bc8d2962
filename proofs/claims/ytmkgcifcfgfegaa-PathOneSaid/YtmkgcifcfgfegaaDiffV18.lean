/-
  What Diff does, the program's and the document's (chapter 18), for every two trees; no condition but bounds.
-/
import Derived.Test.YtmkgcifcfgfegaaRefDiff18
import Derived.Test.YtmkgcifcfgfegaaDiff18
import Derived.Test.YtmkgcifcfgfegaaPaths18
namespace Go.Proofs.Ytmkgcifcfgfegaa
set_option maxRecDepth 100000
open Go.RowKit

/-- The answer of Diff. -/
def AnsD (w : World) (r : Option (List (List Int))) (e : Ending) (w' : World) : Prop :=
  (∃ A c, e = .returned (.tuple #[.slice A (r.getD []).length c, .bool r.isSome]) ∧ PathsAt w' A (r.getD []).length (r.getD [])) ∧ Below w.heap.size w w'
theorem TreeAt.low {w w' : World} {t : Tree} {cs : List Value} (h : TreeAt w (· < w.heap.size) t cs) (hb : Below w.heap.size w w') : TreeAt w' (· < w'.heap.size) t cs :=
  TreeAt.weaken (fun _ hk => Nat.lt_of_lt_of_le hk hb.size) _ _ (TreeAt.keep (fun k hk => hb.block k hk) _ _ h)
theorem ansD_form {w w' : World} {M : Nat → Prop} {r : Option (List (List Int))} {e : Ending} (h : AnsDL w M r e w') : AnsD w r e w' := by
  obtain ⟨h1, h2⟩ := h
  refine ⟨?_, h2⟩
  cases r with
  | none => exact ⟨none, 0, h1, rfl, [], fun h => absurd h (Nat.lt_irrefl _), trivial⟩
  | some ls =>
    obtain ⟨A, n, c, xs, h1, h3, h4⟩ := h1
    have hn : n = ls.length := by have a := h3.1; have b := h4.len; omega
    subst hn
    exact ⟨A, c, h1, rfl, xs, lie_own h3, RowsI.turn (fun _ _ => rfl) (fun b hb => hb.2.1) h4⟩
set_option maxHeartbeats 4000000 in
theorem refDiffV_any (t u : Tree) (cs ds : List Value) (w : World) (hc : cntT t ≤ 1000000) (hT : TreeAt w (· < w.heap.size) t cs) (hU : TreeAt w (· < w.heap.size) u ds) :
    Calls Try.prog 19 #[.agg cs.toArray, .agg ds.toArray] w (AnsD w (diffT t u [])) := by
  obtain ⟨o, l⟩ := t
  obtain ⟨q, m⟩ := u
  obtain ⟨Ab, cb, Ak, ck, rfl, _, _, _, _⟩ := hT.open_
  obtain ⟨Bb, db, Bk, dk, rfl, _, _, _, _⟩ := hU.open_
  have B2 : Below w.heap.size w ((w.alloc (.cells #[.int .i64 o.kind, .int .u64 (o.bits : Int), .int .u64 (o.high : Int), .int .u64 (o.low : Int), .string ⟨o.text.toArray⟩, .string ⟨o.more.toArray⟩, .int .i64 o.sub, .slice Ab o.bytes.length cb, .slice Ak l.length ck] 26)).alloc (.cells #[.int .i64 q.kind, .int .u64 (q.bits : Int), .int .u64 (q.high : Int), .int .u64 (q.low : Int), .string ⟨q.text.toArray⟩, .string ⟨q.more.toArray⟩, .int .i64 q.sub, .slice Bb q.bytes.length db, .slice Bk m.length dk] 26)) := two_new2 _ _ _
  have g1 : ((w.alloc (.cells #[.int .i64 o.kind, .int .u64 (o.bits : Int), .int .u64 (o.high : Int), .int .u64 (o.low : Int), .string ⟨o.text.toArray⟩, .string ⟨o.more.toArray⟩, .int .i64 o.sub, .slice Ab o.bytes.length cb, .slice Ak l.length ck] 26)).alloc (.cells #[.int .i64 q.kind, .int .u64 (q.bits : Int), .int .u64 (q.high : Int), .int .u64 (q.low : Int), .string ⟨q.text.toArray⟩, .string ⟨q.more.toArray⟩, .int .i64 q.sub, .slice Bb q.bytes.length db, .slice Bk m.length dk] 26)).heap[w.heap.size + 1]? = some (.cells #[.int .i64 q.kind, .int .u64 (q.bits : Int), .int .u64 (q.high : Int), .int .u64 (q.low : Int), .string ⟨q.text.toArray⟩, .string ⟨q.more.toArray⟩, .int .i64 q.sub, .slice Bb q.bytes.length db, .slice Bk m.length dk] 26) := heap_two2 _ _ _
  have g0 : ((w.alloc (.cells #[.int .i64 o.kind, .int .u64 (o.bits : Int), .int .u64 (o.high : Int), .int .u64 (o.low : Int), .string ⟨o.text.toArray⟩, .string ⟨o.more.toArray⟩, .int .i64 o.sub, .slice Ab o.bytes.length cb, .slice Ak l.length ck] 26)).alloc (.cells #[.int .i64 q.kind, .int .u64 (q.bits : Int), .int .u64 (q.high : Int), .int .u64 (q.low : Int), .string ⟨q.text.toArray⟩, .string ⟨q.more.toArray⟩, .int .i64 q.sub, .slice Bb q.bytes.length db, .slice Bk m.length dk] 26)).heap[w.heap.size]? = some (.cells #[.int .i64 o.kind, .int .u64 (o.bits : Int), .int .u64 (o.high : Int), .int .u64 (o.low : Int), .string ⟨o.text.toArray⟩, .string ⟨o.more.toArray⟩, .int .i64 o.sub, .slice Ab o.bytes.length cb, .slice Ak l.length ck] 26) := (Below.heap_alloc _ _ _ (by simp)).trans (heap_alloc_new w _)
  have s2 : ((w.alloc (.cells #[.int .i64 o.kind, .int .u64 (o.bits : Int), .int .u64 (o.high : Int), .int .u64 (o.low : Int), .string ⟨o.text.toArray⟩, .string ⟨o.more.toArray⟩, .int .i64 o.sub, .slice Ab o.bytes.length cb, .slice Ak l.length ck] 26)).alloc (.cells #[.int .i64 q.kind, .int .u64 (q.bits : Int), .int .u64 (q.high : Int), .int .u64 (q.low : Int), .string ⟨q.text.toArray⟩, .string ⟨q.more.toArray⟩, .int .i64 q.sub, .slice Bb q.bytes.length db, .slice Bk m.length dk] 26)).heap.size = w.heap.size + 2 := by simp
  have tA := TreeAt.low hT B2
  have tB := TreeAt.low hU B2
  have cC := Lib.hid (refdiff_any (.node o l) _ (.node q m) _ none 0 0 [] _ (fun _ => False) (fun _ h => h.elim) hc tA tB ⟨rfl, fun h => absurd h (Nat.lt_irrefl _)⟩ (Nat.le_refl _))
  obtain ⟨P, hr⟩ : ∃ r, r = diffT (.node o l) (.node q m) [] := ⟨_, rfl⟩
  rw [← hr] at cC ⊢
  have HB2 := Lib.hid B2
  have G0 := Lib.hid g0
  have G1 := Lib.hid g1
  clear hr hT hU hc tA tB B2 g0 g1 s2
  unfold cellsV at *
  go_enter Try.func19, Try.ntmps19
  go_upto_region 1 with fail
  generalize ((w.alloc (.cells #[.int .i64 o.kind, .int .u64 (o.bits : Int), .int .u64 (o.high : Int), .int .u64 (o.low : Int), .string ⟨o.text.toArray⟩, .string ⟨o.more.toArray⟩, .int .i64 o.sub, .slice Ab o.bytes.length cb, .slice Ak l.length ck] 26)).alloc (.cells #[.int .i64 q.kind, .int .u64 (q.bits : Int), .int .u64 (q.high : Int), .int .u64 (q.low : Int), .string ⟨q.text.toArray⟩, .string ⟨q.more.toArray⟩, .int .i64 q.sub, .slice Bb q.bytes.length db, .slice Bk m.length dk] 26)) = W at *
  have x0 : W.cell? ⟨w.heap.size, 0, none⟩ = some (.int .i64 o.kind) := by rw [block_cell G0.out]; rfl
  have x1 : W.cell? ⟨w.heap.size, 1, none⟩ = some (.int .u64 (o.bits : Int)) := by rw [block_cell G0.out]; rfl
  have x2 : W.cell? ⟨w.heap.size, 2, none⟩ = some (.int .u64 (o.high : Int)) := by rw [block_cell G0.out]; rfl
  have x3 : W.cell? ⟨w.heap.size, 3, none⟩ = some (.int .u64 (o.low : Int)) := by rw [block_cell G0.out]; rfl
  have x4 : W.cell? ⟨w.heap.size, 4, none⟩ = some (.string ⟨o.text.toArray⟩) := by rw [block_cell G0.out]; rfl
  have x5 : W.cell? ⟨w.heap.size, 5, none⟩ = some (.string ⟨o.more.toArray⟩) := by rw [block_cell G0.out]; rfl
  have x6 : W.cell? ⟨w.heap.size, 6, none⟩ = some (.int .i64 o.sub) := by rw [block_cell G0.out]; rfl
  have x7 : W.cell? ⟨w.heap.size, 7, none⟩ = some (.slice Ab o.bytes.length cb) := by rw [block_cell G0.out]; rfl
  have x8 : W.cell? ⟨w.heap.size, 8, none⟩ = some (.slice Ak l.length ck) := by rw [block_cell G0.out]; rfl
  have y0 : W.cell? ⟨w.heap.size + 1, 0, none⟩ = some (.int .i64 q.kind) := by rw [block_cell G1.out]; rfl
  have y1 : W.cell? ⟨w.heap.size + 1, 1, none⟩ = some (.int .u64 (q.bits : Int)) := by rw [block_cell G1.out]; rfl
  have y2 : W.cell? ⟨w.heap.size + 1, 2, none⟩ = some (.int .u64 (q.high : Int)) := by rw [block_cell G1.out]; rfl
  have y3 : W.cell? ⟨w.heap.size + 1, 3, none⟩ = some (.int .u64 (q.low : Int)) := by rw [block_cell G1.out]; rfl
  have y4 : W.cell? ⟨w.heap.size + 1, 4, none⟩ = some (.string ⟨q.text.toArray⟩) := by rw [block_cell G1.out]; rfl
  have y5 : W.cell? ⟨w.heap.size + 1, 5, none⟩ = some (.string ⟨q.more.toArray⟩) := by rw [block_cell G1.out]; rfl
  have y6 : W.cell? ⟨w.heap.size + 1, 6, none⟩ = some (.int .i64 q.sub) := by rw [block_cell G1.out]; rfl
  have y7 : W.cell? ⟨w.heap.size + 1, 7, none⟩ = some (.slice Bb q.bytes.length db) := by rw [block_cell G1.out]; rfl
  have y8 : W.cell? ⟨w.heap.size + 1, 8, none⟩ = some (.slice Bk m.length dk) := by rw [block_cell G1.out]; rfl
  go_wp2_with fail
  refine (cC.out).mono ?_
  rintro e w1 hans
  obtain ⟨⟨A, c, rfl, hp⟩, B1⟩ := ansD_form hans
  have HB1 := Lib.hid (low17 HB2.out B1)
  have HPP := Lib.hid hp
  clear hans hp B1 cC HB2 G0 G1 x0 y0 x1 y1 x2 y2 x3 y3 x4 y4 x5 y5 x6 y6 x7 y7 x8 y8
  go_wp2_with fail
  go_ret2
  exact ⟨⟨A, c, rfl, HPP.out⟩, HB1.out⟩
set_option maxHeartbeats 4000000 in
theorem diffV_any (t u : Tree) (cs ds : List Value) (w : World) (hc : cntT t ≤ 1000000) (hT : TreeAt w (· < w.heap.size) t cs) (hU : TreeAt w (· < w.heap.size) u ds) :
    Calls Try.prog 18 #[.agg cs.toArray, .agg ds.toArray] w (AnsD w (diffT t u [])) := by
  obtain ⟨o, l⟩ := t
  obtain ⟨q, m⟩ := u
  obtain ⟨Ab, cb, Ak, ck, rfl, _, _, _, _⟩ := hT.open_
  obtain ⟨Bb, db, Bk, dk, rfl, _, _, _, _⟩ := hU.open_
  have B2 : Below w.heap.size w ((w.alloc (.cells #[.int .i64 o.kind, .int .u64 (o.bits : Int), .int .u64 (o.high : Int), .int .u64 (o.low : Int), .string ⟨o.text.toArray⟩, .string ⟨o.more.toArray⟩, .int .i64 o.sub, .slice Ab o.bytes.length cb, .slice Ak l.length ck] 26)).alloc (.cells #[.int .i64 q.kind, .int .u64 (q.bits : Int), .int .u64 (q.high : Int), .int .u64 (q.low : Int), .string ⟨q.text.toArray⟩, .string ⟨q.more.toArray⟩, .int .i64 q.sub, .slice Bb q.bytes.length db, .slice Bk m.length dk] 26)) := two_new2 _ _ _
  have g1 : ((w.alloc (.cells #[.int .i64 o.kind, .int .u64 (o.bits : Int), .int .u64 (o.high : Int), .int .u64 (o.low : Int), .string ⟨o.text.toArray⟩, .string ⟨o.more.toArray⟩, .int .i64 o.sub, .slice Ab o.bytes.length cb, .slice Ak l.length ck] 26)).alloc (.cells #[.int .i64 q.kind, .int .u64 (q.bits : Int), .int .u64 (q.high : Int), .int .u64 (q.low : Int), .string ⟨q.text.toArray⟩, .string ⟨q.more.toArray⟩, .int .i64 q.sub, .slice Bb q.bytes.length db, .slice Bk m.length dk] 26)).heap[w.heap.size + 1]? = some (.cells #[.int .i64 q.kind, .int .u64 (q.bits : Int), .int .u64 (q.high : Int), .int .u64 (q.low : Int), .string ⟨q.text.toArray⟩, .string ⟨q.more.toArray⟩, .int .i64 q.sub, .slice Bb q.bytes.length db, .slice Bk m.length dk] 26) := heap_two2 _ _ _
  have g0 : ((w.alloc (.cells #[.int .i64 o.kind, .int .u64 (o.bits : Int), .int .u64 (o.high : Int), .int .u64 (o.low : Int), .string ⟨o.text.toArray⟩, .string ⟨o.more.toArray⟩, .int .i64 o.sub, .slice Ab o.bytes.length cb, .slice Ak l.length ck] 26)).alloc (.cells #[.int .i64 q.kind, .int .u64 (q.bits : Int), .int .u64 (q.high : Int), .int .u64 (q.low : Int), .string ⟨q.text.toArray⟩, .string ⟨q.more.toArray⟩, .int .i64 q.sub, .slice Bb q.bytes.length db, .slice Bk m.length dk] 26)).heap[w.heap.size]? = some (.cells #[.int .i64 o.kind, .int .u64 (o.bits : Int), .int .u64 (o.high : Int), .int .u64 (o.low : Int), .string ⟨o.text.toArray⟩, .string ⟨o.more.toArray⟩, .int .i64 o.sub, .slice Ab o.bytes.length cb, .slice Ak l.length ck] 26) := (Below.heap_alloc _ _ _ (by simp)).trans (heap_alloc_new w _)
  have s2 : ((w.alloc (.cells #[.int .i64 o.kind, .int .u64 (o.bits : Int), .int .u64 (o.high : Int), .int .u64 (o.low : Int), .string ⟨o.text.toArray⟩, .string ⟨o.more.toArray⟩, .int .i64 o.sub, .slice Ab o.bytes.length cb, .slice Ak l.length ck] 26)).alloc (.cells #[.int .i64 q.kind, .int .u64 (q.bits : Int), .int .u64 (q.high : Int), .int .u64 (q.low : Int), .string ⟨q.text.toArray⟩, .string ⟨q.more.toArray⟩, .int .i64 q.sub, .slice Bb q.bytes.length db, .slice Bk m.length dk] 26)).heap.size = w.heap.size + 2 := by simp
  have tA := TreeAt.low hT B2
  have tB := TreeAt.low hU B2
  have V1 : ValAt ((w.alloc (.cells #[.int .i64 o.kind, .int .u64 (o.bits : Int), .int .u64 (o.high : Int), .int .u64 (o.low : Int), .string ⟨o.text.toArray⟩, .string ⟨o.more.toArray⟩, .int .i64 o.sub, .slice Ab o.bytes.length cb, .slice Ak l.length ck] 26)).alloc (.cells #[.int .i64 q.kind, .int .u64 (q.bits : Int), .int .u64 (q.high : Int), .int .u64 (q.low : Int), .string ⟨q.text.toArray⟩, .string ⟨q.more.toArray⟩, .int .i64 q.sub, .slice Bb q.bytes.length db, .slice Bk m.length dk] 26)) (· < w.heap.size + 2) w.heap.size 0 (.node o l) := ⟨by omega, _, rfl, fun j hj => by rw [block_cell g0, Nat.zero_add, List.getElem?_toArray], by rw [s2] at tA; exact tA⟩
  have V2 : ValAt ((w.alloc (.cells #[.int .i64 o.kind, .int .u64 (o.bits : Int), .int .u64 (o.high : Int), .int .u64 (o.low : Int), .string ⟨o.text.toArray⟩, .string ⟨o.more.toArray⟩, .int .i64 o.sub, .slice Ab o.bytes.length cb, .slice Ak l.length ck] 26)).alloc (.cells #[.int .i64 q.kind, .int .u64 (q.bits : Int), .int .u64 (q.high : Int), .int .u64 (q.low : Int), .string ⟨q.text.toArray⟩, .string ⟨q.more.toArray⟩, .int .i64 q.sub, .slice Bb q.bytes.length db, .slice Bk m.length dk] 26)) (· < w.heap.size + 2) (w.heap.size + 1) 0 (.node q m) := ⟨by omega, _, rfl, fun j hj => by rw [block_cell g1, Nat.zero_add, List.getElem?_toArray], by rw [s2] at tB; exact tB⟩
  have cS := Lib.hid (shape_any (.node o l) w.heap.size 0 (.node q m) (w.heap.size + 1) 0 ((w.alloc (.cells #[.int .i64 o.kind, .int .u64 (o.bits : Int), .int .u64 (o.high : Int), .int .u64 (o.low : Int), .string ⟨o.text.toArray⟩, .string ⟨o.more.toArray⟩, .int .i64 o.sub, .slice Ab o.bytes.length cb, .slice Ak l.length ck] 26)).alloc (.cells #[.int .i64 q.kind, .int .u64 (q.bits : Int), .int .u64 (q.high : Int), .int .u64 (q.low : Int), .string ⟨q.text.toArray⟩, .string ⟨q.more.toArray⟩, .int .i64 q.sub, .slice Bb q.bytes.length db, .slice Bk m.length dk] 26)) (by rw [s2]; exact V1) (by rw [s2]; exact V2))
  rw [diff_parts]
  have hfew := parts_few (.node o l) (.node q m) []
  obtain ⟨b, hb⟩ : ∃ b, b = shapeT (.node o l) (.node q m) := ⟨_, rfl⟩
  rw [← hb] at cS ⊢
  have HSH := Lib.hid hb
  obtain ⟨P, hP⟩ : ∃ P, P = partsT (.node o l) (.node q m) [] := ⟨_, rfl⟩
  rw [← hP]
  have HP := Lib.hid hP
  obtain ⟨r, hr⟩ : ∃ r, r = if b = true then some P else none := ⟨_, rfl⟩
  rw [← hr]
  have HRR := Lib.hid hr
  have HB2 := Lib.hid B2
  have HS2 := Lib.hid s2
  have HV1 := Lib.hid V1
  have HV2 := Lib.hid V2
  have HC := Lib.hid hc
  clear hT hU hc tA tB B2 g0 g1 s2 V1 V2 hb hP hfew hr
  unfold cellsV at *
  go_enter Try.func18, Try.ntmps18
  go_upto_region 1 with fail
  generalize ((w.alloc (.cells #[.int .i64 o.kind, .int .u64 (o.bits : Int), .int .u64 (o.high : Int), .int .u64 (o.low : Int), .string ⟨o.text.toArray⟩, .string ⟨o.more.toArray⟩, .int .i64 o.sub, .slice Ab o.bytes.length cb, .slice Ak l.length ck] 26)).alloc (.cells #[.int .i64 q.kind, .int .u64 (q.bits : Int), .int .u64 (q.high : Int), .int .u64 (q.low : Int), .string ⟨q.text.toArray⟩, .string ⟨q.more.toArray⟩, .int .i64 q.sub, .slice Bb q.bytes.length db, .slice Bk m.length dk] 26)) = W at *
  go_wp2_with fail
  refine (cS.out).mono ?_
  rintro e w1 ⟨rfl, B1⟩
  have HB1 := Lib.hid (low17 HB2.out B1)
  have hs2 := HS2.out
  have hz1 := B1.size
  have HW1 := Lib.hid (HV1.out.keep (fun k hk => B1.block k (by omega)))
  have HW2 := Lib.hid (HV2.out.keep (fun k hk => B1.block k (by omega)))
  have HS1 : Hid (w.heap.size + 2 ≤ w1.heap.size) := show _ ≤ _ by omega
  clear B1 cS HB2 HS2 HV1 HV2 hs2 hz1
  cases b with
  | false =>
    have HE : Hid (r = none) := HRR.out
    clear HRR
    go_wp2_with fail
    go_ret2
    rw [HE.out]
    exact ⟨⟨none, 0, rfl, rfl, [], fun h => absurd h (Nat.lt_irrefl _), trivial⟩, HB1.out⟩
  | true =>
  have HE : Hid (r = some P) := HRR.out
  clear HRR
  have B3 : Below w1.heap.size w1 (w1.alloc (.cells #[.slice none 0 0, .slice none 0 0] 56)) := (Below.refl _ _).alloc (Nat.le_refl _) _
  have g3 : (w1.alloc (.cells #[.slice none 0 0, .slice none 0 0] 56)).heap[w1.heap.size]? = some (.cells #[.slice none 0 0, .slice none 0 0] 56) := heap_alloc_new w1 _
  have hs1 := HS1.out
  have HT3 : Hid (Trl (w.heap.size + 2) w1.heap.size (w1.alloc (.cells #[.slice none 0 0, .slice none 0 0] 56)) [] []) :=
    ⟨_, _, [], g3, World.ownsRow_nil _ _ _ 1, World.ownsRow_nil _ _ _ 1, trivial, (fun e => by cases e), (fun e => by cases e), (fun b hb => by cases hb)⟩
  have HB3 := Lib.hid (HB1.out.trans (B3.mono HB1.out.size))
  have cA := Lib.hid (diff_any (w.heap.size + 2) w1.heap.size hs1 (.node o l) w.heap.size 0 (.node q m) (w.heap.size + 1) 0 _ [] [] (HW1.out.keep (fun k hk => B3.block k (by omega))) (HW2.out.keep (fun k hk => B3.block k (by omega))) HT3.out HSH.out.symm (by rw [List.length_nil, Nat.zero_add]; exact HC.out) (by rw [List.length_nil, Nat.zero_add]; exact HC.out))
  rw [List.nil_append, ← HP.out] at cA
  clear B3 g3 hs1 HT3 HB1 HW1 HW2 HSH HC
  go_upto_region 4 with fail
  generalize w1.alloc (.cells #[.slice none 0 0, .slice none 0 0] 56) = W3 at *
  go_wp2_with fail
  refine (cA.out).mono ?_
  rintro e w4 ⟨⟨rfl, T4⟩, B4⟩
  obtain ⟨Ap, cp, Af, cf, xs, h4⟩ := trl_form T4
  have k1 : w4.cell? ⟨w1.heap.size, 1, none⟩ = some (.slice Af P.length cf) := by rw [block_cell h4.1]; rfl
  have HB5 := Lib.hid (HB3.out.trans (B4.mono (by omega)))
  have H4 := Lib.hid h4
  clear T4 B4 h4 cA HB3
  go_wp2_with fail
  go_ret2
  rw [HE.out]
  refine ⟨⟨Af, cf, rfl, rfl, xs, lie_own H4.out.2.2.1, RowsI.turn (fun _ _ => rfl) (fun b hb => hb.2.1) H4.out.2.2.2.1⟩, HB5.out⟩
end Go.Proofs.Ytmkgcifcfgfegaa
