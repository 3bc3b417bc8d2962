/-
  What the document's diff does (chapter 18): the paths from a path on where two trees part, or that they have no one shape; by induction over trees, no condition but bounds.
-/
import Derived.Test.YtmkgcifcfgfegaaPathPure
import Derived.Test.YtmkgcifcfgfegaaShape18
namespace Go.Proofs.Ytmkgcifcfgfegaa
set_option maxRecDepth 100000
open Go.RowKit

theorem diffK_nil (m : List Kid) (i : Nat) (p : List Int) : diffK [] m i p = some [] := by rw [diffK]; intros; simp_all
theorem diffK_step {l m : List Kid} {k : Nat} (h : k < l.length) (h' : k < m.length) (i : Nat) (p : List Int) : diffK (l.drop k) (m.drop k) i p = match diffT (l[k]).2 (m[k]).2 (p ++ [(i : Int)]) with
    | none => none
    | some r => if (l[k]).1 = (m[k]).1 then (diffK (l.drop (k + 1)) (m.drop (k + 1)) (i + 1) p).map (r ++ ·) else none := by
  rw [List.drop_eq_getElem_cons h, List.drop_eq_getElem_cons h', diffK]
  cases diffT (l[k]).2 (m[k]).2 (p ++ [(i : Int)]) <;> rfl
theorem diff_few (t u : Tree) (p : List Int) : ∀ r, diffT t u p = some r → r.length ≤ cntT t := fun r h => by
  rw [diff_parts] at h
  split at h
  · cases h; exact parts_few t u p
  · cases h
/-- The answer of the document's diff. -/
def AnsDL (w : World) (M : Nat → Prop) (r : Option (List (List Int))) (e : Ending) (w' : World) : Prop :=
  (match r with
    | none => e = .returned (.tuple #[.slice none 0 0, .bool false])
    | some ls => ∃ A n c xs, e = .returned (.tuple #[.slice A n c, .bool true]) ∧ w'.ownsRow w.heap.size 27 1 (.slice A n c) n xs ∧ RowsI w' (Lies w w' M (.slice A n c)) xs ls) ∧ Below w.heap.size w w'
set_option maxHeartbeats 16000000 in
theorem refdiff_any : ∀ (t : Tree) (cs : List Value) (u : Tree) (ds : List Value) (A : Option Addr) (n c : Nat) (p : List Int) (w : World) (M : Nat → Prop), (∀ b, M b → b < w.heap.size) → cntT t + n ≤ 1000000 → TreeAt w (· < w.heap.size) t cs → TreeAt w (· < w.heap.size) u ds → Ints w M A n p → n ≤ c →
    Calls Try.prog 32 #[.agg cs.toArray, .agg ds.toArray, .slice A n c] w (AnsDL w M (diffT t u p)) := by
  refine Tree.ind ?_
  intro o l ih cs u ds A n c p w M hM hc hT hU hP hnc
  obtain ⟨q, m⟩ := u
  obtain ⟨Ab, cb, Ak, ck, rfl, _, hlen, hby1, hkids⟩ := hT.open_
  obtain ⟨Bb, db, Bk, dk, rfl, _, hlen2, hby2, hkids2⟩ := hU.open_
  obtain ⟨R, hR⟩ : ∃ R, R = diffT (.node o l) (.node q m) p := ⟨_, rfl⟩
  rw [← hR]
  rw [diffT] at hR
  rw [cntT] at hc
  have B2 : Below w.heap.size w ((w.alloc (.cells #[.int .i64 o.kind, .int .u64 (o.bits : Int), .int .u64 (o.high : Int), .int .u64 (o.low : Int), .string ⟨o.text.toArray⟩, .string ⟨o.more.toArray⟩, .int .i64 o.sub, .slice Ab o.bytes.length cb, .slice Ak l.length ck] 26)).alloc (.cells #[.int .i64 q.kind, .int .u64 (q.bits : Int), .int .u64 (q.high : Int), .int .u64 (q.low : Int), .string ⟨q.text.toArray⟩, .string ⟨q.more.toArray⟩, .int .i64 q.sub, .slice Bb q.bytes.length db, .slice Bk m.length dk] 26)) := two_new2 _ _ _
  have g1 : ((w.alloc (.cells #[.int .i64 o.kind, .int .u64 (o.bits : Int), .int .u64 (o.high : Int), .int .u64 (o.low : Int), .string ⟨o.text.toArray⟩, .string ⟨o.more.toArray⟩, .int .i64 o.sub, .slice Ab o.bytes.length cb, .slice Ak l.length ck] 26)).alloc (.cells #[.int .i64 q.kind, .int .u64 (q.bits : Int), .int .u64 (q.high : Int), .int .u64 (q.low : Int), .string ⟨q.text.toArray⟩, .string ⟨q.more.toArray⟩, .int .i64 q.sub, .slice Bb q.bytes.length db, .slice Bk m.length dk] 26)).heap[w.heap.size + 1]? = some (.cells #[.int .i64 q.kind, .int .u64 (q.bits : Int), .int .u64 (q.high : Int), .int .u64 (q.low : Int), .string ⟨q.text.toArray⟩, .string ⟨q.more.toArray⟩, .int .i64 q.sub, .slice Bb q.bytes.length db, .slice Bk m.length dk] 26) := heap_two2 _ _ _
  have g0 : ((w.alloc (.cells #[.int .i64 o.kind, .int .u64 (o.bits : Int), .int .u64 (o.high : Int), .int .u64 (o.low : Int), .string ⟨o.text.toArray⟩, .string ⟨o.more.toArray⟩, .int .i64 o.sub, .slice Ab o.bytes.length cb, .slice Ak l.length ck] 26)).alloc (.cells #[.int .i64 q.kind, .int .u64 (q.bits : Int), .int .u64 (q.high : Int), .int .u64 (q.low : Int), .string ⟨q.text.toArray⟩, .string ⟨q.more.toArray⟩, .int .i64 q.sub, .slice Bb q.bytes.length db, .slice Bk m.length dk] 26)).heap[w.heap.size]? = some (.cells #[.int .i64 o.kind, .int .u64 (o.bits : Int), .int .u64 (o.high : Int), .int .u64 (o.low : Int), .string ⟨o.text.toArray⟩, .string ⟨o.more.toArray⟩, .int .i64 o.sub, .slice Ab o.bytes.length cb, .slice Ak l.length ck] 26) := (Below.heap_alloc _ _ _ (by simp)).trans (heap_alloc_new w _)
  have s2 : ((w.alloc (.cells #[.int .i64 o.kind, .int .u64 (o.bits : Int), .int .u64 (o.high : Int), .int .u64 (o.low : Int), .string ⟨o.text.toArray⟩, .string ⟨o.more.toArray⟩, .int .i64 o.sub, .slice Ab o.bytes.length cb, .slice Ak l.length ck] 26)).alloc (.cells #[.int .i64 q.kind, .int .u64 (q.bits : Int), .int .u64 (q.high : Int), .int .u64 (q.low : Int), .string ⟨q.text.toArray⟩, .string ⟨q.more.toArray⟩, .int .i64 q.sub, .slice Bb q.bytes.length db, .slice Bk m.length dk] 26)).heap.size = w.heap.size + 2 := by simp
  have HB2 := Lib.hid B2
  have G0 := Lib.hid g0
  have G1 := Lib.hid g1
  have HS2 := Lib.hid s2
  have HK := Lib.hid hkids
  have HK2 := Lib.hid hkids2
  have HI := Lib.hid ih
  have HP := Lib.hid hP
  have HM := Lib.hid hM
  have HNC := Lib.hid hnc
  have HC := Lib.hid hc
  have HL : Hid (l.length ≤ 1000000) := show _ ≤ _ by have := len_le_cnt l; omega
  have HY1 := Lib.hid hby1
  have HY2 := Lib.hid hby2
  have HR := Lib.hid hR
  clear hM hc hnc hlen hlen2 hby1 hby2 hkids hkids2 ih hT hU hP hR B2 g0 g1 s2
  unfold cellsV at *
  go_enter Try.func32, Try.ntmps32
  go_upto_region 1 with fail
  generalize ((w.alloc (.cells #[.int .i64 o.kind, .int .u64 (o.bits : Int), .int .u64 (o.high : Int), .int .u64 (o.low : Int), .string ⟨o.text.toArray⟩, .string ⟨o.more.toArray⟩, .int .i64 o.sub, .slice Ab o.bytes.length cb, .slice Ak l.length ck] 26)).alloc (.cells #[.int .i64 q.kind, .int .u64 (q.bits : Int), .int .u64 (q.high : Int), .int .u64 (q.low : Int), .string ⟨q.text.toArray⟩, .string ⟨q.more.toArray⟩, .int .i64 q.sub, .slice Bb q.bytes.length db, .slice Bk m.length dk] 26)) = W at *
  have j8 : W.cell? ⟨w.heap.size, 8, none⟩ = some (.slice Ak l.length ck) := by rw [block_cell G0.out]; rfl
  have k8 : W.cell? ⟨w.heap.size + 1, 8, none⟩ = some (.slice Bk m.length dk) := by rw [block_cell G1.out]; rfl
  by_cases hlm : l.length = m.length
  rotate_left 1
  · have n1 : ((l.length : Int) == (m.length : Int)) = false := beq_eq_false_iff_ne.2 (by omega)
    have n2 : ((l.length : Int) != (m.length : Int)) = true := by rw [bne, n1]; rfl
    have HE : Hid (R = none) := show _ = _ by rw [HR.out, if_neg hlm]
    clear HR hlm
    go_wp2_with fail
    go_ret2
    refine ⟨?_, HB2.out⟩
    rw [HE.out]
    rfl
  have n1 : ((l.length : Int) == (m.length : Int)) = true := by rw [hlm]; exact beq_self_eq_true _
  have n2 : ((l.length : Int) != (m.length : Int)) = false := by rw [bne, n1]; rfl
  have HLM := Lib.hid hlm
  have HR1 : Hid (R = (diffK (l.drop 0) (m.drop 0) 0 p).map ((if o = q then [] else [p]) ++ ·)) := show _ = _ by rw [HR.out, if_pos hlm]; rfl
  have cO := Lib.hid (refOwn_any o q Ab Ak Bb Bk cb l.length ck db m.length dk W ((HY1.out.keep (fun b hb => HB2.out.block b hb)).weaken (fun b hb => Nat.lt_of_lt_of_le hb HB2.out.size)) ((HY2.out.keep (fun b hb => HB2.out.block b hb)).weaken (fun b hb => Nat.lt_of_lt_of_le hb HB2.out.size)))
  clear HR hlm
  obtain ⟨v, hv⟩ : ∃ v, v = decide (o = q) := ⟨_, rfl⟩
  rw [← hv] at cO
  have HV := Lib.hid hv
  clear hv
  have x0 : W.cell? ⟨w.heap.size, 0, none⟩ = some (.int .i64 o.kind) := by rw [block_cell G0.out]; rfl
  have x1 : W.cell? ⟨w.heap.size, 1, none⟩ = some (.int .u64 (o.bits : Int)) := by rw [block_cell G0.out]; rfl
  have x2 : W.cell? ⟨w.heap.size, 2, none⟩ = some (.int .u64 (o.high : Int)) := by rw [block_cell G0.out]; rfl
  have x3 : W.cell? ⟨w.heap.size, 3, none⟩ = some (.int .u64 (o.low : Int)) := by rw [block_cell G0.out]; rfl
  have x4 : W.cell? ⟨w.heap.size, 4, none⟩ = some (.string ⟨o.text.toArray⟩) := by rw [block_cell G0.out]; rfl
  have x5 : W.cell? ⟨w.heap.size, 5, none⟩ = some (.string ⟨o.more.toArray⟩) := by rw [block_cell G0.out]; rfl
  have x6 : W.cell? ⟨w.heap.size, 6, none⟩ = some (.int .i64 o.sub) := by rw [block_cell G0.out]; rfl
  have x7 : W.cell? ⟨w.heap.size, 7, none⟩ = some (.slice Ab o.bytes.length cb) := by rw [block_cell G0.out]; rfl
  have y0 : W.cell? ⟨w.heap.size + 1, 0, none⟩ = some (.int .i64 q.kind) := by rw [block_cell G1.out]; rfl
  have y1 : W.cell? ⟨w.heap.size + 1, 1, none⟩ = some (.int .u64 (q.bits : Int)) := by rw [block_cell G1.out]; rfl
  have y2 : W.cell? ⟨w.heap.size + 1, 2, none⟩ = some (.int .u64 (q.high : Int)) := by rw [block_cell G1.out]; rfl
  have y3 : W.cell? ⟨w.heap.size + 1, 3, none⟩ = some (.int .u64 (q.low : Int)) := by rw [block_cell G1.out]; rfl
  have y4 : W.cell? ⟨w.heap.size + 1, 4, none⟩ = some (.string ⟨q.text.toArray⟩) := by rw [block_cell G1.out]; rfl
  have y5 : W.cell? ⟨w.heap.size + 1, 5, none⟩ = some (.string ⟨q.more.toArray⟩) := by rw [block_cell G1.out]; rfl
  have y6 : W.cell? ⟨w.heap.size + 1, 6, none⟩ = some (.int .i64 q.sub) := by rw [block_cell G1.out]; rfl
  have y7 : W.cell? ⟨w.heap.size + 1, 7, none⟩ = some (.slice Bb q.bytes.length db) := by rw [block_cell G1.out]; rfl
  go_wp2_with fail
  refine (cO.out).mono ?_
  rintro e w1 ⟨rfl, B1⟩
  have HBx := Lib.hid (HB2.out.trans (B1.mono HB2.out.size))
  have Hax := Lib.hid ((B1.block _ (block_lt G0.out)).trans G0.out)
  have Hbx := Lib.hid ((B1.block _ (block_lt G1.out)).trans G1.out)
  clear B1 cO j8 k8 n1 n2 HB2 G0 G1 x0 y0 x1 y1 x2 y2 x3 y3 x4 y4 x5 y5 x6 y6 x7 y7 HY1 HY2 HS2
  cases v with
  | true =>
    have hoq : o = q := of_decide_eq_true HV.out.symm
    have HB1 := HBx
    have Ha1 := Hax
    have Hb1 := Hbx
    have HO1 : Hid (w1.ownsRow (w.heap.size + 2) 27 1 (.slice none 0 0) 0 []) := World.ownsRow_nil _ _ _ 1
    have HX1 : Hid (RowsI w1 (Lies w w1 M (.slice none 0 0)) [] []) := trivial
    have HR0 : Hid (R = (diffK (l.drop 0) (m.drop 0) 0 p).map (([] : List (List Int)) ++ ·)) := show _ = _ by rw [HR1.out, if_pos hoq]
    have HF : Hid (([] : List (List Int)).length ≤ 1 + cntK (l.take 0)) := Nat.zero_le _
    clear hoq HBx Hax Hbx HV HR1
    go_upto_region 6 with fail
    go_wp2_with fail
    go_loopw [8, 9] (fun v i wr => (Below w.heap.size w wr ∧ wr.heap[w.heap.size]? = some (.cells #[.int .i64 o.kind, .int .u64 (o.bits : Int), .int .u64 (o.high : Int), .int .u64 (o.low : Int), .string ⟨o.text.toArray⟩, .string ⟨o.more.toArray⟩, .int .i64 o.sub, .slice Ab o.bytes.length cb, .slice Ak l.length ck] 26) ∧ wr.heap[w.heap.size + 1]? = some (.cells #[.int .i64 q.kind, .int .u64 (q.bits : Int), .int .u64 (q.high : Int), .int .u64 (q.low : Int), .string ⟨q.text.toArray⟩, .string ⟨q.more.toArray⟩, .int .i64 q.sub, .slice Bb q.bytes.length db, .slice Bk m.length dk] 26)) ∧ ∃ (k : Nat) (C : Option Addr) (s d : Nat) (xs : List Value) (ls : List (List Int)), k ≤ l.length ∧ i = .int .i64 (k : Int) ∧ v = .slice C s d ∧ wr.ownsRow (w.heap.size + 2) 27 1 (.slice C s d) s xs ∧ RowsI wr (Lies w wr M (.slice C s d)) xs ls ∧ R = (diffK (l.drop k) (m.drop k) k p).map (ls ++ ·) ∧ ls.length ≤ 1 + cntK (l.take k)) (fun _ i _ => l.length - natV i)
    case atStart => exact ⟨⟨HB1.out, Ha1.out, Hb1.out⟩, 0, _, _, _, _, _, Nat.zero_le _, rfl, rfl, HO1.out, HX1.out, HR0.out, HF.out⟩
    case round =>
      obtain ⟨⟨hB, ha, hb⟩, k, C, s, d, xs, ls, hk, rfl, rfl, ho, hx, hr, hln⟩ := hrel
      clear HB1 Ha1 Hb1 HO1 HX1 HR0 HF
      have HB := Lib.hid hB
      have Ha := Lib.hid ha
      have Hb := Lib.hid hb
      have j8 : wr.cell? ⟨w.heap.size, 8, none⟩ = some (.slice Ak l.length ck) := by rw [block_cell ha]; rfl
      have k8 : wr.cell? ⟨w.heap.size + 1, 8, none⟩ = some (.slice Bk m.length dk) := by rw [block_cell hb]; rfl
      by_cases hlt : k < l.length
      · have hlt2 : k < m.length := by rw [← HLM.out]; exact hlt
        have d1 : decide ((k : Int) < (l.length : Int)) = true := decide_eq_true (by omega)
        have d1n : decide (k < l.length) = true := decide_eq_true hlt
        obtain ⟨b, off, rfl, hbl, hK⟩ := HK.out (fun e => by rw [e] at hlt; exact absurd hlt (Nat.not_lt_zero _))
        obtain ⟨b', off', rfl, hbl', hK'⟩ := HK2.out (fun e => by rw [e] at hlt2; exact absurd hlt2 (Nat.not_lt_zero _))
        obtain ⟨c0, c1, c2, c3, c4, c5, c6, c7, c8, hn, hnl, ⟨p0, p1, p2, p3, p4, p5, p6, p7, p8⟩, hT2⟩ := kid_at hK hB hbl k hlt
        obtain ⟨e0, e1, e2, e3, e4, e5, e6, e7, e8, hn', hnl', ⟨q0, q1, q2, q3, q4, q5, q6, q7, q8⟩, hU2⟩ := kid_at hK' hB hbl' k hlt2
        rw [diffK_step hlt hlt2] at hr
        have hkc := cntK_take hlt
        have hkl := cntK_le (l := l) (k + 1)
        have hcp := HC.out
        have hxl : xs.length = s := by have := ho.1; omega
        have hxl2 := hx.len
        have hdn := diff_few (l[k]).2 (m[k]).2 (p ++ [(k : Int)])
        have cV := Lib.hid fun (V : World) (hV : Below wr.heap.size wr V) (A' : Option Addr) (c' : Nat) (hI : Ints V (fun b => wr.heap.size ≤ b ∧ b < V.heap.size) A' (n + 1) (p ++ [(k : Int)])) (hcc : n + 1 ≤ c') =>
          HI.out l[k] (List.getElem_mem hlt) _ (m[k]).2 _ A' (n + 1) c' (p ++ [(k : Int)]) V _ (fun b hb => hb.2) (by omega) (TreeAt.weaken (fun j hj => Nat.lt_of_lt_of_le hj hV.size) _ _ (TreeAt.keep (fun j hj => hV.block j hj) _ _ hT2)) (TreeAt.weaken (fun j hj => Nat.lt_of_lt_of_le hj hV.size) _ _ (TreeAt.keep (fun j hj => hV.block j hj) _ _ hU2)) hI hcc
        have cL := Lib.hid fun (V : World) (hV : Below wr.heap.size wr V) => longer_cap A n c p (k : Int) V (((HP.out.weaken HM.out).on hB).on hV) (by omega)
        generalize diffT (l[k]).2 (m[k]).2 (p ++ [(k : Int)]) = r2 at *
        generalize (l[k]).1 = nm at *
        generalize (m[k]).1 = nm' at *
        have HE := Lib.hid hr
        have HO := Lib.hid ho
        have HX := Lib.hid hx
        have HN1 := Lib.hid hn
        have HN2 := Lib.hid hn'
        have HLN := Lib.hid hln
        have HK1 : Hid (k + 1 ≤ l.length) := hlt
        have u2 : Hid (wrap64 ((k : Int) + 1) = ((k + 1 : Nat) : Int)) := show _ = _ from w63 (by omega) (by have := HL.out; omega)
        have HBL := Lib.hid hbl
        have HBL' := Lib.hid hbl'
        have HS : Hid (s = ls.length) := show _ = _ by omega
        have HKT := Lib.hid hkc
        have HKL := Lib.hid hkl
        have hlti : (k : Int) < (l.length : Int) := by omega
        have hlti2 : (k : Int) < (m.length : Int) := by omega
        have hlt0 : (0 : Int) ≤ (k : Int) := by omega
        clear hr hT2 hU2 hnl hnl' hn hn' hK hK' hbl hbl' hk hB ha hb ho hx hln hxl hxl2 hkc hkl hcp
        cases r2 with
        | none =>
          have HE2 : Hid (R = none) := show _ = _ by rw [HE.out]; rfl
          clear HE
          go_upto_region 9 with fail
          go_region_held3 (fun V : World => V.cell? ⟨w.heap.size, 8, none⟩ = some (.slice (some ⟨b, off, none⟩) l.length ck) ∧ V.cell? ⟨w.heap.size + 1, 8, none⟩ = some (.slice (some ⟨b', off', none⟩) m.length dk) ∧ V.cell? ⟨b, off + k * 10 + 1, none⟩ = some c0 ∧ V.cell? ⟨b, off + k * 10 + 2, none⟩ = some c1 ∧ V.cell? ⟨b, off + k * 10 + 3, none⟩ = some c2 ∧ V.cell? ⟨b, off + k * 10 + 4, none⟩ = some c3 ∧ V.cell? ⟨b, off + k * 10 + 5, none⟩ = some c4 ∧ V.cell? ⟨b, off + k * 10 + 6, none⟩ = some c5 ∧ V.cell? ⟨b, off + k * 10 + 7, none⟩ = some c6 ∧ V.cell? ⟨b, off + k * 10 + 8, none⟩ = some c7 ∧ V.cell? ⟨b, off + k * 10 + 9, none⟩ = some c8 ∧ V.cell? ⟨b', off' + k * 10 + 1, none⟩ = some e0 ∧ V.cell? ⟨b', off' + k * 10 + 2, none⟩ = some e1 ∧ V.cell? ⟨b', off' + k * 10 + 3, none⟩ = some e2 ∧ V.cell? ⟨b', off' + k * 10 + 4, none⟩ = some e3 ∧ V.cell? ⟨b', off' + k * 10 + 5, none⟩ = some e4 ∧ V.cell? ⟨b', off' + k * 10 + 6, none⟩ = some e5 ∧ V.cell? ⟨b', off' + k * 10 + 7, none⟩ = some e6 ∧ V.cell? ⟨b', off' + k * 10 + 8, none⟩ = some e7 ∧ V.cell? ⟨b', off' + k * 10 + 9, none⟩ = some e8)
            ((refine ⟨?_, ?_, ?_, ?_, ?_, ?_, ?_, ?_, ?_, ?_, ?_, ?_, ?_, ?_, ?_, ?_, ?_, ?_, ?_, ?_⟩ <;> (repeat (first | with_reducible refine cell_drew ?_ | with_reducible refine cell_low B2 ?_ | with_reducible refine cell_low B1 ?_)) <;> (first | with_reducible exact j8 | with_reducible exact k8 | with_reducible exact p0 | with_reducible exact p1 | with_reducible exact p2 | with_reducible exact p3 | with_reducible exact p4 | with_reducible exact p5 | with_reducible exact p6 | with_reducible exact p7 | with_reducible exact p8 | with_reducible exact q0 | with_reducible exact q1 | with_reducible exact q2 | with_reducible exact q3 | with_reducible exact q4 | with_reducible exact q5 | with_reducible exact q6 | with_reducible exact q7 | with_reducible exact q8)))
            (first | (go_at_call 40; (with_reducible refine (cL.out _ (Below.refl _ _).drew).mono ?_); rintro e w1 ⟨⟨A', c', rfl, I1, C1⟩, B1⟩) | (go_at_call 32; (with_reducible refine (cV.out _ (low17 (Below.refl wr.heap.size wr).drew B1) A' c' (I1.weaken fun b hb => ⟨Nat.le_trans (Below.refl wr.heap.size wr).drew.size hb.1, hb.2⟩) C1).mono ?_); rintro e w2 ⟨rfl, B2⟩))
          have qq := low17 (low17 (Below.refl wr.heap.size wr).drew B1) B2
          have HB5 := Lib.hid (low17 HB.out qq)
          clear qq B1 B2 I1 C1 cV cL j8 k8 p0 p1 p2 p3 p4 p5 p6 p7 p8 q0 q1 q2 q3 q4 q5 q6 q7 q8 HX HO
          go_upto_region 10 with fail
          refine wp_region_quiet_below (by kernel_rfl) (by kernel_rfl) ?_
          repeat (go_big_quiet_step (fail))
          refine wpQuiet_nil ?_
          intro _ hw'
          obtain ⟨⟨dq, osq⟩, hw''⟩ := hw'
          subst hw''
          have HB6 := Lib.hid (HB5.out.trans ((below_regrown w2 dq osq).mono HB5.out.size))
          generalize Sort.grow (redrawn w2 dq) osq = w3 at *
          go_wp2_with fail
          go_ret2
          refine ⟨?_, HB6.out⟩
          rw [HE2.out]
          rfl
        | some r =>
          go_upto_region 9 with fail
          go_region_held3 (fun V : World => V.cell? ⟨w.heap.size, 8, none⟩ = some (.slice (some ⟨b, off, none⟩) l.length ck) ∧ V.cell? ⟨w.heap.size + 1, 8, none⟩ = some (.slice (some ⟨b', off', none⟩) m.length dk) ∧ V.cell? ⟨b, off + k * 10 + 1, none⟩ = some c0 ∧ V.cell? ⟨b, off + k * 10 + 2, none⟩ = some c1 ∧ V.cell? ⟨b, off + k * 10 + 3, none⟩ = some c2 ∧ V.cell? ⟨b, off + k * 10 + 4, none⟩ = some c3 ∧ V.cell? ⟨b, off + k * 10 + 5, none⟩ = some c4 ∧ V.cell? ⟨b, off + k * 10 + 6, none⟩ = some c5 ∧ V.cell? ⟨b, off + k * 10 + 7, none⟩ = some c6 ∧ V.cell? ⟨b, off + k * 10 + 8, none⟩ = some c7 ∧ V.cell? ⟨b, off + k * 10 + 9, none⟩ = some c8 ∧ V.cell? ⟨b', off' + k * 10 + 1, none⟩ = some e0 ∧ V.cell? ⟨b', off' + k * 10 + 2, none⟩ = some e1 ∧ V.cell? ⟨b', off' + k * 10 + 3, none⟩ = some e2 ∧ V.cell? ⟨b', off' + k * 10 + 4, none⟩ = some e3 ∧ V.cell? ⟨b', off' + k * 10 + 5, none⟩ = some e4 ∧ V.cell? ⟨b', off' + k * 10 + 6, none⟩ = some e5 ∧ V.cell? ⟨b', off' + k * 10 + 7, none⟩ = some e6 ∧ V.cell? ⟨b', off' + k * 10 + 8, none⟩ = some e7 ∧ V.cell? ⟨b', off' + k * 10 + 9, none⟩ = some e8)
            ((refine ⟨?_, ?_, ?_, ?_, ?_, ?_, ?_, ?_, ?_, ?_, ?_, ?_, ?_, ?_, ?_, ?_, ?_, ?_, ?_, ?_⟩ <;> (repeat (first | with_reducible refine cell_drew ?_ | with_reducible refine cell_low B2 ?_ | with_reducible refine cell_low B1 ?_)) <;> (first | with_reducible exact j8 | with_reducible exact k8 | with_reducible exact p0 | with_reducible exact p1 | with_reducible exact p2 | with_reducible exact p3 | with_reducible exact p4 | with_reducible exact p5 | with_reducible exact p6 | with_reducible exact p7 | with_reducible exact p8 | with_reducible exact q0 | with_reducible exact q1 | with_reducible exact q2 | with_reducible exact q3 | with_reducible exact q4 | with_reducible exact q5 | with_reducible exact q6 | with_reducible exact q7 | with_reducible exact q8)))
            (first | (go_at_call 40; (with_reducible refine (cL.out _ (Below.refl _ _).drew).mono ?_); rintro e w1 ⟨⟨A', c', rfl, I1, C1⟩, B1⟩) | (go_at_call 32; (with_reducible refine (cV.out _ (low17 (Below.refl wr.heap.size wr).drew B1) A' c' (I1.weaken fun b hb => ⟨Nat.le_trans (Below.refl wr.heap.size wr).drew.size hb.1, hb.2⟩) C1).mono ?_); rintro e w2 ⟨⟨A2, n2, c2, ys, rfl, o2, x2⟩, B2⟩))
          have qq := low17 (low17 (Below.refl wr.heap.size wr).drew B1) B2
          have s1 := (low17 (Below.refl wr.heap.size wr).drew B1).size
          have HB5 := Lib.hid (low17 HB.out qq)
          have Ha5 := Lib.hid ((qq.block _ (block_lt Ha.out)).trans Ha.out)
          have Hb5 := Lib.hid ((qq.block _ (block_lt Hb.out)).trans Hb.out)
          have HO5 := Lib.hid (owns_up HO.out qq)
          have HX5 : Hid (RowsI w2 (Lies w w2 M (.slice C s d)) xs ls) := RowsI.turn (fun b hb => qq.block b hb.2.1) (fun b hb => ⟨hb.1, Nat.lt_of_lt_of_le hb.2.1 qq.size, hb.2.2⟩) HX.out
          have O2 := Lib.hid o2
          have X2 : Hid (RowsI w2 (fun b => wr.heap.size ≤ b ∧ b < w2.heap.size ∧ (Value.slice A2 n2 c2).ownBlock ≠ some b) ys r) := RowsI.turn (fun _ _ => rfl) (fun b hb => ⟨by
            rcases hb.1 with h | h
            · exact h.1
            · exact Nat.le_trans s1 h, hb.2.1, hb.2.2⟩) x2
          have HLO : Hid (∀ b, (Value.slice C s d).ownBlock = some b → b < wr.heap.size) := fun b hb => (HO.out.lt b hb).2
          have n1 : w2.cell? ⟨b, off + k * 10, none⟩ = some (.string ⟨nm.toArray⟩) := (qq.cell (p := ⟨b, off + k * 10, none⟩) (Nat.lt_of_lt_of_le HBL.out HB.out.size)).trans HN1.out
          have n2' : w2.cell? ⟨b', off' + k * 10, none⟩ = some (.string ⟨nm'.toArray⟩) := (qq.cell (p := ⟨b', off' + k * 10, none⟩) (Nat.lt_of_lt_of_le HBL'.out HB.out.size)).trans HN2.out
          have HS1 := Lib.hid (Nat.le_trans s1 B2.size)
          have HWR := Lib.hid HB.out.size
          have HRN : Hid (r.length ≤ cntT (l[k]'HK1.out).2) := hdn r rfl
          have jj := cell_regrown (show w2.cell? ⟨w.heap.size, 8, none⟩ = some (.slice (some ⟨b, off, none⟩) l.length ck) by rw [block_cell Ha5.out]; rfl)
          have kk := cell_regrown (show w2.cell? ⟨w.heap.size + 1, 8, none⟩ = some (.slice (some ⟨b', off', none⟩) m.length dk) by rw [block_cell Hb5.out]; rfl)
          have rn := cell_regrown n1
          have rn' := cell_regrown n2'
          clear qq s1 B1 B2 I1 C1 o2 x2 cV cL j8 k8 p0 p1 p2 p3 p4 p5 p6 p7 p8 q0 q1 q2 q3 q4 q5 q6 q7 q8 HX HO Ha Hb HB HN1 HN2 n1 n2' hdn
          by_cases hnn : nm = nm'
          rotate_left 1
          · have e1 : (nm == nm') = false := beq_eq_false_iff_ne.2 hnn
            have HE2 : Hid (R = none) := show _ = _ by rw [HE.out]; simp [hnn]
            clear HE
            go_upto_region 10 with fail
            refine wp_region_quiet_below (by kernel_rfl) (by kernel_rfl) ?_
            repeat (go_big_quiet_step (fail))
            refine wpQuiet_nil ?_
            intro _ hw'
            obtain ⟨⟨dq, osq⟩, hw''⟩ := hw'
            subst hw''
            have HB6 := Lib.hid (HB5.out.trans ((below_regrown w2 dq osq).mono HB5.out.size))
            generalize Sort.grow (redrawn w2 dq) osq = w3 at *
            clear jj kk rn rn'
            go_wp2_with fail
            go_ret2
            refine ⟨?_, HB6.out⟩
            rw [HE2.out]
            rfl
          have e1 : (nm == nm') = true := beq_iff_eq.2 hnn
          subst hnn
          have HE2 : Hid (R = (diffK (l.drop (k + 1)) (m.drop (k + 1)) (k + 1) p).map ((ls ++ r) ++ ·)) := show _ = _ by
            rw [HE.out]
            simp only [if_true, Option.map_map]
            congr 1
            funext z
            simp
          clear HE
          go_upto_region 10 with fail
          refine wp_region_quiet_below (by kernel_rfl) (by kernel_rfl) ?_
          repeat (go_big_quiet_step (fail))
          refine wpQuiet_nil ?_
          intro _ hw'
          obtain ⟨⟨dq, osq⟩, hw''⟩ := hw'
          subst hw''
          have BG := below_regrown w2 dq osq
          have HB6 := Lib.hid (HB5.out.trans (BG.mono HB5.out.size))
          have Ha6 := Lib.hid ((BG.block _ (block_lt Ha5.out)).trans Ha5.out)
          have Hb6 := Lib.hid ((BG.block _ (block_lt Hb5.out)).trans Hb5.out)
          have HO6 := Lib.hid (owns_up HO5.out BG)
          have O6 := Lib.hid (owns_up O2.out BG)
          have HX6 : Hid (RowsI (Sort.grow (redrawn w2 dq) osq) (Lies w (Sort.grow (redrawn w2 dq) osq) M (.slice C s d)) xs ls) := RowsI.turn (fun b hb => BG.block b hb.2.1) (fun b hb => ⟨hb.1, Nat.lt_of_lt_of_le hb.2.1 BG.size, hb.2.2⟩) HX5.out
          have X6 : Hid (RowsI (Sort.grow (redrawn w2 dq) osq) (fun b => wr.heap.size ≤ b ∧ b < (Sort.grow (redrawn w2 dq) osq).heap.size ∧ (Value.slice A2 n2 c2).ownBlock ≠ some b) ys r) := RowsI.turn (fun b hb => BG.block b hb.2.1) (fun b hb => ⟨hb.1, Nat.lt_of_lt_of_le hb.2.1 BG.size, hb.2.2⟩) X2.out
          have HS6 := Lib.hid (Nat.le_trans HS1.out BG.size)
          clear jj kk rn rn' BG HB5 Ha5 Hb5 HO5 O2 HX5 X2 HS1
          generalize Sort.grow (redrawn w2 dq) osq = w3 at *
          obtain ⟨i0, hi0, hz0, hz1, hz2⟩ := info_parts info_ints
          have HZ := Lib.hid hz0; have HI0 := Lib.hid hi0; have H1 := Lib.hid hz1; have H2 := Lib.hid hz2
          have hyl := X6.out.len
          have hn2 : ys.length = n2 := by have := O6.out.1; omega
          have hss := HS.out
          have hln := HLN.out
          have hrn := HRN.out
          have hkt := HKT.out
          have hkl := HKL.out
          have hcp := HC.out
          have M2 : s + n2 ≤ maxLen := by simp only [maxLen]; omega
          have M3 : (s + n2) * 24 ≤ 140737488355328 := by omega
          have HLN6 : Hid ((ls ++ r).length ≤ 1 + cntK (l.take (k + 1))) := show _ ≤ _ by rw [List.length_append]; omega
          have hbase : w.heap.size + 2 ≤ w3.heap.size := by have := block_lt Hb6.out; omega
          clear hz0 hi0 hz1 hz2 hyl hss hln hrn hkt hkl hcp
          go_wp2_with (first | (at_builtin; refine wpList_append_held _ rfl (.tmp 70) (.tmp 71) 37 rfl (w.heap.size + 2) 27 i0 _ 24 Try.underlying37 HI0.out HZ.out H1.out H2.out rfl _ s xs rfl HO6.out A2 n2 c2 ys rfl hn2 (owns_cells O6.out) X6.out.one M2 M3 hbase ?_))
          intro A3 c3 w4 ho4 hg4 hs4
          have B4 := (Below.refl (w.heap.size + 2) w3).grown hg4 hbase (fun k hk => (HO6.out.lt k hk).1)
          have HB7 := Lib.hid (HB6.out.trans (B4.mono (by omega)))
          have Ha7 := Lib.hid ((B4.block _ (by omega)).trans Ha6.out)
          have Hb7 := Lib.hid ((B4.block _ (by omega)).trans Hb6.out)
          have s3 := hg4.size
          have hwr := HWR.out
          have hs6 := HS6.out
          have HX7 : Hid (RowsI w4 (Lies w w4 M (.slice A3 (s + n2) c3)) (xs ++ ys) (ls ++ r)) := show RowsI _ _ _ _ from by
            refine RowsI.append (RowsI.turn (fun x hx => hg4.block x hx.2.1 (fun h => hx.2.2 h.symm)) (fun x hx => ?_) HX6.out) (RowsI.turn (fun x hx => hg4.block x hx.2.1 (fun h => by have := HLO.out x h.symm; have := hx.1; omega)) (fun x hx => ?_) X6.out)
            · refine ⟨hx.1, Nat.lt_of_lt_of_le hx.2.1 s3, fun e => ?_⟩
              rcases hs4.out with h | h
              · exact hx.2.2 (h.symm.trans e)
              · have h1 : w3.heap.size = x := Option.some.inj (h.symm.trans e)
                have := hx.2.1
                omega
            · refine ⟨.inr (Nat.le_trans hwr hx.1), Nat.lt_of_lt_of_le hx.2.1 s3, fun e => ?_⟩
              rcases hs4.out with h | h
              · have := HLO.out x (h.symm.trans e)
                have := hx.1
                omega
              · have h1 : w3.heap.size = x := Option.some.inj (h.symm.trans e)
                have := hx.2.1
                omega
          clear B4 s3 hwr hs6 hg4 hs4 HX6 X6 O6 HO6 HB6 Ha6 Hb6 HS6 HLO M2 M3 hbase hn2
          go_wp2_with fail
          go_roundw
          case rel => exact ⟨⟨HB7.out, Ha7.out, Hb7.out⟩, k + 1, A3, s + n2, c3, xs ++ ys, ls ++ r, HK1.out, by first | rfl | rw [u2.out], rfl, ho4.out, HX7.out, HE2.out, HLN6.out⟩
          case measure => have := HK1.out; first | (rw [u2.out]; simp [natV]; omega) | (simp [natV]; omega)
      · obtain rfl : k = l.length := by omega
        have d1 : decide ((l.length : Int) < (l.length : Int)) = false := decide_eq_false (by omega)
        have d1n : decide (l.length < l.length) = false := decide_eq_false (by omega)
        rw [List.drop_length, diffK_nil] at hr
        have HE : Hid (R = some ls) := show _ = _ by rw [hr]; simp
        have HO := Lib.hid ho
        have HX := Lib.hid hx
        clear hr ho hx hlt hk hB ha hb hln
        go_wp2_with fail
        go_ret2
        refine ⟨?_, HB.out⟩
        rw [HE.out]
        exact ⟨C, s, d, xs, rfl, own_mono HO.out (by omega), HX.out⟩
  | false =>
    have hoq : ¬ o = q := of_decide_eq_false HV.out.symm
    have HR0 : Hid (R = (diffK (l.drop 0) (m.drop 0) 0 p).map ([p] ++ ·)) := show _ = _ by rw [HR1.out, if_neg hoq]
    have HF : Hid (([p] : List (List Int)).length ≤ 1 + cntK (l.take 0)) := Nat.le_add_right _ _
    obtain ⟨i0, hi0, hz0, hz1, hz2⟩ := info_parts info_ints
    have HZ := Lib.hid hz0; have HI0 := Lib.hid hi0; have H1 := Lib.hid hz1; have H2 := Lib.hid hz2
    have l4 : ∀ u ∈ ([.slice A n c] : List Value), u.oneCell' = true := by simp [Value.oneCell']
    have hgn := heap_alloc_new w1 (.cells #[.slice A n c] 27)
    have hb1 := block_lt Hbx.out
    have HOA : Hid ((w1.alloc (.cells #[.slice A n c] 27)).ownsRow (w.heap.size + 2) 27 1 (.slice none 0 0) 0 []) := World.ownsRow_nil _ _ _ 1
    have BA : Below w.heap.size w (w1.alloc (.cells #[.slice A n c] 27)) := HBx.out.alloc HBx.out.size _
    have HSr : Hid (0 < 1 → ∃ ad, some (⟨w1.heap.size, 0, none⟩ : Addr) = some ad ∧ ∀ j u, ([.slice A n c] : List Value)[j]? = some u → (w1.alloc (.cells #[.slice A n c] 27)).cell? (ad.add j) = some u) := fun _ =>
      ⟨_, rfl, World.news_of_block (cs := #[.slice A n c]) (t := 27) (fr := (0, 0)) hgn⟩
    have hsz : w.heap.size + 2 ≤ (w1.alloc (.cells #[.slice A n c] 27)).heap.size := by simp; omega
    clear hi0 hz0 hz1 hz2 hgn hoq HV HR1
    go_wp2_with (first | (at_builtin; refine wpList_append_held _ rfl (.tmp 23) (.tmp 25) 37 rfl (w.heap.size + 2) 27 i0 _ 24 Try.underlying37 HI0.out HZ.out H1.out H2.out rfl _ 0 [] rfl HOA.out (some ⟨w1.heap.size, 0, none⟩) 1 1 [.slice A n c] rfl rfl HSr.out l4 (by decide) (by decide) hsz ?_))
    intro A5 c5 w5 ho5 hg5 hat5
    have B5 : Below (w.heap.size + 2) w1 w5 := ((Below.refl (w.heap.size + 2) w1).alloc (by omega) _).grown hg5 hsz (fun k hk => by cases hk)
    have s5 := B5.size
    have HB1 := Lib.hid (HBx.out.trans (B5.mono (by omega)))
    have Ha1 := Lib.hid ((B5.block _ (by omega)).trans Hax.out)
    have Hb1 := Lib.hid ((B5.block _ (by omega)).trans Hbx.out)
    have HO1 : Hid (w5.ownsRow (w.heap.size + 2) 27 1 (.slice A5 1 c5) 1 [.slice A n c]) := ho5.out
    have HX1 : Hid (RowsI w5 (Lies w w5 M (.slice A5 1 c5)) [.slice A n c] [p]) := show RowsI _ _ _ _ from
      ⟨⟨A, n, c, rfl, HNC.out, (HP.out.keep (fun b hb => HB1.out.block b (HM.out b hb))).weaken (fun b hb => ⟨.inl hb, Nat.lt_of_lt_of_le (HM.out b hb) HB1.out.size, fun e => by
        have h1 := (HO1.out.lt b e).1
        have h2 := HM.out b hb
        omega⟩)⟩, trivial⟩
    clear ho5 hg5 hat5 B5 s5 HOA BA HSr hsz l4 HBx Hax Hbx hb1
    go_upto_region 6 with fail
    go_wp2_with fail
    go_loopw [8, 9] (fun v i wr => (Below w.heap.size w wr ∧ wr.heap[w.heap.size]? = some (.cells #[.int .i64 o.kind, .int .u64 (o.bits : Int), .int .u64 (o.high : Int), .int .u64 (o.low : Int), .string ⟨o.text.toArray⟩, .string ⟨o.more.toArray⟩, .int .i64 o.sub, .slice Ab o.bytes.length cb, .slice Ak l.length ck] 26) ∧ wr.heap[w.heap.size + 1]? = some (.cells #[.int .i64 q.kind, .int .u64 (q.bits : Int), .int .u64 (q.high : Int), .int .u64 (q.low : Int), .string ⟨q.text.toArray⟩, .string ⟨q.more.toArray⟩, .int .i64 q.sub, .slice Bb q.bytes.length db, .slice Bk m.length dk] 26)) ∧ ∃ (k : Nat) (C : Option Addr) (s d : Nat) (xs : List Value) (ls : List (List Int)), k ≤ l.length ∧ i = .int .i64 (k : Int) ∧ v = .slice C s d ∧ wr.ownsRow (w.heap.size + 2) 27 1 (.slice C s d) s xs ∧ RowsI wr (Lies w wr M (.slice C s d)) xs ls ∧ R = (diffK (l.drop k) (m.drop k) k p).map (ls ++ ·) ∧ ls.length ≤ 1 + cntK (l.take k)) (fun _ i _ => l.length - natV i)
    case atStart => exact ⟨⟨HB1.out, Ha1.out, Hb1.out⟩, 0, _, _, _, _, _, Nat.zero_le _, rfl, rfl, HO1.out, HX1.out, HR0.out, HF.out⟩
    case round =>
      obtain ⟨⟨hB, ha, hb⟩, k, C, s, d, xs, ls, hk, rfl, rfl, ho, hx, hr, hln⟩ := hrel
      clear HB1 Ha1 Hb1 HO1 HX1 HR0 HF
      have HB := Lib.hid hB
      have Ha := Lib.hid ha
      have Hb := Lib.hid hb
      have j8 : wr.cell? ⟨w.heap.size, 8, none⟩ = some (.slice Ak l.length ck) := by rw [block_cell ha]; rfl
      have k8 : wr.cell? ⟨w.heap.size + 1, 8, none⟩ = some (.slice Bk m.length dk) := by rw [block_cell hb]; rfl
      by_cases hlt : k < l.length
      · have hlt2 : k < m.length := by rw [← HLM.out]; exact hlt
        have d1 : decide ((k : Int) < (l.length : Int)) = true := decide_eq_true (by omega)
        have d1n : decide (k < l.length) = true := decide_eq_true hlt
        obtain ⟨b, off, rfl, hbl, hK⟩ := HK.out (fun e => by rw [e] at hlt; exact absurd hlt (Nat.not_lt_zero _))
        obtain ⟨b', off', rfl, hbl', hK'⟩ := HK2.out (fun e => by rw [e] at hlt2; exact absurd hlt2 (Nat.not_lt_zero _))
        obtain ⟨c0, c1, c2, c3, c4, c5, c6, c7, c8, hn, hnl, ⟨p0, p1, p2, p3, p4, p5, p6, p7, p8⟩, hT2⟩ := kid_at hK hB hbl k hlt
        obtain ⟨e0, e1, e2, e3, e4, e5, e6, e7, e8, hn', hnl', ⟨q0, q1, q2, q3, q4, q5, q6, q7, q8⟩, hU2⟩ := kid_at hK' hB hbl' k hlt2
        rw [diffK_step hlt hlt2] at hr
        have hkc := cntK_take hlt
        have hkl := cntK_le (l := l) (k + 1)
        have hcp := HC.out
        have hxl : xs.length = s := by have := ho.1; omega
        have hxl2 := hx.len
        have hdn := diff_few (l[k]).2 (m[k]).2 (p ++ [(k : Int)])
        have cV := Lib.hid fun (V : World) (hV : Below wr.heap.size wr V) (A' : Option Addr) (c' : Nat) (hI : Ints V (fun b => wr.heap.size ≤ b ∧ b < V.heap.size) A' (n + 1) (p ++ [(k : Int)])) (hcc : n + 1 ≤ c') =>
          HI.out l[k] (List.getElem_mem hlt) _ (m[k]).2 _ A' (n + 1) c' (p ++ [(k : Int)]) V _ (fun b hb => hb.2) (by omega) (TreeAt.weaken (fun j hj => Nat.lt_of_lt_of_le hj hV.size) _ _ (TreeAt.keep (fun j hj => hV.block j hj) _ _ hT2)) (TreeAt.weaken (fun j hj => Nat.lt_of_lt_of_le hj hV.size) _ _ (TreeAt.keep (fun j hj => hV.block j hj) _ _ hU2)) hI hcc
        have cL := Lib.hid fun (V : World) (hV : Below wr.heap.size wr V) => longer_cap A n c p (k : Int) V (((HP.out.weaken HM.out).on hB).on hV) (by omega)
        generalize diffT (l[k]).2 (m[k]).2 (p ++ [(k : Int)]) = r2 at *
        generalize (l[k]).1 = nm at *
        generalize (m[k]).1 = nm' at *
        have HE := Lib.hid hr
        have HO := Lib.hid ho
        have HX := Lib.hid hx
        have HN1 := Lib.hid hn
        have HN2 := Lib.hid hn'
        have HLN := Lib.hid hln
        have HK1 : Hid (k + 1 ≤ l.length) := hlt
        have u2 : Hid (wrap64 ((k : Int) + 1) = ((k + 1 : Nat) : Int)) := show _ = _ from w63 (by omega) (by have := HL.out; omega)
        have HBL := Lib.hid hbl
        have HBL' := Lib.hid hbl'
        have HS : Hid (s = ls.length) := show _ = _ by omega
        have HKT := Lib.hid hkc
        have HKL := Lib.hid hkl
        have hlti : (k : Int) < (l.length : Int) := by omega
        have hlti2 : (k : Int) < (m.length : Int) := by omega
        have hlt0 : (0 : Int) ≤ (k : Int) := by omega
        clear hr hT2 hU2 hnl hnl' hn hn' hK hK' hbl hbl' hk hB ha hb ho hx hln hxl hxl2 hkc hkl hcp
        cases r2 with
        | none =>
          have HE2 : Hid (R = none) := show _ = _ by rw [HE.out]; rfl
          clear HE
          go_upto_region 9 with fail
          go_region_held3 (fun V : World => V.cell? ⟨w.heap.size, 8, none⟩ = some (.slice (some ⟨b, off, none⟩) l.length ck) ∧ V.cell? ⟨w.heap.size + 1, 8, none⟩ = some (.slice (some ⟨b', off', none⟩) m.length dk) ∧ V.cell? ⟨b, off + k * 10 + 1, none⟩ = some c0 ∧ V.cell? ⟨b, off + k * 10 + 2, none⟩ = some c1 ∧ V.cell? ⟨b, off + k * 10 + 3, none⟩ = some c2 ∧ V.cell? ⟨b, off + k * 10 + 4, none⟩ = some c3 ∧ V.cell? ⟨b, off + k * 10 + 5, none⟩ = some c4 ∧ V.cell? ⟨b, off + k * 10 + 6, none⟩ = some c5 ∧ V.cell? ⟨b, off + k * 10 + 7, none⟩ = some c6 ∧ V.cell? ⟨b, off + k * 10 + 8, none⟩ = some c7 ∧ V.cell? ⟨b, off + k * 10 + 9, none⟩ = some c8 ∧ V.cell? ⟨b', off' + k * 10 + 1, none⟩ = some e0 ∧ V.cell? ⟨b', off' + k * 10 + 2, none⟩ = some e1 ∧ V.cell? ⟨b', off' + k * 10 + 3, none⟩ = some e2 ∧ V.cell? ⟨b', off' + k * 10 + 4, none⟩ = some e3 ∧ V.cell? ⟨b', off' + k * 10 + 5, none⟩ = some e4 ∧ V.cell? ⟨b', off' + k * 10 + 6, none⟩ = some e5 ∧ V.cell? ⟨b', off' + k * 10 + 7, none⟩ = some e6 ∧ V.cell? ⟨b', off' + k * 10 + 8, none⟩ = some e7 ∧ V.cell? ⟨b', off' + k * 10 + 9, none⟩ = some e8)
            ((refine ⟨?_, ?_, ?_, ?_, ?_, ?_, ?_, ?_, ?_, ?_, ?_, ?_, ?_, ?_, ?_, ?_, ?_, ?_, ?_, ?_⟩ <;> (repeat (first | with_reducible refine cell_drew ?_ | with_reducible refine cell_low B2 ?_ | with_reducible refine cell_low B1 ?_)) <;> (first | with_reducible exact j8 | with_reducible exact k8 | with_reducible exact p0 | with_reducible exact p1 | with_reducible exact p2 | with_reducible exact p3 | with_reducible exact p4 | with_reducible exact p5 | with_reducible exact p6 | with_reducible exact p7 | with_reducible exact p8 | with_reducible exact q0 | with_reducible exact q1 | with_reducible exact q2 | with_reducible exact q3 | with_reducible exact q4 | with_reducible exact q5 | with_reducible exact q6 | with_reducible exact q7 | with_reducible exact q8)))
            (first | (go_at_call 40; (with_reducible refine (cL.out _ (Below.refl _ _).drew).mono ?_); rintro e w1 ⟨⟨A', c', rfl, I1, C1⟩, B1⟩) | (go_at_call 32; (with_reducible refine (cV.out _ (low17 (Below.refl wr.heap.size wr).drew B1) A' c' (I1.weaken fun b hb => ⟨Nat.le_trans (Below.refl wr.heap.size wr).drew.size hb.1, hb.2⟩) C1).mono ?_); rintro e w2 ⟨rfl, B2⟩))
          have qq := low17 (low17 (Below.refl wr.heap.size wr).drew B1) B2
          have HB5 := Lib.hid (low17 HB.out qq)
          clear qq B1 B2 I1 C1 cV cL j8 k8 p0 p1 p2 p3 p4 p5 p6 p7 p8 q0 q1 q2 q3 q4 q5 q6 q7 q8 HX HO
          go_upto_region 10 with fail
          refine wp_region_quiet_below (by kernel_rfl) (by kernel_rfl) ?_
          repeat (go_big_quiet_step (fail))
          refine wpQuiet_nil ?_
          intro _ hw'
          obtain ⟨⟨dq, osq⟩, hw''⟩ := hw'
          subst hw''
          have HB6 := Lib.hid (HB5.out.trans ((below_regrown w2 dq osq).mono HB5.out.size))
          generalize Sort.grow (redrawn w2 dq) osq = w3 at *
          go_wp2_with fail
          go_ret2
          refine ⟨?_, HB6.out⟩
          rw [HE2.out]
          rfl
        | some r =>
          go_upto_region 9 with fail
          go_region_held3 (fun V : World => V.cell? ⟨w.heap.size, 8, none⟩ = some (.slice (some ⟨b, off, none⟩) l.length ck) ∧ V.cell? ⟨w.heap.size + 1, 8, none⟩ = some (.slice (some ⟨b', off', none⟩) m.length dk) ∧ V.cell? ⟨b, off + k * 10 + 1, none⟩ = some c0 ∧ V.cell? ⟨b, off + k * 10 + 2, none⟩ = some c1 ∧ V.cell? ⟨b, off + k * 10 + 3, none⟩ = some c2 ∧ V.cell? ⟨b, off + k * 10 + 4, none⟩ = some c3 ∧ V.cell? ⟨b, off + k * 10 + 5, none⟩ = some c4 ∧ V.cell? ⟨b, off + k * 10 + 6, none⟩ = some c5 ∧ V.cell? ⟨b, off + k * 10 + 7, none⟩ = some c6 ∧ V.cell? ⟨b, off + k * 10 + 8, none⟩ = some c7 ∧ V.cell? ⟨b, off + k * 10 + 9, none⟩ = some c8 ∧ V.cell? ⟨b', off' + k * 10 + 1, none⟩ = some e0 ∧ V.cell? ⟨b', off' + k * 10 + 2, none⟩ = some e1 ∧ V.cell? ⟨b', off' + k * 10 + 3, none⟩ = some e2 ∧ V.cell? ⟨b', off' + k * 10 + 4, none⟩ = some e3 ∧ V.cell? ⟨b', off' + k * 10 + 5, none⟩ = some e4 ∧ V.cell? ⟨b', off' + k * 10 + 6, none⟩ = some e5 ∧ V.cell? ⟨b', off' + k * 10 + 7, none⟩ = some e6 ∧ V.cell? ⟨b', off' + k * 10 + 8, none⟩ = some e7 ∧ V.cell? ⟨b', off' + k * 10 + 9, none⟩ = some e8)
            ((refine ⟨?_, ?_, ?_, ?_, ?_, ?_, ?_, ?_, ?_, ?_, ?_, ?_, ?_, ?_, ?_, ?_, ?_, ?_, ?_, ?_⟩ <;> (repeat (first | with_reducible refine cell_drew ?_ | with_reducible refine cell_low B2 ?_ | with_reducible refine cell_low B1 ?_)) <;> (first | with_reducible exact j8 | with_reducible exact k8 | with_reducible exact p0 | with_reducible exact p1 | with_reducible exact p2 | with_reducible exact p3 | with_reducible exact p4 | with_reducible exact p5 | with_reducible exact p6 | with_reducible exact p7 | with_reducible exact p8 | with_reducible exact q0 | with_reducible exact q1 | with_reducible exact q2 | with_reducible exact q3 | with_reducible exact q4 | with_reducible exact q5 | with_reducible exact q6 | with_reducible exact q7 | with_reducible exact q8)))
            (first | (go_at_call 40; (with_reducible refine (cL.out _ (Below.refl _ _).drew).mono ?_); rintro e w1 ⟨⟨A', c', rfl, I1, C1⟩, B1⟩) | (go_at_call 32; (with_reducible refine (cV.out _ (low17 (Below.refl wr.heap.size wr).drew B1) A' c' (I1.weaken fun b hb => ⟨Nat.le_trans (Below.refl wr.heap.size wr).drew.size hb.1, hb.2⟩) C1).mono ?_); rintro e w2 ⟨⟨A2, n2, c2, ys, rfl, o2, x2⟩, B2⟩))
          have qq := low17 (low17 (Below.refl wr.heap.size wr).drew B1) B2
          have s1 := (low17 (Below.refl wr.heap.size wr).drew B1).size
          have HB5 := Lib.hid (low17 HB.out qq)
          have Ha5 := Lib.hid ((qq.block _ (block_lt Ha.out)).trans Ha.out)
          have Hb5 := Lib.hid ((qq.block _ (block_lt Hb.out)).trans Hb.out)
          have HO5 := Lib.hid (owns_up HO.out qq)
          have HX5 : Hid (RowsI w2 (Lies w w2 M (.slice C s d)) xs ls) := RowsI.turn (fun b hb => qq.block b hb.2.1) (fun b hb => ⟨hb.1, Nat.lt_of_lt_of_le hb.2.1 qq.size, hb.2.2⟩) HX.out
          have O2 := Lib.hid o2
          have X2 : Hid (RowsI w2 (fun b => wr.heap.size ≤ b ∧ b < w2.heap.size ∧ (Value.slice A2 n2 c2).ownBlock ≠ some b) ys r) := RowsI.turn (fun _ _ => rfl) (fun b hb => ⟨by
            rcases hb.1 with h | h
            · exact h.1
            · exact Nat.le_trans s1 h, hb.2.1, hb.2.2⟩) x2
          have HLO : Hid (∀ b, (Value.slice C s d).ownBlock = some b → b < wr.heap.size) := fun b hb => (HO.out.lt b hb).2
          have n1 : w2.cell? ⟨b, off + k * 10, none⟩ = some (.string ⟨nm.toArray⟩) := (qq.cell (p := ⟨b, off + k * 10, none⟩) (Nat.lt_of_lt_of_le HBL.out HB.out.size)).trans HN1.out
          have n2' : w2.cell? ⟨b', off' + k * 10, none⟩ = some (.string ⟨nm'.toArray⟩) := (qq.cell (p := ⟨b', off' + k * 10, none⟩) (Nat.lt_of_lt_of_le HBL'.out HB.out.size)).trans HN2.out
          have HS1 := Lib.hid (Nat.le_trans s1 B2.size)
          have HWR := Lib.hid HB.out.size
          have HRN : Hid (r.length ≤ cntT (l[k]'HK1.out).2) := hdn r rfl
          have jj := cell_regrown (show w2.cell? ⟨w.heap.size, 8, none⟩ = some (.slice (some ⟨b, off, none⟩) l.length ck) by rw [block_cell Ha5.out]; rfl)
          have kk := cell_regrown (show w2.cell? ⟨w.heap.size + 1, 8, none⟩ = some (.slice (some ⟨b', off', none⟩) m.length dk) by rw [block_cell Hb5.out]; rfl)
          have rn := cell_regrown n1
          have rn' := cell_regrown n2'
          clear qq s1 B1 B2 I1 C1 o2 x2 cV cL j8 k8 p0 p1 p2 p3 p4 p5 p6 p7 p8 q0 q1 q2 q3 q4 q5 q6 q7 q8 HX HO Ha Hb HB HN1 HN2 n1 n2' hdn
          by_cases hnn : nm = nm'
          rotate_left 1
          · have e1 : (nm == nm') = false := beq_eq_false_iff_ne.2 hnn
            have HE2 : Hid (R = none) := show _ = _ by rw [HE.out]; simp [hnn]
            clear HE
            go_upto_region 10 with fail
            refine wp_region_quiet_below (by kernel_rfl) (by kernel_rfl) ?_
            repeat (go_big_quiet_step (fail))
            refine wpQuiet_nil ?_
            intro _ hw'
            obtain ⟨⟨dq, osq⟩, hw''⟩ := hw'
            subst hw''
            have HB6 := Lib.hid (HB5.out.trans ((below_regrown w2 dq osq).mono HB5.out.size))
            generalize Sort.grow (redrawn w2 dq) osq = w3 at *
            clear jj kk rn rn'
            go_wp2_with fail
            go_ret2
            refine ⟨?_, HB6.out⟩
            rw [HE2.out]
            rfl
          have e1 : (nm == nm') = true := beq_iff_eq.2 hnn
          subst hnn
          have HE2 : Hid (R = (diffK (l.drop (k + 1)) (m.drop (k + 1)) (k + 1) p).map ((ls ++ r) ++ ·)) := show _ = _ by
            rw [HE.out]
            simp only [if_true, Option.map_map]
            congr 1
            funext z
            simp
          clear HE
          go_upto_region 10 with fail
          refine wp_region_quiet_below (by kernel_rfl) (by kernel_rfl) ?_
          repeat (go_big_quiet_step (fail))
          refine wpQuiet_nil ?_
          intro _ hw'
          obtain ⟨⟨dq, osq⟩, hw''⟩ := hw'
          subst hw''
          have BG := below_regrown w2 dq osq
          have HB6 := Lib.hid (HB5.out.trans (BG.mono HB5.out.size))
          have Ha6 := Lib.hid ((BG.block _ (block_lt Ha5.out)).trans Ha5.out)
          have Hb6 := Lib.hid ((BG.block _ (block_lt Hb5.out)).trans Hb5.out)
          have HO6 := Lib.hid (owns_up HO5.out BG)
          have O6 := Lib.hid (owns_up O2.out BG)
          have HX6 : Hid (RowsI (Sort.grow (redrawn w2 dq) osq) (Lies w (Sort.grow (redrawn w2 dq) osq) M (.slice C s d)) xs ls) := RowsI.turn (fun b hb => BG.block b hb.2.1) (fun b hb => ⟨hb.1, Nat.lt_of_lt_of_le hb.2.1 BG.size, hb.2.2⟩) HX5.out
          have X6 : Hid (RowsI (Sort.grow (redrawn w2 dq) osq) (fun b => wr.heap.size ≤ b ∧ b < (Sort.grow (redrawn w2 dq) osq).heap.size ∧ (Value.slice A2 n2 c2).ownBlock ≠ some b) ys r) := RowsI.turn (fun b hb => BG.block b hb.2.1) (fun b hb => ⟨hb.1, Nat.lt_of_lt_of_le hb.2.1 BG.size, hb.2.2⟩) X2.out
          have HS6 := Lib.hid (Nat.le_trans HS1.out BG.size)
          clear jj kk rn rn' BG HB5 Ha5 Hb5 HO5 O2 HX5 X2 HS1
          generalize Sort.grow (redrawn w2 dq) osq = w3 at *
          obtain ⟨i0, hi0, hz0, hz1, hz2⟩ := info_parts info_ints
          have HZ := Lib.hid hz0; have HI0 := Lib.hid hi0; have H1 := Lib.hid hz1; have H2 := Lib.hid hz2
          have hyl := X6.out.len
          have hn2 : ys.length = n2 := by have := O6.out.1; omega
          have hss := HS.out
          have hln := HLN.out
          have hrn := HRN.out
          have hkt := HKT.out
          have hkl := HKL.out
          have hcp := HC.out
          have M2 : s + n2 ≤ maxLen := by simp only [maxLen]; omega
          have M3 : (s + n2) * 24 ≤ 140737488355328 := by omega
          have HLN6 : Hid ((ls ++ r).length ≤ 1 + cntK (l.take (k + 1))) := show _ ≤ _ by rw [List.length_append]; omega
          have hbase : w.heap.size + 2 ≤ w3.heap.size := by have := block_lt Hb6.out; omega
          clear hz0 hi0 hz1 hz2 hyl hss hln hrn hkt hkl hcp
          go_wp2_with (first | (at_builtin; refine wpList_append_held _ rfl (.tmp 70) (.tmp 71) 37 rfl (w.heap.size + 2) 27 i0 _ 24 Try.underlying37 HI0.out HZ.out H1.out H2.out rfl _ s xs rfl HO6.out A2 n2 c2 ys rfl hn2 (owns_cells O6.out) X6.out.one M2 M3 hbase ?_))
          intro A3 c3 w4 ho4 hg4 hs4
          have B4 := (Below.refl (w.heap.size + 2) w3).grown hg4 hbase (fun k hk => (HO6.out.lt k hk).1)
          have HB7 := Lib.hid (HB6.out.trans (B4.mono (by omega)))
          have Ha7 := Lib.hid ((B4.block _ (by omega)).trans Ha6.out)
          have Hb7 := Lib.hid ((B4.block _ (by omega)).trans Hb6.out)
          have s3 := hg4.size
          have hwr := HWR.out
          have hs6 := HS6.out
          have HX7 : Hid (RowsI w4 (Lies w w4 M (.slice A3 (s + n2) c3)) (xs ++ ys) (ls ++ r)) := show RowsI _ _ _ _ from by
            refine RowsI.append (RowsI.turn (fun x hx => hg4.block x hx.2.1 (fun h => hx.2.2 h.symm)) (fun x hx => ?_) HX6.out) (RowsI.turn (fun x hx => hg4.block x hx.2.1 (fun h => by have := HLO.out x h.symm; have := hx.1; omega)) (fun x hx => ?_) X6.out)
            · refine ⟨hx.1, Nat.lt_of_lt_of_le hx.2.1 s3, fun e => ?_⟩
              rcases hs4.out with h | h
              · exact hx.2.2 (h.symm.trans e)
              · have h1 : w3.heap.size = x := Option.some.inj (h.symm.trans e)
                have := hx.2.1
                omega
            · refine ⟨.inr (Nat.le_trans hwr hx.1), Nat.lt_of_lt_of_le hx.2.1 s3, fun e => ?_⟩
              rcases hs4.out with h | h
              · have := HLO.out x (h.symm.trans e)
                have := hx.1
                omega
              · have h1 : w3.heap.size = x := Option.some.inj (h.symm.trans e)
                have := hx.2.1
                omega
          clear B4 s3 hwr hs6 hg4 hs4 HX6 X6 O6 HO6 HB6 Ha6 Hb6 HS6 HLO M2 M3 hbase hn2
          go_wp2_with fail
          go_roundw
          case rel => exact ⟨⟨HB7.out, Ha7.out, Hb7.out⟩, k + 1, A3, s + n2, c3, xs ++ ys, ls ++ r, HK1.out, by first | rfl | rw [u2.out], rfl, ho4.out, HX7.out, HE2.out, HLN6.out⟩
          case measure => have := HK1.out; first | (rw [u2.out]; simp [natV]; omega) | (simp [natV]; omega)
      · obtain rfl : k = l.length := by omega
        have d1 : decide ((l.length : Int) < (l.length : Int)) = false := decide_eq_false (by omega)
        have d1n : decide (l.length < l.length) = false := decide_eq_false (by omega)
        rw [List.drop_length, diffK_nil] at hr
        have HE : Hid (R = some ls) := show _ = _ by rw [hr]; simp
        have HO := Lib.hid ho
        have HX := Lib.hid hx
        clear hr ho hx hlt hk hB ha hb hln
        go_wp2_with fail
        go_ret2
        refine ⟨?_, HB.out⟩
        rw [HE.out]
        exact ⟨C, s, d, xs, rfl, own_mono HO.out (by omega), HX.out⟩

end Go.Proofs.Ytmkgcifcfgfegaa
