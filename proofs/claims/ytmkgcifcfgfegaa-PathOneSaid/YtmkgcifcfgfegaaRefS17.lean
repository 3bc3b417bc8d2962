/-
  What the document's Same does (chapter 17), for every two trees; and that it tells whether they are one; no condition but bounds.
-/
import Derived.Test.YtmkgcifcfgfegaaRefO17

namespace Go.Proofs.Ytmkgcifcfgfegaa
set_option maxRecDepth 100000
open Go.RowKit
mutual
/-- Are two trees alike? -/
def sameT : Tree → Tree → Bool
  | .node o l, .node p m => decide (o = p) && sameK l m
def sameK : List (List UInt8 × Tree) → List (List UInt8 × Tree) → Bool
  | [], [] => true
  | (n, t) :: l, (k, u) :: m => (n == k) && sameT t u && sameK l m
  | _, _ => false
end
theorem sameK_len : ∀ {l m : List Kid}, sameK l m = true → l.length = m.length
  | [], [], _ => rfl
  | [], _ :: _, h => by rw [sameK] at h; cases h; all_goals simp
  | _ :: _, [], h => by rw [sameK] at h; cases h; all_goals simp
  | (n, t) :: l, (k, u) :: m, h => by
    rw [sameK, Bool.and_eq_true] at h
    rw [List.length_cons, List.length_cons, sameK_len h.2]
theorem sameT_iff : ∀ t u : Tree, sameT t u = true ↔ t = u := by
  refine Tree.ind ?_
  intro o l ih u
  cases u with
  | node p m =>
    have q : ∀ l' : List Kid, (∀ x ∈ l', x ∈ l) → ∀ m', sameK l' m' = true ↔ l' = m' := fun l' => by
      induction l' with
      | nil => intro _ m'; cases m' with
        | nil => rw [sameK]; simp
        | cons y m' => rw [sameK]; all_goals simp
      | cons x l' ihl =>
        intro hm m'
        obtain ⟨n, t⟩ := x
        cases m' with
        | nil => rw [sameK]; all_goals simp
        | cons y m' =>
          obtain ⟨k, u⟩ := y
          have h1 : sameT t u = true ↔ t = u := ih (n, t) (hm _ (.head _)) u
          have h2 := ihl (fun z hz => hm z (.tail _ hz)) m'
          rw [sameK, Bool.and_eq_true, Bool.and_eq_true, h1, h2, beq_iff_eq]
          simp [and_assoc]
    rw [sameT, Bool.and_eq_true, decide_eq_true_iff, q l (fun _ h => h) m]
    simp
theorem sameK_step {l m : List Kid} {k : Nat} (h : k < l.length) (h' : k < m.length) : sameK (l.drop k) (m.drop k) = (((l[k]).1 == (m[k]).1) && sameT (l[k]).2 (m[k]).2 && sameK (l.drop (k + 1)) (m.drop (k + 1))) := by
  rw [List.drop_eq_getElem_cons h, List.drop_eq_getElem_cons h']
  obtain ⟨n, t⟩ := l[k]
  obtain ⟨k, u⟩ := m[k]
  rw [sameK]
theorem after_grown {W : World} {M : Nat → Prop} {t : Tree} {cs : List Value} (h : TreeAt W M t cs) (hM : ∀ k, M k → k < W.heap.size) (d os) : TreeAt (Sort.grow (redrawn W d) os) (· < (Sort.grow (redrawn W d) os).heap.size) t cs :=
  TreeAt.weaken (fun j hj => Nat.lt_of_lt_of_le (hM j hj) (below_regrown W d os).size) _ _ (TreeAt.keep (fun j hj => (below_regrown W d os).block j (hM j hj)) _ _ h)
set_option maxHeartbeats 8000000 in
theorem refSame_any : ∀ (t : Tree) (cs : List Value) (u : Tree) (ds : List Value) (w : World), TreeAt w (· < w.heap.size) t cs → TreeAt w (· < w.heap.size) u ds →
    Calls Try.prog 13 #[.agg cs.toArray, .agg ds.toArray] w fun e w' => e = .returned (.bool (sameT t u)) ∧ Below w.heap.size w w' := by
  refine Tree.ind ?_
  intro o l ih cs u ds w hT hU
  cases u with
  | node p m =>
  obtain ⟨Ab, cb, Ak, ck, rfl, _, hlen, hbytes, hkids⟩ := hT.open_
  obtain ⟨Bb, db, Bk, dk, rfl, _, hlen2, hbytes2, hkids2⟩ := hU.open_
  obtain ⟨R, hR⟩ : ∃ R, R = sameT (.node o l) (.node p m) := ⟨_, rfl⟩
  rw [← hR]
  rw [sameT] at hR
  have b1 : Below w.heap.size w (w.alloc (.cells (cellsV o Ab cb Ak l.length ck).toArray 26)) := (Below.refl _ _).alloc (Nat.le_refl _) _
  have b2 : Below w.heap.size w ((w.alloc (.cells (cellsV o Ab cb Ak l.length ck).toArray 26)).alloc (.cells (cellsV p Bb db Bk m.length dk).toArray 26)) := b1.alloc (by simp) _
  have g2 : ((w.alloc (.cells (cellsV o Ab cb Ak l.length ck).toArray 26)).alloc (.cells (cellsV p Bb db Bk m.length dk).toArray 26)).heap[w.heap.size + 1]? = some (.cells (cellsV p Bb db Bk m.length dk).toArray 26) := by
    have := heap_alloc_new (w.alloc (.cells (cellsV o Ab cb Ak l.length ck).toArray 26)) (.cells (cellsV p Bb db Bk m.length dk).toArray 26)
    simpa using this
  have g1 : ((w.alloc (.cells (cellsV o Ab cb Ak l.length ck).toArray 26)).alloc (.cells (cellsV p Bb db Bk m.length dk).toArray 26)).heap[w.heap.size]? = some (.cells (cellsV o Ab cb Ak l.length ck).toArray 26) :=
    (Below.heap_alloc _ _ _ (by simp)).trans (heap_alloc_new w _)
  have hA2 := (hbytes.keep (fun k hk => b2.block k hk)).weaken (fun k hk => Nat.lt_of_lt_of_le hk b2.size)
  have hB2 := (hbytes2.keep (fun k hk => b2.block k hk)).weaken (fun k hk => Nat.lt_of_lt_of_le hk b2.size)
  have cO := Lib.hid (refOwn_any o p Ab Ak Bb Bk cb l.length ck db m.length dk _ hA2 hB2)
  have HK := Lib.hid hkids
  have HK2 := Lib.hid hkids2
  have HI := Lib.hid ih
  have HL : Hid (l.length ≤ 9223372036854775807) := hlen
  have HL2 : Hid (m.length ≤ 9223372036854775807) := hlen2
  have HB2 := Lib.hid b2
  have G1 := Lib.hid g1
  have G2 := Lib.hid g2
  clear b1 b2 hbytes hbytes2 hkids hkids2 ih hT hU hA2 hB2 hlen hlen2 g1 g2
  unfold cellsV at *
  go_enter Try.func13, Try.ntmps13
  go_upto_region 1 with fail
  generalize (w.alloc (.cells #[.int .i64 o.kind, .int .u64 (o.bits : Int), .int .u64 (o.high : Int), .int .u64 (o.low : Int), .string ⟨o.text.toArray⟩, .string ⟨o.more.toArray⟩, .int .i64 o.sub, .slice Ab o.bytes.length cb, .slice Ak l.length ck] 26)).alloc (.cells #[.int .i64 p.kind, .int .u64 (p.bits : Int), .int .u64 (p.high : Int), .int .u64 (p.low : Int), .string ⟨p.text.toArray⟩, .string ⟨p.more.toArray⟩, .int .i64 p.sub, .slice Bb p.bytes.length db, .slice Bk m.length dk] 26) = W at *
  have i0 : W.cell? ⟨w.heap.size, 0, none⟩ = some (.int .i64 o.kind) := by rw [block_cell G1.out]; rfl
  have i1 : W.cell? ⟨w.heap.size, 1, none⟩ = some (.int .u64 (o.bits : Int)) := by rw [block_cell G1.out]; rfl
  have i2 : W.cell? ⟨w.heap.size, 2, none⟩ = some (.int .u64 (o.high : Int)) := by rw [block_cell G1.out]; rfl
  have i3 : W.cell? ⟨w.heap.size, 3, none⟩ = some (.int .u64 (o.low : Int)) := by rw [block_cell G1.out]; rfl
  have i4 : W.cell? ⟨w.heap.size, 4, none⟩ = some (.string ⟨o.text.toArray⟩) := by rw [block_cell G1.out]; rfl
  have i5 : W.cell? ⟨w.heap.size, 5, none⟩ = some (.string ⟨o.more.toArray⟩) := by rw [block_cell G1.out]; rfl
  have i6 : W.cell? ⟨w.heap.size, 6, none⟩ = some (.int .i64 o.sub) := by rw [block_cell G1.out]; rfl
  have i7 : W.cell? ⟨w.heap.size, 7, none⟩ = some (.slice Ab o.bytes.length cb) := by rw [block_cell G1.out]; rfl
  have i8 : W.cell? ⟨w.heap.size, 8, none⟩ = some (.slice Ak l.length ck) := by rw [block_cell G1.out]; rfl
  have j0 : W.cell? ⟨w.heap.size + 1, 0, none⟩ = some (.int .i64 p.kind) := by rw [block_cell G2.out]; rfl
  have j1 : W.cell? ⟨w.heap.size + 1, 1, none⟩ = some (.int .u64 (p.bits : Int)) := by rw [block_cell G2.out]; rfl
  have j2 : W.cell? ⟨w.heap.size + 1, 2, none⟩ = some (.int .u64 (p.high : Int)) := by rw [block_cell G2.out]; rfl
  have j3 : W.cell? ⟨w.heap.size + 1, 3, none⟩ = some (.int .u64 (p.low : Int)) := by rw [block_cell G2.out]; rfl
  have j4 : W.cell? ⟨w.heap.size + 1, 4, none⟩ = some (.string ⟨p.text.toArray⟩) := by rw [block_cell G2.out]; rfl
  have j5 : W.cell? ⟨w.heap.size + 1, 5, none⟩ = some (.string ⟨p.more.toArray⟩) := by rw [block_cell G2.out]; rfl
  have j6 : W.cell? ⟨w.heap.size + 1, 6, none⟩ = some (.int .i64 p.sub) := by rw [block_cell G2.out]; rfl
  have j7 : W.cell? ⟨w.heap.size + 1, 7, none⟩ = some (.slice Bb p.bytes.length db) := by rw [block_cell G2.out]; rfl
  have j8 : W.cell? ⟨w.heap.size + 1, 8, none⟩ = some (.slice Bk m.length dk) := by rw [block_cell G2.out]; rfl
  go_wp2_with fail
  refine (cO.out).mono ?_
  rintro e w1 ⟨rfl, B1⟩
  have HB3 := Lib.hid (low17 HB2.out B1)
  have G3 := Lib.hid ((B1.block _ (block_lt G1.out)).trans G1.out)
  have G4 := Lib.hid ((B1.block _ (block_lt G2.out)).trans G2.out)
  clear B1 cO HB2 G1 G2 i0 i1 i2 i3 i4 i5 i6 i7 i8 j0 j1 j2 j3 j4 j5 j6 j7 j8
  have i8 : w1.cell? ⟨w.heap.size, 8, none⟩ = some (.slice Ak l.length ck) := by rw [block_cell G3.out]; rfl
  have j8 : w1.cell? ⟨w.heap.size + 1, 8, none⟩ = some (.slice Bk m.length dk) := by rw [block_cell G4.out]; rfl
  cases hop : decide (o = p) with
  | false =>
    rw [hop] at hR
    have HE : Hid (R = false) := hR
    clear hR hop
    go_wp2_with fail
    go_ret
    exact ⟨by rw [HE.out]; rfl, HB3.out⟩
  | true =>
  rw [hop, Bool.true_and] at hR
  by_cases hlm : l.length = m.length
  rotate_left 1
  · have n1 : ((l.length : Int) == (m.length : Int)) = false := beq_eq_false_iff_ne.2 (by omega)
    have n2 : ((l.length : Int) != (m.length : Int)) = true := by rw [bne, n1]; rfl
    have HE : Hid (R = false) := show _ = _ by
      rw [hR]
      cases e : sameK l m with
      | false => rfl
      | true => exact absurd (sameK_len e) hlm
    clear hR hop hlm
    go_wp2_with fail
    go_ret
    exact ⟨by rw [HE.out]; rfl, HB3.out⟩
  have n1 : ((l.length : Int) == (m.length : Int)) = true := by rw [hlm]; exact beq_self_eq_true _
  have n2 : ((l.length : Int) != (m.length : Int)) = false := by rw [bne, n1]; rfl
  have HLM := Lib.hid hlm
  have HR : Hid (R = sameK (l.drop 0) (m.drop 0)) := hR
  clear hR hop hlm
  go_wp2_with fail
  clear n1 n2 i8 j8
  go_loopw [5] (fun i wr => (Below w.heap.size w wr ∧ wr.heap[w.heap.size]? = some (.cells #[.int .i64 o.kind, .int .u64 (o.bits : Int), .int .u64 (o.high : Int), .int .u64 (o.low : Int), .string ⟨o.text.toArray⟩, .string ⟨o.more.toArray⟩, .int .i64 o.sub, .slice Ab o.bytes.length cb, .slice Ak l.length ck] 26) ∧ wr.heap[w.heap.size + 1]? = some (.cells #[.int .i64 p.kind, .int .u64 (p.bits : Int), .int .u64 (p.high : Int), .int .u64 (p.low : Int), .string ⟨p.text.toArray⟩, .string ⟨p.more.toArray⟩, .int .i64 p.sub, .slice Bb p.bytes.length db, .slice Bk m.length dk] 26)) ∧ ∃ k : Nat, k ≤ l.length ∧ i = .int .i64 (k : Int) ∧ R = sameK (l.drop k) (m.drop k)) (fun i _ => l.length - natV i)
  case atStart => exact ⟨⟨HB3.out, G3.out, G4.out⟩, 0, Nat.zero_le _, rfl, HR.out⟩
  case round =>
    obtain ⟨⟨hB, hb, hb2⟩, k, hk, rfl, hr⟩ := hrel
    have HB := Lib.hid hB
    have Hbb := Lib.hid hb
    have Hbb2 := Lib.hid hb2
    have i8 : wr.cell? ⟨w.heap.size, 8, none⟩ = some (.slice Ak l.length ck) := by rw [block_cell hb]; rfl
    have j8 : wr.cell? ⟨w.heap.size + 1, 8, none⟩ = some (.slice Bk m.length dk) := by rw [block_cell hb2]; rfl
    by_cases hlt : k < l.length
    · have hlt2 : k < m.length := by rw [← HLM.out]; exact hlt
      have d1 : decide ((k : Int) < (l.length : Int)) = true := decide_eq_true (by omega)
      have d1n : decide (k < l.length) = true := decide_eq_true hlt
      rw [sameK_step hlt hlt2] at hr
      obtain ⟨b, off, rfl, hbl, hK⟩ := HK.out (fun e => by rw [e] at hlt; exact absurd hlt (Nat.not_lt_zero _))
      obtain ⟨b', off', rfl, hbl', hK'⟩ := HK2.out (fun e => by rw [e] at hlt2; exact absurd hlt2 (Nat.not_lt_zero _))
      obtain ⟨c0, c1, c2, c3, c4, c5, c6, c7, c8, hn, _, ⟨p0, p1, p2, p3, p4, p5, p6, p7, p8⟩, hT2⟩ := kid_at hK hB hbl k hlt
      obtain ⟨a0, a1, a2, a3, a4, a5, a6, a7, a8, hn', _, ⟨q0, q1, q2, q3, q4, q5, q6, q7, q8⟩, hU2⟩ := kid_at hK' hB hbl' k hlt2
      obtain ⟨nm, hnm⟩ : ∃ nm, nm = l[k].1 := ⟨_, rfl⟩
      obtain ⟨nm', hnm'⟩ : ∃ nm, nm = m[k].1 := ⟨_, rfl⟩
      rw [← hnm] at hn hr
      rw [← hnm'] at hn' hr
      have hlti : (k : Int) < (l.length : Int) := by omega
      have hlti2 : (k : Int) < (m.length : Int) := by omega
      have HK1 : Hid (k + 1 ≤ l.length) := hlt
      have u2 : Hid (wrap64 ((k : Int) + 1) = ((k + 1 : Nat) : Int)) := show _ = _ from w63 (by omega) (by have := HL.out; omega)
      have ri8 := cell_regrown i8; have rj8 := cell_regrown j8; have rn := cell_regrown hn; have rn' := cell_regrown hn'
      by_cases hnn : nm = nm'
      · have e1 : (nm == nm') = true := beq_iff_eq.2 hnn
        rw [e1, Bool.true_and] at hr
        have cI := fun d os => Calls.regrown_of (HI.out l[k] (List.getElem_mem hlt) _ m[k].2 _ _ (after_grown hT2 (fun _ h => h) d os) (after_grown hU2 (fun _ h => h) d os))
        obtain ⟨v, hv⟩ : ∃ v, v = sameT l[k].2 m[k].2 := ⟨_, rfl⟩
        have cI : ∀ d os, Calls Try.prog 13 #[.agg #[c0, c1, c2, c3, c4, c5, c6, c7, c8], .agg #[a0, a1, a2, a3, a4, a5, a6, a7, a8]] (Sort.grow (redrawn wr d) os) fun x w'' => x = .returned (.bool v) ∧ ∃ p : Regrown, w'' = Sort.grow (redrawn wr p.d) p.os := fun d os => by rw [hv]; exact cI d os
        subst hnn
        have HE : Hid (R = (v && sameK (l.drop (k + 1)) (m.drop (k + 1)))) := show _ = _ by rw [hv]; exact hr

        have rp0 := cell_regrown p0; have rq0 := cell_regrown q0
        have rp1 := cell_regrown p1; have rq1 := cell_regrown q1
        have rp2 := cell_regrown p2; have rq2 := cell_regrown q2
        have rp3 := cell_regrown p3; have rq3 := cell_regrown q3
        have rp4 := cell_regrown p4; have rq4 := cell_regrown q4
        have rp5 := cell_regrown p5; have rq5 := cell_regrown q5
        have rp6 := cell_regrown p6; have rq6 := cell_regrown q6
        have rp7 := cell_regrown p7; have rq7 := cell_regrown q7
        have rp8 := cell_regrown p8; have rq8 := cell_regrown q8
        clear hr hv hnm hnm' hT2 hU2 hK hK' hk hB hb hb2 p0 p1 p2 p3 p4 p5 p6 p7 p8 q0 q1 q2 q3 q4 q5 q6 q7 q8 hn hn' hbl hbl'
        cases v
        case false =>
          go_upto_region 6 with fail
          refine wp_region_quiet_below (by kernel_rfl) (by kernel_rfl) ?_
          repeat (go_big_quiet_step (first | with_reducible exact cI _ _))
          refine wpQuiet_nil ?_
          intro _ hw'
          obtain ⟨⟨dq, osq⟩, hw''⟩ := hw'
          subst hw''
          have HB5 := Lib.hid (HB.out.trans ((below_regrown wr dq osq).mono HB.out.size))
          clear cI
          go_wp2_with fail
          go_ret
          exact ⟨by rw [HE.out]; rfl, HB5.out⟩
        case true =>
          go_upto_region 6 with fail
          refine wp_region_quiet_below (by kernel_rfl) (by kernel_rfl) ?_
          repeat (go_big_quiet_step (first | with_reducible exact cI _ _))
          refine wpQuiet_nil ?_
          intro _ hw'
          obtain ⟨⟨dq, osq⟩, hw''⟩ := hw'
          subst hw''
          have HB5 := Lib.hid (HB.out.trans ((below_regrown wr dq osq).mono HB.out.size))
          have G5 := Lib.hid (((below_regrown wr dq osq).block _ (block_lt Hbb.out)).trans Hbb.out)
          have G6 := Lib.hid (((below_regrown wr dq osq).block _ (block_lt Hbb2.out)).trans Hbb2.out)
          rw [Bool.true_and] at HE
          clear cI ri8 rj8 rn rn' rp0 rp1 rp2 rp3 rp4 rp5 rp6 rp7 rp8 rq0 rq1 rq2 rq3 rq4 rq5 rq6 rq7 rq8
          generalize Sort.grow (redrawn wr dq) osq = w2 at *
          go_wp2_with fail
          go_roundw
          case rel => exact ⟨⟨HB5.out, G5.out, G6.out⟩, k + 1, HK1.out, by rw [u2.out], HE.out⟩
          case measure => rw [u2.out]; have := HK1.out; simp [natV]; omega
      · have e1 : (nm == nm') = false := beq_eq_false_iff_ne.2 hnn
        have HE : Hid (R = false) := show _ = _ from hr.trans (by rw [e1]; rfl)
        clear hr hnm hnm' hT2 hU2 hK hK' hk hB hb hb2 p0 p1 p2 p3 p4 p5 p6 p7 p8 q0 q1 q2 q3 q4 q5 q6 q7 q8 hn hn' hbl hbl'
        go_upto_region 6 with fail
        refine wp_region_quiet_below (by kernel_rfl) (by kernel_rfl) ?_
        repeat (go_big_quiet_step (fail))
        refine wpQuiet_nil ?_
        intro _ hw'
        obtain ⟨⟨dq, osq⟩, hw''⟩ := hw'
        subst hw''
        have HB5 := Lib.hid (HB.out.trans ((below_regrown wr dq osq).mono HB.out.size))
        go_wp2_with fail
        go_ret
        exact ⟨by rw [HE.out]; rfl, HB5.out⟩
    · obtain rfl : k = l.length := by omega
      have d1 : decide ((l.length : Int) < (l.length : Int)) = false := decide_eq_false (by omega)
      have d1n : decide (l.length < l.length) = false := decide_eq_false (by omega)
      have HE : Hid (R = true) := show _ = _ by
        rw [hr, List.drop_length, HLM.out, List.drop_length, sameK]
      clear hr hlt hk hB hb hb2
      go_wp2_with fail
      go_ret
      exact ⟨by rw [HE.out]; rfl, HB.out⟩
end Go.Proofs.Ytmkgcifcfgfegaa
