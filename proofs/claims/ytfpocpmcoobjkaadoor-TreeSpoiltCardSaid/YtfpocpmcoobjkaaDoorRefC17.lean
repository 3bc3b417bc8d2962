/-
  What the document's check and Check do (chapter 17): the path of the first value that is no value, and its error; by induction over trees, no condition but bounds.
-/
import Derived.Test.YtfpocpmcoobjkaaDoorRefE17
import Derived.Test.YtfpocpmcoobjkaaDoorRefG17
import Derived.Test.YtfpocpmcoobjkaaDoorBookV17
namespace Go.Proofs.YtfpocpmcoobjkaaDoor
set_option maxRecDepth 100000
open Go.RowKit

def ownN (o : OwnV) (nk : Nat) (nm : List UInt8) : Int := if ownE o nk = 0 ∧ namedB nm = false then 4 else ownE o nk
mutual
/-- The path of the first value that is no value, and its error. -/
def chkT : Tree → List UInt8 → List Int → List Int × Int
  | .node o l, nm, p => if ownN o l.length nm = 0 then chkK l 0 p else (p, ownN o l.length nm)
def chkK : List (List UInt8 × Tree) → Nat → List Int → List Int × Int
  | [], _, _ => ([], 0)
  | (n, t) :: l, i, p => if (chkT t n (p ++ [(i : Int)])).2 = 0 then chkK l (i + 1) p else chkT t n (p ++ [(i : Int)])
end
mutual
/-- Its texts are no longer than a law asks. -/
def fewT : Tree → Prop
  | .node o l => o.text.length ≤ 100000000 ∧ o.more.length ≤ 100000000 ∧ fewK l
def fewK : List (List UInt8 × Tree) → Prop
  | [] => True
  | (n, t) :: l => n.length ≤ 100000000 ∧ fewT t ∧ fewK l
end
theorem fewK_get : ∀ {l : List Kid} {k : Nat} (_ : fewK l) (h : k < l.length), (l[k]).1.length ≤ 100000000 ∧ fewT (l[k]).2
  | (_, _) :: _, 0, hf, _ => by rw [fewK] at hf; exact ⟨hf.1, hf.2.1⟩
  | (_, _) :: _, _ + 1, hf, h => by rw [fewK] at hf; exact fewK_get hf.2.2 (Nat.lt_of_succ_lt_succ h)
theorem chkK_step {l : List Kid} {k : Nat} (h : k < l.length) (i : Nat) (p : List Int) : chkK (l.drop k) i p = if (chkT (l[k]).2 (l[k]).1 (p ++ [(i : Int)])).2 = 0 then chkK (l.drop (k + 1)) (i + 1) p else chkT (l[k]).2 (l[k]).1 (p ++ [(i : Int)]) := by
  rw [List.drop_eq_getElem_cons h, chkK]

theorem Ints.on {w w' : World} {A : Option Addr} {n : Nat} {xs : List Int} (h : Ints w (· < w.heap.size) A n xs) (hB : Below w.heap.size w w') : Ints w' (· < w'.heap.size) A n xs :=
  (h.keep (fun k hk => hB.block k hk)).weaken (fun _ hk => Nat.lt_of_lt_of_le hk hB.size)
/-- The answer, of a pair. -/
def AnsC (w : World) (r : List Int × Int) (e : Ending) (w' : World) : Prop :=
  (∃ A n c, e = .returned (.tuple #[.slice A n c, .int .i64 r.2]) ∧ Ints w' (· < w'.heap.size) A n r.1) ∧ Below w.heap.size w w'
set_option maxHeartbeats 4000000 in
theorem refCheck_any : ∀ (t : Tree) (cs : List Value) (nm : List UInt8) (A : Option Addr) (n c : Nat) (p : List Int) (w : World), cntT t + n ≤ 1000000 → fewT t → nm.length ≤ 100000000 → TreeAt w (· < w.heap.size) t cs → Ints w (· < w.heap.size) A n p →
    Calls Tryd.prog 33 #[.agg cs.toArray, .string ⟨nm.toArray⟩, .slice A n c] w (AnsC w (chkT t nm p)) := by
  refine Tree.ind ?_
  intro o l ih cs nm A n c p w hc hf hnm hT hP
  obtain ⟨Ab, cb, Ak, ck, rfl, hfit, hlen, hbytes, hkids⟩ := hT.open_
  obtain ⟨R, hR⟩ : ∃ R, R = chkT (.node o l) nm p := ⟨_, rfl⟩
  rw [← hR]
  rw [chkT] at hR
  rw [cntT] at hc
  rw [fewT] at hf
  have B0 : Below w.heap.size w (w.alloc (.cells (cellsV o Ab cb Ak l.length ck).toArray 26)) := (Below.refl _ _).alloc (Nat.le_refl _) _
  have hb : (w.alloc (.cells (cellsV o Ab cb Ak l.length ck).toArray 26)).heap[w.heap.size]? = some (.cells (cellsV o Ab cb Ak l.length ck).toArray 26) := heap_alloc_new w _
  have HK := Lib.hid hkids
  have HI := Lib.hid ih
  have HP := Lib.hid hP
  have HF := Lib.hid hf.2.2
  have HC := Lib.hid hc
  have HL : Hid (l.length ≤ 1000000) := show _ ≤ _ by have := len_le_cnt l; omega
  have cE := Lib.hid fun w => own_any o Ab Ak cb l.length ck hf.1 hf.2.1 w
  have cN := Lib.hid fun w => refNamed_any nm hnm w
  obtain ⟨e0, he0⟩ : ∃ e, e = ownE o l.length := ⟨_, rfl⟩
  obtain ⟨q, hq⟩ : ∃ q, q = namedB nm := ⟨_, rfl⟩
  unfold ownN at hR
  rw [← he0] at cE
  rw [← he0, ← hq] at hR
  rw [← hq] at cN
  have HR0 := Lib.hid hR
  clear hc hf hnm hfit hlen hbytes hkids ih hT hP he0 hq hR
  unfold cellsV at *
  go_enter Tryd.func33, Tryd.ntmps33
  go_upto_region 1 with fail
  have HB0 := Lib.hid B0
  have Hb := Lib.hid hb
  generalize w.alloc (.cells #[.int .i64 o.kind, .int .u64 (o.bits : Int), .int .u64 (o.high : Int), .int .u64 (o.low : Int), .string ⟨o.text.toArray⟩, .string ⟨o.more.toArray⟩, .int .i64 o.sub, .slice Ab o.bytes.length cb, .slice Ak l.length ck] 26) = W at *
  have j0 : W.cell? ⟨w.heap.size, 0, none⟩ = some (.int .i64 o.kind) := by rw [block_cell hb]; rfl
  have j1 : W.cell? ⟨w.heap.size, 1, none⟩ = some (.int .u64 (o.bits : Int)) := by rw [block_cell hb]; rfl
  have j2 : W.cell? ⟨w.heap.size, 2, none⟩ = some (.int .u64 (o.high : Int)) := by rw [block_cell hb]; rfl
  have j3 : W.cell? ⟨w.heap.size, 3, none⟩ = some (.int .u64 (o.low : Int)) := by rw [block_cell hb]; rfl
  have j4 : W.cell? ⟨w.heap.size, 4, none⟩ = some (.string ⟨o.text.toArray⟩) := by rw [block_cell hb]; rfl
  have j5 : W.cell? ⟨w.heap.size, 5, none⟩ = some (.string ⟨o.more.toArray⟩) := by rw [block_cell hb]; rfl
  have j6 : W.cell? ⟨w.heap.size, 6, none⟩ = some (.int .i64 o.sub) := by rw [block_cell hb]; rfl
  have j7 : W.cell? ⟨w.heap.size, 7, none⟩ = some (.slice Ab o.bytes.length cb) := by rw [block_cell hb]; rfl
  have j8 : W.cell? ⟨w.heap.size, 8, none⟩ = some (.slice Ak l.length ck) := by rw [block_cell hb]; rfl
  clear B0 hb
  go_wp2_with fail
  refine (cE.out _).mono ?_
  rintro e w1 ⟨rfl, B1⟩
  have HB1 := Lib.hid (low17 HB0.out B1)
  have Hb1 := Lib.hid ((B1.block _ (block_lt Hb.out)).trans Hb.out)
  clear B1 cE HB0 Hb j0 j1 j2 j3 j4 j5 j6 j7 j8
  by_cases z : e0 = 0
  rotate_left 1
  · have y1 : (e0 == 0) = false := beq_eq_false_iff_ne.2 z
    have y2 : (e0 != 0) = true := by rw [bne, y1]; rfl
    have HE : Hid (R = (p, e0)) := show _ = _ by
      have g : (if e0 = 0 ∧ q = false then 4 else e0) = e0 := if_neg (fun h => z h.1)
      rw [HR0.out, g, if_neg z]
    clear HR0 cN
    go_wp2_with fail
    go_ret2
    refine ⟨⟨A, n, c, by rw [HE.out]; rfl, ?_⟩, HB1.out⟩
    rw [HE.out]
    exact HP.out.on HB1.out
  subst z
  cases q with
  | false =>
    have HE : Hid (R = (p, 4)) := show _ = _ by
      rw [HR0.out]; rfl
    clear HR0
    go_wp2_with fail
    refine (cN.out _).mono ?_
    rintro e w2 ⟨rfl, B2⟩
    have HB2 := Lib.hid (low17 HB1.out B2)
    clear B2 cN HB1 Hb1
    go_wp2_with fail
    go_ret2
    refine ⟨⟨A, n, c, by rw [HE.out]; rfl, ?_⟩, HB2.out⟩
    rw [HE.out]
    exact HP.out.on HB2.out
  | true =>
    have HR : Hid (R = chkK (l.drop 0) 0 p) := show _ = _ by
      rw [HR0.out]; rfl
    clear HR0
    go_wp2_with fail
    refine (cN.out _).mono ?_
    rintro e w2 ⟨rfl, B2⟩
    have HB2 := Lib.hid (low17 HB1.out B2)
    have Hb2 := Lib.hid ((B2.block _ (block_lt Hb1.out)).trans Hb1.out)
    clear B2 cN HB1 Hb1
    go_wp2_with fail
    go_loopw [9, 10, 11] (fun i x y wr => (Below w.heap.size w wr ∧ wr.heap[w.heap.size]? = some (.cells #[.int .i64 o.kind, .int .u64 (o.bits : Int), .int .u64 (o.high : Int), .int .u64 (o.low : Int), .string ⟨o.text.toArray⟩, .string ⟨o.more.toArray⟩, .int .i64 o.sub, .slice Ab o.bytes.length cb, .slice Ak l.length ck] 26)) ∧ ∃ k : Nat, k ≤ l.length ∧ i = .int .i64 (k : Int) ∧ R = chkK (l.drop k) k p) (fun i _ _ _ => l.length - natV i)
    case atStart => exact ⟨⟨HB2.out, Hb2.out⟩, 0, Nat.zero_le _, rfl, HR.out⟩
    case round =>
      obtain ⟨⟨hB, hb⟩, k, hk, rfl, hr⟩ := hrel
      have HB := Lib.hid hB
      have Hbb := Lib.hid hb
      have j8 : wr.cell? ⟨w.heap.size, 8, none⟩ = some (.slice Ak l.length ck) := by rw [block_cell hb]; rfl
      by_cases hlt : k < l.length
      · have d1 : decide ((k : Int) < (l.length : Int)) = true := decide_eq_true (by omega)
        have d1n : decide (k < l.length) = true := decide_eq_true hlt
        obtain ⟨b, off, rfl, hbl, hK⟩ := HK.out (fun e => by rw [e] at hlt; exact absurd hlt (Nat.not_lt_zero _))
        obtain ⟨c0, c1, c2, c3, c4, c5, c6, c7, c8, hn, hnl, ⟨p0, p1, p2, p3, p4, p5, p6, p7, p8⟩, hT2⟩ := kid_at hK hB hbl k hlt
        rw [chkK_step hlt] at hr
        have hkc := cntT_kid hlt
        have hc := HC.out
        have hfk := fewK_get HF.out hlt
        have cV := Lib.hid fun (V : World) (hV : Below wr.heap.size wr V) (A' : Option Addr) (c' : Nat) (hI : Ints V (· < V.heap.size) A' (n + 1) (p ++ [(k : Int)])) =>
          HI.out l[k] (List.getElem_mem hlt) _ (l[k]).1 A' (n + 1) c' (p ++ [(k : Int)]) V (by omega) hfk.2 hfk.1 (TreeAt.weaken (fun j hj => Nat.lt_of_lt_of_le hj hV.size) _ _ (TreeAt.keep (fun j hj => hV.block j hj) _ _ hT2)) hI
        have cL := Lib.hid fun (V : World) (hV : Below wr.heap.size wr V) => longer_any A n c p (k : Int) V ((HP.out.on hB).on hV) (by omega)
        obtain ⟨nm2, hnm2⟩ : ∃ nm, nm = l[k].1 := ⟨_, rfl⟩
        rw [← hnm2] at hn hr cV
        obtain ⟨r2, hr2⟩ : ∃ r, r = chkT (l[k]).2 nm2 (p ++ [(k : Int)]) := ⟨_, rfl⟩
        rw [← hr2] at hr cV
        obtain ⟨P2, E2⟩ := r2
        have hr : R = if E2 = 0 then chkK (l.drop (k + 1)) (k + 1) p else (P2, E2) := hr
        have HE := Lib.hid hr
        have HK1 : Hid (k + 1 ≤ l.length) := hlt
        have u2 : Hid (wrap64 ((k : Int) + 1) = ((k + 1 : Nat) : Int)) := show _ = _ from w63 (by omega) (by have := HL.out; omega)
        have HLT := Lib.hid (Nat.lt_of_lt_of_le hbl hB.size)
        clear hr hr2 hnm2 hkc hc hfk hT2 hnl hK hbl hk hB hb
        go_upto_region 9 with fail
        have hlti : (k : Int) < (l.length : Int) := by omega
        have hlt0 : (0 : Int) ≤ (k : Int) := by omega
        go_region_held3 (fun V : World => V.cell? ⟨w.heap.size, 8, none⟩ = some (.slice (some ⟨b, off, none⟩) l.length ck) ∧ V.cell? ⟨b, off + k * 10, none⟩ = some (.string ⟨nm2.toArray⟩) ∧ V.cell? ⟨b, off + k * 10 + 1, none⟩ = some c0 ∧ V.cell? ⟨b, off + k * 10 + 2, none⟩ = some c1 ∧ V.cell? ⟨b, off + k * 10 + 3, none⟩ = some c2 ∧ V.cell? ⟨b, off + k * 10 + 4, none⟩ = some c3 ∧ V.cell? ⟨b, off + k * 10 + 5, none⟩ = some c4 ∧ V.cell? ⟨b, off + k * 10 + 6, none⟩ = some c5 ∧ V.cell? ⟨b, off + k * 10 + 7, none⟩ = some c6 ∧ V.cell? ⟨b, off + k * 10 + 8, none⟩ = some c7 ∧ V.cell? ⟨b, off + k * 10 + 9, none⟩ = some c8)
          ((refine ⟨?_, ?_, ?_, ?_, ?_, ?_, ?_, ?_, ?_, ?_, ?_⟩ <;> (repeat (first | with_reducible refine cell_drew ?_ | with_reducible refine cell_low B2 ?_ | with_reducible refine cell_low B1 ?_)) <;> (first | with_reducible exact j8 | with_reducible exact hn | with_reducible exact p0 | with_reducible exact p1 | with_reducible exact p2 | with_reducible exact p3 | with_reducible exact p4 | with_reducible exact p5 | with_reducible exact p6 | with_reducible exact p7 | with_reducible exact p8)))
          (first | (go_at_call 45; (with_reducible refine (cL.out _ (Below.refl _ _).drew).mono ?_); rintro e w1 ⟨⟨A', c', rfl, I1⟩, B1⟩) | (go_at_call 33; (with_reducible refine (cV.out _ (low17 (Below.refl wr.heap.size wr).drew B1) A' c' I1).mono ?_); rintro e w2 ⟨⟨A2, n2, c2, rfl, I2⟩, B2⟩))
        have q1 : Below wr.heap.size wr w1 := low17 (Below.refl wr.heap.size wr).drew B1
        have q2 := low17 q1 B2
        have HB5 := Lib.hid (low17 HB.out q2)
        have Hb5 := Lib.hid ((q2.block _ (block_lt Hbb.out)).trans Hbb.out)
        have HI2 := Lib.hid I2
        clear q1 q2 B1 B2 I1 I2 cV cL p0 p1 p2 p3 p4 p5 p6 p7 p8 j8 hn Hbb HB hlti hlt0 HLT
        by_cases z : E2 = 0
        · have HE2 : Hid (R = chkK (l.drop (k + 1)) (k + 1) p) := show _ = _ by rw [HE.out, if_pos z]
          subst z
          clear HE
          go_wp2_with fail
          go_roundw
          case rel => exact ⟨⟨HB5.out, Hb5.out⟩, k + 1, HK1.out, by rw [u2.out], HE2.out⟩
          case measure => rw [u2.out]; have := HK1.out; simp [natV]; omega
        · have y1 : (E2 == 0) = false := beq_eq_false_iff_ne.2 z
          have y2 : (E2 != 0) = true := by rw [bne, y1]; rfl
          have HE2 : Hid (R = (P2, E2)) := show _ = _ by rw [HE.out, if_neg z]
          clear HE
          go_wp2_with fail
          go_ret2
          refine ⟨⟨A2, n2, c2, by rw [HE2.out]; rfl, ?_⟩, HB5.out⟩
          rw [HE2.out]
          exact HI2.out
      · obtain rfl : k = l.length := by omega
        have d1 : decide ((l.length : Int) < (l.length : Int)) = false := decide_eq_false (by omega)
        have d1n : decide (l.length < l.length) = false := decide_eq_false (by omega)
        rw [List.drop_length, chkK] at hr
        have HE := Lib.hid hr
        clear hr hlt hk hB hb
        go_wp2_with fail
        go_ret2
        refine ⟨⟨none, 0, 0, by rw [HE.out]; rfl, ?_⟩, HB.out⟩
        rw [HE.out]
        exact ⟨rfl, fun h => absurd h (Nat.lt_irrefl _)⟩

theorem refCheckV_any (t : Tree) (cs : List Value) (w : World) (hc : cntT t ≤ 1000000) (hf : fewT t) (hT : TreeAt w (· < w.heap.size) t cs) :
    Calls Tryd.prog 12 #[.agg cs.toArray] w (AnsC w (chkT t [] [])) := by
  obtain ⟨o, l⟩ := t
  obtain ⟨Ab, cb, Ak, ck, rfl, _, _, _, _⟩ := hT.open_
  have B0 : Below w.heap.size w (w.alloc (.cells (cellsV o Ab cb Ak l.length ck).toArray 26)) := (Below.refl _ _).alloc (Nat.le_refl _) _
  have hb : (w.alloc (.cells (cellsV o Ab cb Ak l.length ck).toArray 26)).heap[w.heap.size]? = some (.cells (cellsV o Ab cb Ak l.length ck).toArray 26) := heap_alloc_new w _
  have cC := Lib.hid (refCheck_any (.node o l) (cellsV o Ab cb Ak l.length ck) [] none 0 0 [] _ hc hf (by simp) (TreeAt.weaken (fun j hj => Nat.lt_of_lt_of_le hj B0.size) _ _ (hT.on B0)) ⟨rfl, fun h => absurd h (Nat.lt_irrefl _)⟩)
  obtain ⟨⟨P, E⟩, hr⟩ : ∃ r, r = chkT (.node o l) [] [] := ⟨_, rfl⟩
  rw [← hr] at cC ⊢
  clear hr hT hc hf
  unfold cellsV at *
  go_enter Tryd.func12, Tryd.ntmps12
  go_upto_region 1 with fail
  have HB0 := Lib.hid B0
  generalize w.alloc (.cells #[.int .i64 o.kind, .int .u64 (o.bits : Int), .int .u64 (o.high : Int), .int .u64 (o.low : Int), .string ⟨o.text.toArray⟩, .string ⟨o.more.toArray⟩, .int .i64 o.sub, .slice Ab o.bytes.length cb, .slice Ak l.length ck] 26) = W at *
  have j0 : W.cell? ⟨w.heap.size, 0, none⟩ = some (.int .i64 o.kind) := by rw [block_cell hb]; rfl
  have j1 : W.cell? ⟨w.heap.size, 1, none⟩ = some (.int .u64 (o.bits : Int)) := by rw [block_cell hb]; rfl
  have j2 : W.cell? ⟨w.heap.size, 2, none⟩ = some (.int .u64 (o.high : Int)) := by rw [block_cell hb]; rfl
  have j3 : W.cell? ⟨w.heap.size, 3, none⟩ = some (.int .u64 (o.low : Int)) := by rw [block_cell hb]; rfl
  have j4 : W.cell? ⟨w.heap.size, 4, none⟩ = some (.string ⟨o.text.toArray⟩) := by rw [block_cell hb]; rfl
  have j5 : W.cell? ⟨w.heap.size, 5, none⟩ = some (.string ⟨o.more.toArray⟩) := by rw [block_cell hb]; rfl
  have j6 : W.cell? ⟨w.heap.size, 6, none⟩ = some (.int .i64 o.sub) := by rw [block_cell hb]; rfl
  have j7 : W.cell? ⟨w.heap.size, 7, none⟩ = some (.slice Ab o.bytes.length cb) := by rw [block_cell hb]; rfl
  have j8 : W.cell? ⟨w.heap.size, 8, none⟩ = some (.slice Ak l.length ck) := by rw [block_cell hb]; rfl
  clear B0 hb
  go_wp2_with fail
  refine (cC.out).mono ?_
  rintro e w1 ⟨⟨A, n, c, rfl, hI⟩, B1⟩
  have HB1 := Lib.hid (low17 HB0.out B1)
  have HI := Lib.hid hI
  clear B1 hI cC HB0 j0 j1 j2 j3 j4 j5 j6 j7 j8
  go_wp2_with fail
  go_ret2
  exact ⟨⟨A, n, c, rfl, HI.out⟩, HB1.out⟩
end Go.Proofs.YtfpocpmcoobjkaaDoor
