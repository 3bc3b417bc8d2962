/-
  What the document's Count, Kids and Depth do (chapter 17), for every tree; no condition but bounds.
-/
import Derived.Test.YtdaoekcabfapaaaTreeAt
import Derived.Laws.Concat
import Derived.Deep.Cut
import Derived.Deep.DeepCutAuto
import Derived.Deep.CutBlock
import Derived.BigFrame
import Derived.BigRegion
import Derived.BigQuiet
import Derived.StillTailTactics
import Derived.Deep.RegionHeld3
import Derived.Lib.QuietBelow
namespace Go.Proofs.Ytdaoekcabfapaaa
set_option maxRecDepth 100000
open Go.RowKit
theorem w64 {x : Int} {n : Nat} (h : x = (n : Int)) (h1 : n ≤ 4000000000000000000) : wrap64 x = (n : Int) := by subst h; unfold wrap64; omega
theorem low17 {w V w' : World} (h : Below w.heap.size w V) (B : Below V.heap.size V w') : Below w.heap.size w w' := h.trans (B.mono h.size)
def natV : Value → Nat
  | .int _ x => x.toNat
  | _ => 0
/-- One Kid's cells, under letters. -/
theorem kid_cells {w : World} {M : Nat → Prop} {b off : Nat} {x : Kid} (h : KidAt w M b off x) :
    ∃ c0 c1 c2 c3 c4 c5 c6 c7 c8 : Value, w.cell? ⟨b, off, none⟩ = some (.string ⟨x.1.toArray⟩) ∧ x.1.length ≤ maxLen ∧
      (w.cell? ⟨b, off + 1, none⟩ = some c0 ∧ w.cell? ⟨b, off + 2, none⟩ = some c1 ∧ w.cell? ⟨b, off + 3, none⟩ = some c2 ∧ w.cell? ⟨b, off + 4, none⟩ = some c3 ∧ w.cell? ⟨b, off + 5, none⟩ = some c4 ∧ w.cell? ⟨b, off + 6, none⟩ = some c5 ∧ w.cell? ⟨b, off + 7, none⟩ = some c6 ∧ w.cell? ⟨b, off + 8, none⟩ = some c7 ∧ w.cell? ⟨b, off + 9, none⟩ = some c8) ∧
      TreeAt w M x.2 [c0, c1, c2, c3, c4, c5, c6, c7, c8] := by
  obtain ⟨h1, h2, cs, h3, h4, h5⟩ := h
  match cs, h3 with
  | [c0, c1, c2, c3, c4, c5, c6, c7, c8], _ =>
    exact ⟨c0, c1, c2, c3, c4, c5, c6, c7, c8, h1, h2, ⟨h4 0 (by decide), h4 1 (by decide), h4 2 (by decide), h4 3 (by decide), h4 4 (by decide), h4 5 (by decide), h4 6 (by decide), h4 7 (by decide), h4 8 (by decide)⟩, h5⟩
/-- One Kid, in a later world. -/
theorem kid_at {w wr : World} {b off : Nat} {l : List Kid} (hK : KidsAt w (· < w.heap.size) b off l) (hB : Below w.heap.size w wr) (hbl : b < w.heap.size) (k : Nat) (h : k < l.length) :
    ∃ c0 c1 c2 c3 c4 c5 c6 c7 c8 : Value, wr.cell? ⟨b, off + k * 10, none⟩ = some (.string ⟨(l[k]).1.toArray⟩) ∧ (l[k]).1.length ≤ maxLen ∧
      (wr.cell? ⟨b, off + k * 10 + 1, none⟩ = some c0 ∧ wr.cell? ⟨b, off + k * 10 + 2, none⟩ = some c1 ∧ wr.cell? ⟨b, off + k * 10 + 3, none⟩ = some c2 ∧ wr.cell? ⟨b, off + k * 10 + 4, none⟩ = some c3 ∧ wr.cell? ⟨b, off + k * 10 + 5, none⟩ = some c4 ∧ wr.cell? ⟨b, off + k * 10 + 6, none⟩ = some c5 ∧ wr.cell? ⟨b, off + k * 10 + 7, none⟩ = some c6 ∧ wr.cell? ⟨b, off + k * 10 + 8, none⟩ = some c7 ∧ wr.cell? ⟨b, off + k * 10 + 9, none⟩ = some c8) ∧
      TreeAt wr (· < wr.heap.size) (l[k]).2 [c0, c1, c2, c3, c4, c5, c6, c7, c8] := by
  obtain ⟨c0, c1, c2, c3, c4, c5, c6, c7, c8, hn, hl, ⟨q0, q1, q2, q3, q4, q5, q6, q7, q8⟩, hT⟩ := kid_cells (kids_get hK k h)
  refine ⟨c0, c1, c2, c3, c4, c5, c6, c7, c8, (hB.cell hbl).trans hn, hl, ⟨(hB.cell hbl).trans q0, (hB.cell hbl).trans q1, (hB.cell hbl).trans q2, (hB.cell hbl).trans q3, (hB.cell hbl).trans q4, (hB.cell hbl).trans q5, (hB.cell hbl).trans q6, (hB.cell hbl).trans q7, (hB.cell hbl).trans q8⟩, ?_⟩
  exact TreeAt.weaken (fun j hj => Nat.lt_of_lt_of_le hj hB.size) _ _ (TreeAt.keep (fun j hj => hB.block j hj) _ _ hT)
theorem cntK_take {l : List Kid} {i : Nat} (h : i < l.length) : cntK (l.take (i + 1)) = cntK (l.take i) + cntT (l[i]).2 := by
  induction l generalizing i with
  | nil => exact absurd h (Nat.not_lt_zero _)
  | cons x l ih =>
    obtain ⟨n, t⟩ := x
    cases i with
    | zero => simp [cntK]
    | succ i =>
      have := ih (i := i) (by simpa using h)
      simp only [List.take_succ_cons, cntK, List.getElem_cons_succ]
      omega
theorem cntK_le {l : List Kid} (i : Nat) : cntK (l.take i) ≤ cntK l := by
  induction l generalizing i with
  | nil => simp [cntK]
  | cons x l ih =>
    obtain ⟨n, t⟩ := x
    cases i with
    | zero => simp [cntK]
    | succ i =>
      have := ih i
      simp only [List.take_succ_cons, cntK]
      omega
theorem cntT_kid {l : List Kid} {i : Nat} (h : i < l.length) : cntT (l[i]).2 ≤ cntK l := by
  have h1 := cntK_take h
  have h2 := cntK_le (l := l) (i + 1)
  omega
theorem cntT_pos (t : Tree) : 1 ≤ cntT t := by cases t; rw [cntT]; omega
theorem len_le_cnt (l : List Kid) : l.length ≤ cntK l := by
  induction l with
  | nil => exact Nat.le_refl _
  | cons x l ih =>
    obtain ⟨n, t⟩ := x
    have := cntT_pos t
    rw [cntK, List.length_cons]
    omega
/-- A Kind that has Kids. -/
def kidsB (k : Int) : Bool := decide (k = 3 ∨ k = 4 ∨ k = 15)
set_option maxHeartbeats 1000000 in
theorem refKids_any (k : Int) (w : World) :
    Calls Try.prog 22 #[.int .i64 k] w fun e w' => e = .returned (.bool (kidsB k)) ∧ w' = w := by
  obtain ⟨r, hr⟩ : ∃ r, r = kidsB k := ⟨_, rfl⟩
  rw [← hr]
  have C : ((k == 3) = true ∧ r = true) ∨ ((k == 3) = false ∧ (k == 4) = true ∧ r = true) ∨ ((k == 3) = false ∧ (k == 4) = false ∧ (k == 15) = r) := by
    rw [hr]
    unfold kidsB
    by_cases h3 : k = 3
    · exact .inl ⟨by simp [h3], by simp [h3]⟩
    · by_cases h4 : k = 4
      · exact .inr (.inl ⟨by simp [h3], by simp [h4], by simp [h4]⟩)
      · exact .inr (.inr ⟨by simp [h3], by simp [h4], by rw [Bool.eq_iff_iff]; simp [h3, h4]⟩)
  clear hr
  rcases C with ⟨h1, rfl⟩ | ⟨h1, h2, rfl⟩ | ⟨h1, h2, h3⟩
  rotate_left 2
  · cases r
    all_goals
      go_enter Try.func22, Try.ntmps22
      go_wp2_with fail
      go_ret
      exact ⟨by first | rfl | (simp; done), rfl⟩
  all_goals
    go_enter Try.func22, Try.ntmps22
    go_wp2_with fail
    go_ret
    exact ⟨by first | rfl | (simp; done), rfl⟩
mutual
/-- How deep. -/
def depT : Tree → Nat
  | .node o l => if kidsB o.kind = true then depK l + 1 else 0
def depK : List (List UInt8 × Tree) → Nat
  | [] => 0
  | (_, t) :: l => max (depT t) (depK l)
end
/-- The greatest of the first Kids, from the front. -/
def depF (l : List Kid) : Nat := l.foldl (fun n x => max n (depT x.2)) 0
theorem depF_from (l : List Kid) : ∀ a, l.foldl (fun n x => max n (depT x.2)) a = max a (depK l) := by
  induction l with
  | nil => intro a; simp [depK]
  | cons x l ih =>
    intro a
    obtain ⟨n, t⟩ := x
    rw [List.foldl_cons, ih, depK]
    show max (max a (depT t)) (depK l) = max a (max (depT t) (depK l))
    omega
theorem depF_all (l : List Kid) : depF l = depK l := by unfold depF; rw [depF_from]; omega
theorem depF_take {l : List Kid} {i : Nat} (h : i < l.length) : depF (l.take (i + 1)) = max (depF (l.take i)) (depT (l[i]).2) := by
  unfold depF
  rw [List.take_succ_eq_append_getElem h, List.foldl_append]
  rfl
theorem dep_cnt : ∀ t, depT t ≤ cntT t := by
  refine Tree.ind ?_
  intro o l ih
  have q : ∀ m : List Kid, (∀ x ∈ m, x ∈ l) → depK m ≤ cntK m := fun m => by
    induction m with
    | nil => intro _; exact Nat.le_refl _
    | cons x m ihm =>
      intro hm
      have h1 := ih x (hm x (.head _))
      have h2 := ihm fun y hy => hm y (.tail _ hy)
      obtain ⟨n, t⟩ := x
      have h1 : depT t ≤ cntT t := h1
      rw [depK, cntK]
      omega
  have := q l (fun _ h => h)
  rw [depT, cntT]
  split <;> omega
theorem depF_le (l : List Kid) (i : Nat) : depF (l.take i) ≤ cntK l := by
  rw [depF_all]
  have q : ∀ m : List Kid, depK m ≤ cntK m := fun m => by
    induction m with
    | nil => exact Nat.le_refl _
    | cons x m ihm =>
      obtain ⟨n, t⟩ := x
      have := dep_cnt t
      rw [depK, cntK]
      omega
  exact Nat.le_trans (q _) (cntK_le i)
set_option maxHeartbeats 4000000 in
theorem refDepth_any : ∀ (t : Tree) (cs : List Value) (w : World), cntT t ≤ 1000000 → TreeAt w (· < w.heap.size) t cs →
    Calls Try.prog 15 #[.agg cs.toArray] w fun e w' => e = .returned (.int .i64 ((depT t : Nat) : Int)) ∧ Below w.heap.size w w' := by
  refine Tree.ind ?_
  intro o l ih cs w hc hT
  obtain ⟨Ab, cb, Ak, ck, rfl, hfit, hlen, hbytes, hkids⟩ := hT.open_
  obtain ⟨R, hR⟩ : ∃ R, R = depT (.node o l) := ⟨_, rfl⟩
  rw [← hR]
  rw [depT] at hR
  rw [cntT] at hc
  have B0 : Below w.heap.size w (w.alloc (.cells (cellsV o Ab cb Ak l.length ck).toArray 26)) := (Below.refl _ _).alloc (Nat.le_refl _) _
  have hb : (w.alloc (.cells (cellsV o Ab cb Ak l.length ck).toArray 26)).heap[w.heap.size]? = some (.cells (cellsV o Ab cb Ak l.length ck).toArray 26) := heap_alloc_new w _
  have HK := Lib.hid hkids
  have HI := Lib.hid ih
  have HC := Lib.hid hc
  have HL : Hid (l.length ≤ 1000000) := show _ ≤ _ by have := len_le_cnt l; omega
  have cK := Lib.hid fun w => refKids_any o.kind w
  clear hc hfit hlen hbytes hkids ih hT
  unfold cellsV at *
  cases hkb : kidsB o.kind with
  | false =>
    rw [hkb] at cK hR
    have HR : Hid (R = 0) := hR
    clear hkb hR HK HI HC HL
    go_enter Try.func15, Try.ntmps15
    go_upto_region 1 with fail
    have HB0 := Lib.hid B0
    have j0 : (w.alloc (.cells #[.int .i64 o.kind, .int .u64 (o.bits : Int), .int .u64 (o.high : Int), .int .u64 (o.low : Int), .string ⟨o.text.toArray⟩, .string ⟨o.more.toArray⟩, .int .i64 o.sub, .slice Ab o.bytes.length cb, .slice Ak l.length ck] 26)).cell? ⟨w.heap.size, 0, none⟩ = some (.int .i64 o.kind) := by rw [block_cell hb]; rfl
    clear B0 hb
    generalize w.alloc (.cells #[.int .i64 o.kind, .int .u64 (o.bits : Int), .int .u64 (o.high : Int), .int .u64 (o.low : Int), .string ⟨o.text.toArray⟩, .string ⟨o.more.toArray⟩, .int .i64 o.sub, .slice Ab o.bytes.length cb, .slice Ak l.length ck] 26) = W at *
    go_wp2_with fail
    refine (cK.out _).mono ?_
    rintro e w5 ⟨rfl, hw⟩; subst w5
    go_wp2_with fail
    go_ret
    exact ⟨by rw [HR.out]; rfl, HB0.out⟩
  | true =>
    rw [hkb, if_pos rfl] at hR
    rw [hkb] at cK
    have HR : Hid (R = depF l + 1) := show _ = _ by rw [hR, depF_all]
    clear hkb hR
    go_enter Try.func15, Try.ntmps15
    go_upto_region 1 with fail
    have HB0 := Lib.hid B0
    have Hb := Lib.hid hb
    have j0 : (w.alloc (.cells #[.int .i64 o.kind, .int .u64 (o.bits : Int), .int .u64 (o.high : Int), .int .u64 (o.low : Int), .string ⟨o.text.toArray⟩, .string ⟨o.more.toArray⟩, .int .i64 o.sub, .slice Ab o.bytes.length cb, .slice Ak l.length ck] 26)).cell? ⟨w.heap.size, 0, none⟩ = some (.int .i64 o.kind) := by rw [block_cell hb]; rfl
    clear B0 hb
    generalize w.alloc (.cells #[.int .i64 o.kind, .int .u64 (o.bits : Int), .int .u64 (o.high : Int), .int .u64 (o.low : Int), .string ⟨o.text.toArray⟩, .string ⟨o.more.toArray⟩, .int .i64 o.sub, .slice Ab o.bytes.length cb, .slice Ak l.length ck] 26) = W at *
    go_wp2_with fail
    refine (cK.out _).mono ?_
    rintro e w5 ⟨rfl, hw⟩; subst w5
    clear cK
    go_wp2_with fail
    clear j0
    go_loopw [3, 4] (fun n i wr => (Below w.heap.size w wr ∧ wr.heap[w.heap.size]? = some (.cells #[.int .i64 o.kind, .int .u64 (o.bits : Int), .int .u64 (o.high : Int), .int .u64 (o.low : Int), .string ⟨o.text.toArray⟩, .string ⟨o.more.toArray⟩, .int .i64 o.sub, .slice Ab o.bytes.length cb, .slice Ak l.length ck] 26)) ∧ ∃ k : Nat, k ≤ l.length ∧ i = .int .i64 (k : Int) ∧ n = .int .i64 ((depF (l.take k) : Nat) : Int)) (fun _ i _ => l.length - natV i)
    case atStart => exact ⟨⟨HB0.out, Hb.out⟩, 0, Nat.zero_le _, rfl, rfl⟩
    case round =>
      obtain ⟨⟨hB, hb⟩, k, hk, rfl, rfl⟩ := hrel
      have HB := Lib.hid hB
      have Hbb := Lib.hid hb
      have hl := HL.out
      have j8 : wr.cell? ⟨w.heap.size, 8, none⟩ = some (.slice Ak l.length ck) := by rw [block_cell hb]; rfl
      by_cases hlt : k < l.length
      · have d1 : decide ((k : Int) < (l.length : Int)) = true := decide_eq_true (by omega)
        have d1n : decide (k < l.length) = true := decide_eq_true hlt
        obtain ⟨b, off, rfl, hbl, hK⟩ := HK.out (fun e => by rw [e] at hlt; exact absurd hlt (Nat.not_lt_zero _))
        obtain ⟨c0, c1, c2, c3, c4, c5, c6, c7, c8, hn, hnl, ⟨p0, p1, p2, p3, p4, p5, p6, p7, p8⟩, hT2⟩ := kid_at hK hB hbl k hlt
        have hst := depF_take hlt
        have hkc := cntT_kid hlt
        have hc := HC.out
        have cI := Lib.hid (HI.out l[k] (List.getElem_mem hlt) _ wr (by omega) hT2)
        obtain ⟨v, hv⟩ : ∃ v, v = depT l[k].2 := ⟨_, rfl⟩
        rw [← hv] at cI hst
        obtain ⟨n0, hn0⟩ : ∃ n0, n0 = depF (l.take k) := ⟨_, rfl⟩
        rw [← hn0] at hst ⊢
        have f2 : (k : Int) + 1 = ((k + 1 : Nat) : Int) := by omega
        have b2 : k + 1 ≤ 4000000000000000000 := by omega
        have m1 : (if (n0 : Int) < (v : Int) then (v : Int) else (n0 : Int)) = ((depF (l.take (k + 1)) : Nat) : Int) := by rw [hst]; split <;> omega
        have m2 : max (n0 : Int) (v : Int) = ((depF (l.take (k + 1)) : Nat) : Int) := by rw [hst]; omega
        have HK1 : Hid (k + 1 ≤ l.length) := hlt
        clear hst hkc hc hv hn0 hT2 hK hnl hn hbl hk hl hB hb
        have u2 : Hid (wrap64 ((k : Int) + 1) = ((k + 1 : Nat) : Int)) := w64 f2 b2
        clear f2 b2 hlt
        have m3 : (if n0 < v then (v : Int) else (n0 : Int)) = ((depF (l.take (k + 1)) : Nat) : Int) := by rw [← m1]; split <;> split <;> omega
        obtain ⟨n1, hn1⟩ : ∃ n1, n1 = depF (l.take (k + 1)) := ⟨_, rfl⟩
        rw [← hn1] at m1 m2 m3
        have HN1 := Lib.hid hn1
        clear hn1
        go_wp2_with fail
        refine (cI.out).mono ?_
        rintro e w5 ⟨rfl, B5⟩
        have HB5 := Lib.hid (low17 HB.out B5)
        have Hb5 := Lib.hid ((B5.block _ (block_lt Hbb.out)).trans Hbb.out)
        clear B5 cI p0 p1 p2 p3 p4 p5 p6 p7 p8 j8 Hbb HB
        go_wp2_with fail
        go_roundw
        case rel => exact ⟨⟨HB5.out, Hb5.out⟩, k + 1, HK1.out, by rw [u2.out], by first | rw [HN1.out] | (rw [m3, HN1.out]) | (rw [m1, HN1.out])⟩
        case measure => rw [u2.out]; have := HK1.out; simp [natV]; omega
      · obtain rfl : k = l.length := by omega
        have d1 : decide ((l.length : Int) < (l.length : Int)) = false := decide_eq_false (by omega)
        have d1n : decide (l.length < l.length) = false := decide_eq_false (by omega)
        have hle := depF_le l l.length
        have hc := HC.out
        obtain ⟨n0, hn0⟩ : ∃ n0, n0 = depF (l.take l.length) := ⟨_, rfl⟩
        rw [← hn0] at hle ⊢
        have HE : Hid (wrap64 ((n0 : Int) + 1) = (R : Int)) := show _ = _ from w64 (by have := HR.out; rw [List.take_length] at hn0; omega) (by have := HR.out; rw [List.take_length] at hn0; omega)
        clear hB hb hlt hk hle hc hn0
        go_wp2_with fail
        go_ret
        exact ⟨by rw [HE.out]; rfl, HB.out⟩
end Go.Proofs.Ytdaoekcabfapaaa
