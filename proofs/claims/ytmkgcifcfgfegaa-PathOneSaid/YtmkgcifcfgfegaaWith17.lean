/-
  What the book's With does (chapter 17's laws): a tree with another value in the place of that at a path; by induction over the path, no condition but bounds.
-/
import Derived.Test.YtmkgcifcfgfegaaSpoilMath
import Derived.Test.YtmkgcifcfgfegaaPathPure

namespace Go.Proofs.Ytmkgcifcfgfegaa
set_option maxRecDepth 100000
open Go.RowKit
theorem kids_iff {w : World} {M : Nat → Prop} {b : Nat} : ∀ {l : List Kid} {off : Nat}, (∀ (i : Nat) (h : i < l.length), KidAt w M b (off + i * 10) l[i]) → KidsAt w M b off l
  | [], _, _ => by rw [KidsAt]; trivial
  | x :: l, off, h => by
    rw [kids_cons]
    refine ⟨by have := h 0 (Nat.succ_pos _); simpa using this, kids_iff fun i hi => ?_⟩
    have := h (i + 1) (Nat.succ_lt_succ hi)
    rw [show off + (i + 1) * 10 = off + 10 + i * 10 by omega] at this
    exact this
theorem cellsV_one (o : OwnV) (Ab : Option Addr) (cb : Nat) (Ak : Option Addr) (nk ck : Nat) : ∀ u ∈ cellsV o Ab cb Ak nk ck, u.oneCell' = true := by
  intro u hu
  simp only [cellsV, List.mem_cons, List.not_mem_nil, or_false] at hu
  rcases hu with rfl | rfl | rfl | rfl | rfl | rfl | rfl | rfl | rfl <;> rfl
theorem tree_one {w : World} {M : Nat → Prop} {t : Tree} {cs : List Value} (h : TreeAt w M t cs) : ∀ u ∈ cs, u.oneCell' = true := by
  cases t with
  | node o l =>
    obtain ⟨Ab, cb, Ak, ck, rfl, _⟩ := h.open_
    exact cellsV_one _ _ _ _ _ _
/-- The Kids' cells, one behind the other. -/
theorem kids_flat {w : World} {M : Nat → Prop} {b : Nat} : ∀ {l : List Kid} {off : Nat}, KidsAt w M b off l → ∃ xs : List Value, xs.length = l.length * 10 ∧ (∀ j u, xs[j]? = some u → w.cell? ⟨b, off + j, none⟩ = some u) ∧ ∀ u ∈ xs, u.oneCell' = true
  | [], _, _ => ⟨[], rfl, fun j u h => by simp at h, fun u h => by cases h⟩
  | x :: l, off, h => by
    rw [kids_cons] at h
    obtain ⟨⟨h1, _, cs, h3, h4, h5⟩, h6⟩ := h
    obtain ⟨xs, e1, e2, e3⟩ := kids_flat h6
    refine ⟨.string ⟨x.1.toArray⟩ :: (cs ++ xs), by simp [h3, e1]; omega, fun j u hj => ?_, fun u hu => ?_⟩
    · cases j with
      | zero =>
        have : Value.string ⟨x.1.toArray⟩ = u := by simpa using hj
        rw [← this]; exact h1
      | succ j =>
        rw [List.getElem?_cons_succ] at hj
        rcases Nat.lt_or_ge j 9 with hlt | hge
        · rw [List.getElem?_append_left (by omega)] at hj
          rw [show off + (j + 1) = off + 1 + j by omega, h4 j hlt, hj]
        · rw [List.getElem?_append_right (by omega), h3] at hj
          have := e2 (j - 9) u hj
          rwa [show off + 10 + (j - 9) = off + (j + 1) by omega] at this
    · rcases List.mem_cons.1 hu with rfl | hu
      · rfl
      · rcases List.mem_append.1 hu with hu | hu
        · exact tree_one h5 u hu
        · exact e3 u hu
/-- The Kids in another block, one value turned. -/
theorem kids_with {w w' : World} {M M' : Nat → Prop} {b off g i : Nat} {l : List Kid} {ds : List Value} {t : Tree} (hK : KidsAt w M b off l) (hi : i < l.length)
    (hc : ∀ j, j < l.length * 10 → (j < i * 10 + 1 ∨ i * 10 + 10 ≤ j) → w'.cell? ⟨g, j, none⟩ = w.cell? ⟨b, off + j, none⟩) (hk : ∀ k, M k → w'.heap[k]? = w.heap[k]?) (hm : ∀ k, M k → M' k)
    (hd : ds.length = 9) (hds : ∀ j, j < 9 → w'.cell? ⟨g, i * 10 + 1 + j, none⟩ = ds[j]?) (ht : TreeAt w' M' t ds) : KidsAt w' M' g 0 (l.set i ((l[i]).1, t)) := by
  refine kids_iff fun m hm2 => ?_
  rw [List.length_set] at hm2
  obtain ⟨h1, h2, cs, h3, h4, h5⟩ := kids_get hK m hm2
  have n1 : w'.cell? ⟨g, 0 + m * 10, none⟩ = some (.string ⟨(l[m]).1.toArray⟩) := by
    rw [Nat.zero_add, hc (m * 10) (by omega) (by omega)]; exact h1
  rw [List.getElem_set]
  split
  · rename_i e
    subst e
    exact ⟨n1, h2, ds, hd, fun j hj => by rw [Nat.zero_add]; exact hds j hj, ht⟩
  · refine ⟨n1, h2, cs, h3, fun j hj => ?_, TreeAt.weaken hm _ _ (TreeAt.keep hk _ _ h5)⟩
    rw [show 0 + m * 10 + 1 + j = m * 10 + 1 + j by omega, hc (m * 10 + 1 + j) (by omega) (by omega), show off + (m * 10 + 1 + j) = off + m * 10 + 1 + j by omega]
    exact h4 j hj
theorem has_cons {o : OwnV} {l : List Kid} {i : Nat} {q : List Nat} (h : HasAt (.node o l) (i :: q)) : ∃ hi : i < l.length, HasAt (l[i]).2 q := h
theorem three_new (w : World) (o1 o2 o3 : Obj) : Below w.heap.size w (((w.alloc o1).alloc o2).alloc o3) := (two_new w o1 o2).alloc (by simp; omega) _
theorem heap_three (w : World) (o1 o2 o3 : Obj) : (((w.alloc o1).alloc o2).alloc o3).heap[w.heap.size + 2]? = some o3 := by
  have := heap_alloc_new ((w.alloc o1).alloc o2) o3
  simpa using this
theorem block_keep {w : World} {g k : Nat} (hne : ¬ k = g) (i : Nat) (u : Value) : (w.setCell ⟨k, i, none⟩ u).heap[g]? = w.heap[g]? := by
  simp [World.setCell, Array.getElem?_modify, hne]
theorem block_oth {w : World} {g k : Nat} {o : Obj} (h : w.heap[g]? = some o) (hne : ¬ k = g) (i : Nat) (u : Value) : (w.setCell ⟨k, i, none⟩ u).heap[g]? = some o := (block_keep hne i u).trans h
theorem frozen_of_block {w w' : World} {g i : Nat} (h : w'.heap[g]? = w.heap[g]?) : w'.frozen? ⟨g, i, none⟩ = w.frozen? ⟨g, i, none⟩ := by
  unfold World.frozen?
  simp only [h]
theorem cell_oth {w : World} {g k i j : Nat} {u v : Value} (hne : ¬ g = k) (h : w.cell? ⟨k, j, none⟩ = some v) : (w.setCell ⟨g, i, none⟩ u).cell? ⟨k, j, none⟩ = some v := by
  rw [World.cell?_of_block (block_keep hne i u)]; exact h
theorem frozen_drew {w : World} {a : Addr} (h : w.frozen? a = false) : w.drew.frozen? a = false := h
theorem frozen_low {V w' : World} {g i : Nat} (hB : Below V.heap.size V w') (hl : g < V.heap.size) (h : V.frozen? ⟨g, i, none⟩ = false) : w'.frozen? ⟨g, i, none⟩ = false := by
  rw [frozen_of_block (hB.block g hl)]; exact h
theorem keep_cells {g k : Nat} (hne : ¬ g = k) : ∀ (vs : List Value) (o : Nat) (w : World), (w.setCells g o vs).heap[k]? = w.heap[k]?
  | [], _, _ => rfl
  | v :: r, o, w => by rw [World.setCells, keep_cells hne r (o + 1) _, block_keep hne]
theorem chain9 (w : World) (g p : Nat) (o : OwnV) (Ab : Option Addr) (cb : Nat) (Ak : Option Addr) (nk ck : Nat) : w.setCells g p (cellsV o Ab cb Ak nk ck) = (((((((((w.setCell ⟨g, p, none⟩ (.int .i64 o.kind)).setCell ⟨g, p + 1, none⟩ (.int .u64 (o.bits : Int))).setCell ⟨g, p + 2, none⟩ (.int .u64 (o.high : Int))).setCell ⟨g, p + 3, none⟩ (.int .u64 (o.low : Int))).setCell ⟨g, p + 4, none⟩ (.string ⟨o.text.toArray⟩)).setCell ⟨g, p + 5, none⟩ (.string ⟨o.more.toArray⟩)).setCell ⟨g, p + 6, none⟩ (.int .i64 o.sub)).setCell ⟨g, p + 7, none⟩ (.slice Ab o.bytes.length cb)).setCell ⟨g, p + 8, none⟩ (.slice Ak nk ck)) := by
  simp only [cellsV, World.setCells, Nat.add_assoc, Nat.reduceAdd]
theorem chain9z (w : World) (g : Nat) (o : OwnV) (Ab : Option Addr) (cb : Nat) (Ak : Option Addr) (nk ck : Nat) : w.setCells g 0 (cellsV o Ab cb Ak nk ck) = (((((((((w.setCell ⟨g, 0, none⟩ (.int .i64 o.kind)).setCell ⟨g, 1, none⟩ (.int .u64 (o.bits : Int))).setCell ⟨g, 2, none⟩ (.int .u64 (o.high : Int))).setCell ⟨g, 3, none⟩ (.int .u64 (o.low : Int))).setCell ⟨g, 4, none⟩ (.string ⟨o.text.toArray⟩)).setCell ⟨g, 5, none⟩ (.string ⟨o.more.toArray⟩)).setCell ⟨g, 6, none⟩ (.int .i64 o.sub)).setCell ⟨g, 7, none⟩ (.slice Ab o.bytes.length cb)).setCell ⟨g, 8, none⟩ (.slice Ak nk ck)) := by
  simp only [cellsV, World.setCells, Nat.reduceAdd]
theorem set9 {w : World} {g : Nat} {a b c d e f x y z : Value} {t : TypeId} (h : w.heap[g]? = some (.cells #[a, b, c, d, e, f, x, y, z] t (0, 0))) (o : OwnV) (Ab : Option Addr) (cb : Nat) (Ak : Option Addr) (nk ck : Nat) :
    (w.setCells g 0 (cellsV o Ab cb Ak nk ck)).heap[g]? = some (.cells (cellsV o Ab cb Ak nk ck).toArray t (0, 0)) := by
  rw [chain9z]
  exact nine_set h
theorem cell_oth9 {w : World} {g p k j : Nat} {v : Value} (hne : ¬ g = k) (o : OwnV) (Ab : Option Addr) (cb : Nat) (Ak : Option Addr) (nk ck : Nat) (h : w.cell? ⟨k, j, none⟩ = some v) : (w.setCells g p (cellsV o Ab cb Ak nk ck)).cell? ⟨k, j, none⟩ = some v := by
  rw [World.cell?_of_block (keep_cells hne _ _ _)]; exact h
/-- The answer of With. -/
def AnsW (w : World) (M : Nat → Prop) (t : Tree) (e : Ending) (w' : World) : Prop :=
  (∃ (p : OwnV) (Db : Option Addr) (d : Nat) (Dk : Option Addr) (m dk : Nat), e = .returned (.agg #[.int .i64 p.kind, .int .u64 (p.bits : Int), .int .u64 (p.high : Int), .int .u64 (p.low : Int), .string ⟨p.text.toArray⟩, .string ⟨p.more.toArray⟩, .int .i64 p.sub, .slice Db p.bytes.length d, .slice Dk m dk]) ∧ TreeAt w' (fun b => M b ∨ (w.heap.size ≤ b ∧ b < w'.heap.size)) t (cellsV p Db d Dk m dk)) ∧ Below w.heap.size w w'
set_option maxHeartbeats 16000000 in
theorem with_any : ∀ (q : List Nat) (t : Tree) (cs : List Value) (A : Option Addr) (n c : Nat) (u : Tree) (us : List Value) (w : World) (M : Nat → Prop), (∀ b, M b → b < w.heap.size) → cntT t ≤ 1000000 → TreeAt w M t cs → Ints w (· < w.heap.size) A n (q.map fun i : Nat => (i : Int)) → n ≤ c → TreeAt w M u us → HasAt t q →
    Calls Try.prog 21 #[.agg cs.toArray, .slice A n c, .agg us.toArray] w (AnsW w M (withT t q u)) := by
  intro q
  induction q with
  | nil =>
    intro t cs A n c u us w M hM hc hT hP hnc hU hH
    obtain ⟨o, l⟩ := t
    obtain ⟨ou, lu⟩ := u
    obtain ⟨Ab, cb, Ak, ck, rfl, _, _, _, _⟩ := hT.open_
    obtain ⟨Ub, ub, Uk, uk, rfl, _, _, _, _⟩ := hU.open_
    have hn : n = 0 := by have := hP.1; simpa using this.symm
    subst hn
    have e : withT (.node o l) [] (.node ou lu) = .node ou lu := by rw [withT]
    rw [e]
    have HU := Lib.hid fun (W : World) (hB : Below w.heap.size w W) => TreeAt.weaken (M' := fun b => M b ∨ (w.heap.size ≤ b ∧ b < W.heap.size)) (fun b hb => .inl hb) _ _ (hU.keep fun b hb => hB.block b (hM b hb))
    clear hM hc hT hP hnc hU hH e
    unfold cellsV at *
    go_enter Try.func21, Try.ntmps21
    go_wp2_with fail
    (try simp only [Exit.inBlock, Exit.then])
    refine bodyPost_ret (results_oneV rfl _ _ (w.heap.size + 2) #[.int .i64 ou.kind, .int .u64 (ou.bits : Int), .int .u64 (ou.high : Int), .int .u64 (ou.low : Int), .string ⟨ou.text.toArray⟩, .string ⟨ou.more.toArray⟩, .int .i64 ou.sub, .slice Ub ou.bytes.length ub, .slice Uk lu.length uk] rfl ?_) rfl ?_
    · exact load_value (heap_three w _ _ _)
    · exact ⟨⟨ou, Ub, ub, Uk, lu.length, uk, rfl, HU.out _ (three_new _ _ _ _)⟩, three_new _ _ _ _⟩
  | cons i q ih =>
    intro t cs A n c u us w M hM hc hT hP hnc hU hH
    obtain ⟨o, l⟩ := t
    obtain ⟨ou, lu⟩ := u
    obtain ⟨hi, hq0⟩ := has_cons hH
    obtain ⟨x, hx⟩ : ∃ x, x = l[i] := ⟨_, rfl⟩
    have hq : HasAt x.2 q := by rw [hx]; exact hq0
    clear hq0
    have eW : withT (.node o l) (i :: q) (.node ou lu) = .node o (l.set i (x.1, withT x.2 q (.node ou lu))) := by rw [withT, dif_pos hi, hx]
    rw [eW]
    obtain ⟨Ab, cb, Ak, ck, rfl, hfit, hlen, hbytes, hkids⟩ := hT.open_
    obtain ⟨Ub, ub, Uk, uk, rfl, _, _, _, _⟩ := hU.open_
    obtain ⟨b, off, rfl, hMb, hK⟩ := hkids (fun e => by rw [e] at hi; exact absurd hi (Nat.not_lt_zero _))
    obtain ⟨xs, xl, xc, x1⟩ := kids_flat hK
    have hkid : KidAt w M b (off + i * 10) x := by rw [hx]; exact kids_get hK i hi
    have hKW : ∀ (W : World) (M' : Nat → Prop) (g : Nat) (ds : List Value) (t' : Tree), (∀ j, j < l.length * 10 → (j < i * 10 + 1 ∨ i * 10 + 10 ≤ j) → W.cell? ⟨g, j, none⟩ = w.cell? ⟨b, off + j, none⟩) → (∀ k, M k → W.heap[k]? = w.heap[k]?) → (∀ k, M k → M' k) → ds.length = 9 → (∀ j, j < 9 → W.cell? ⟨g, i * 10 + 1 + j, none⟩ = ds[j]?) → TreeAt W M' t' ds → KidsAt W M' g 0 (l.set i (x.1, t')) := fun W M' g ds t' h1 h2 h3 h4 h5 h6 => by rw [hx]; exact kids_with hK hi h1 h2 h3 h4 h5 h6
    have hcx : cntT x.2 ≤ cntK l := by rw [hx]; exact cntT_kid hi
    obtain ⟨xn, ko, kl⟩ := x
    dsimp only at hKW hcx hq ⊢
    obtain ⟨_, _, kcs, hk9, hkc, hkT⟩ := hkid
    have hkT : TreeAt w M (.node ko kl) kcs := hkT
    have hkTo := hkT.open_
    obtain ⟨Kb, kb, Kk, kk, rfl, _, _, _, _⟩ := hkTo
    have hn := hP.1
    simp only [List.map_cons, List.length_cons, List.length_map] at hn
    obtain ⟨pb, po, rfl, hpb, hpc⟩ := hP.2 (by omega)
    have hlc := len_le_cnt l
    rw [cntT] at hc
    have d0 : ((n : Int) == 0) = false := beq_eq_false_iff_ne.2 (by omega)
    obtain ⟨i0, z0, hi0, hz0, hz1, hz2, hz3⟩ := field_parts
    have HZ0 := Lib.hid hz0; have HI0 := Lib.hid hi0; have HZ1 := Lib.hid hz1; have HZ2 := Lib.hid hz2; have HZ3 := Lib.hid hz3
    have HM := Lib.hid hM
    have HC := Lib.hid hc
    have HIH := Lib.hid ih
    have HKT := Lib.hid hkT
    have HKC := Lib.hid hkc
    have HKW := Lib.hid hKW
    have HCX := Lib.hid hcx
    have HQ := Lib.hid hq
    have HIL := Lib.hid hi
    have HN := Lib.hid hn
    have HNC := Lib.hid hnc
    have HFIT := Lib.hid hfit
    have HLEN := Lib.hid hlen
    have HBY := Lib.hid hbytes
    have HMb := Lib.hid hMb
    have HU := Lib.hid hU
    have Hpb := Lib.hid hpb
    have HPI := Lib.hid hP
    have HP0 : Hid (w.cell? ⟨pb, po, none⟩ = some (.int .i64 (i : Int))) := show _ = _ from hpc 0 (by omega)
    have HPC := Lib.hid hpc
    have HXL := Lib.hid xl
    have HXC := Lib.hid xc
    have HX1 := Lib.hid x1
    have HLC : Hid (l.length ≤ 1000000) := show _ ≤ _ by omega
    clear eW hkT hkc hk9 hKW hcx hM hc ih hq hn hnc hfit hlen hbytes hK hMb hU hpb hpc xl xc x1 hlc hH hT hP hkids hi0 hz0 hz1 hz2 hz3
    clear hx
    clear hi
    unfold cellsV at HKT HU ⊢
    have B3 : Below w.heap.size w (((w.alloc (.cells #[.int .i64 o.kind, .int .u64 (o.bits : Int), .int .u64 (o.high : Int), .int .u64 (o.low : Int), .string ⟨o.text.toArray⟩, .string ⟨o.more.toArray⟩, .int .i64 o.sub, .slice Ab o.bytes.length cb, .slice (some ⟨b, off, none⟩) l.length ck] 26)).alloc (.cells #[.int .i64 ou.kind, .int .u64 (ou.bits : Int), .int .u64 (ou.high : Int), .int .u64 (ou.low : Int), .string ⟨ou.text.toArray⟩, .string ⟨ou.more.toArray⟩, .int .i64 ou.sub, .slice Ub ou.bytes.length ub, .slice Uk lu.length uk] 26)).alloc (.cells #[.int .i64 0, .int .u64 0, .int .u64 0, .int .u64 0, .string ⟨#[]⟩, .string ⟨#[]⟩, .int .i64 0, .slice none 0 0, .slice none 0 0] 26)) := three_new _ _ _ _
    have g2 : (((w.alloc (.cells #[.int .i64 o.kind, .int .u64 (o.bits : Int), .int .u64 (o.high : Int), .int .u64 (o.low : Int), .string ⟨o.text.toArray⟩, .string ⟨o.more.toArray⟩, .int .i64 o.sub, .slice Ab o.bytes.length cb, .slice (some ⟨b, off, none⟩) l.length ck] 26)).alloc (.cells #[.int .i64 ou.kind, .int .u64 (ou.bits : Int), .int .u64 (ou.high : Int), .int .u64 (ou.low : Int), .string ⟨ou.text.toArray⟩, .string ⟨ou.more.toArray⟩, .int .i64 ou.sub, .slice Ub ou.bytes.length ub, .slice Uk lu.length uk] 26)).alloc (.cells #[.int .i64 0, .int .u64 0, .int .u64 0, .int .u64 0, .string ⟨#[]⟩, .string ⟨#[]⟩, .int .i64 0, .slice none 0 0, .slice none 0 0] 26)).heap[w.heap.size + 2]? = some (.cells #[.int .i64 0, .int .u64 0, .int .u64 0, .int .u64 0, .string ⟨#[]⟩, .string ⟨#[]⟩, .int .i64 0, .slice none 0 0, .slice none 0 0] 26) := heap_three _ _ _ _
    have g1 : (((w.alloc (.cells #[.int .i64 o.kind, .int .u64 (o.bits : Int), .int .u64 (o.high : Int), .int .u64 (o.low : Int), .string ⟨o.text.toArray⟩, .string ⟨o.more.toArray⟩, .int .i64 o.sub, .slice Ab o.bytes.length cb, .slice (some ⟨b, off, none⟩) l.length ck] 26)).alloc (.cells #[.int .i64 ou.kind, .int .u64 (ou.bits : Int), .int .u64 (ou.high : Int), .int .u64 (ou.low : Int), .string ⟨ou.text.toArray⟩, .string ⟨ou.more.toArray⟩, .int .i64 ou.sub, .slice Ub ou.bytes.length ub, .slice Uk lu.length uk] 26)).alloc (.cells #[.int .i64 0, .int .u64 0, .int .u64 0, .int .u64 0, .string ⟨#[]⟩, .string ⟨#[]⟩, .int .i64 0, .slice none 0 0, .slice none 0 0] 26)).heap[w.heap.size + 1]? = some (.cells #[.int .i64 ou.kind, .int .u64 (ou.bits : Int), .int .u64 (ou.high : Int), .int .u64 (ou.low : Int), .string ⟨ou.text.toArray⟩, .string ⟨ou.more.toArray⟩, .int .i64 ou.sub, .slice Ub ou.bytes.length ub, .slice Uk lu.length uk] 26) := (Below.heap_alloc _ _ _ (by simp)).trans (heap_two _ _ _)
    have g0 : (((w.alloc (.cells #[.int .i64 o.kind, .int .u64 (o.bits : Int), .int .u64 (o.high : Int), .int .u64 (o.low : Int), .string ⟨o.text.toArray⟩, .string ⟨o.more.toArray⟩, .int .i64 o.sub, .slice Ab o.bytes.length cb, .slice (some ⟨b, off, none⟩) l.length ck] 26)).alloc (.cells #[.int .i64 ou.kind, .int .u64 (ou.bits : Int), .int .u64 (ou.high : Int), .int .u64 (ou.low : Int), .string ⟨ou.text.toArray⟩, .string ⟨ou.more.toArray⟩, .int .i64 ou.sub, .slice Ub ou.bytes.length ub, .slice Uk lu.length uk] 26)).alloc (.cells #[.int .i64 0, .int .u64 0, .int .u64 0, .int .u64 0, .string ⟨#[]⟩, .string ⟨#[]⟩, .int .i64 0, .slice none 0 0, .slice none 0 0] 26)).heap[w.heap.size]? = some (.cells #[.int .i64 o.kind, .int .u64 (o.bits : Int), .int .u64 (o.high : Int), .int .u64 (o.low : Int), .string ⟨o.text.toArray⟩, .string ⟨o.more.toArray⟩, .int .i64 o.sub, .slice Ab o.bytes.length cb, .slice (some ⟨b, off, none⟩) l.length ck] 26) := (Below.heap_alloc _ _ _ (by simp; omega)).trans ((Below.heap_alloc _ _ _ (by simp)).trans (heap_alloc_new w _))
    have hs3 : (((w.alloc (.cells #[.int .i64 o.kind, .int .u64 (o.bits : Int), .int .u64 (o.high : Int), .int .u64 (o.low : Int), .string ⟨o.text.toArray⟩, .string ⟨o.more.toArray⟩, .int .i64 o.sub, .slice Ab o.bytes.length cb, .slice (some ⟨b, off, none⟩) l.length ck] 26)).alloc (.cells #[.int .i64 ou.kind, .int .u64 (ou.bits : Int), .int .u64 (ou.high : Int), .int .u64 (ou.low : Int), .string ⟨ou.text.toArray⟩, .string ⟨ou.more.toArray⟩, .int .i64 ou.sub, .slice Ub ou.bytes.length ub, .slice Uk lu.length uk] 26)).alloc (.cells #[.int .i64 0, .int .u64 0, .int .u64 0, .int .u64 0, .string ⟨#[]⟩, .string ⟨#[]⟩, .int .i64 0, .slice none 0 0, .slice none 0 0] 26)).heap.size = w.heap.size + 3 := by simp
    have HB3 := Lib.hid B3
    have G0 := Lib.hid g0
    have G1 := Lib.hid g1
    have G2 := Lib.hid g2
    have HS3 := Lib.hid hs3
    clear B3 g0 g1 g2 hs3
    go_enter Try.func21, Try.ntmps21
    go_upto_region 3 with fail
    generalize (((w.alloc (.cells #[.int .i64 o.kind, .int .u64 (o.bits : Int), .int .u64 (o.high : Int), .int .u64 (o.low : Int), .string ⟨o.text.toArray⟩, .string ⟨o.more.toArray⟩, .int .i64 o.sub, .slice Ab o.bytes.length cb, .slice (some ⟨b, off, none⟩) l.length ck] 26)).alloc (.cells #[.int .i64 ou.kind, .int .u64 (ou.bits : Int), .int .u64 (ou.high : Int), .int .u64 (ou.low : Int), .string ⟨ou.text.toArray⟩, .string ⟨ou.more.toArray⟩, .int .i64 ou.sub, .slice Ub ou.bytes.length ub, .slice Uk lu.length uk] 26)).alloc (.cells #[.int .i64 0, .int .u64 0, .int .u64 0, .int .u64 0, .string ⟨#[]⟩, .string ⟨#[]⟩, .int .i64 0, .slice none 0 0, .slice none 0 0] 26)) = W at *
    have HO1 : Hid ((W.alloc (.cells #[] 46)).ownsRow W.heap.size 46 10 (.slice (some ⟨W.heap.size, 0, none⟩) 0 0) 0 []) := World.ownsRow_lit W #[] 0 (Nat.le_refl _) (Nat.zero_le _) rfl
    have HN1 : Hid (0 < l.length → ∃ ad, some (⟨b, off, none⟩ : Addr) = some ad ∧ ∀ j u, xs[j]? = some u → (W.alloc (.cells #[] 46)).cell? (ad.add j) = some u) := fun _ => ⟨_, rfl, fun j u hj => by
      rw [Addr.add_lit]
      exact (Below.cell (HB3.out.alloc HB3.out.size (.cells #[] 46)) (p := ⟨b, off + j, none⟩) (HM.out b HMb.out)).trans (HXC.out j u hj)⟩
    have M2 : 0 + l.length ≤ maxLen := by have := HLC.out; simp only [maxLen]; omega
    have M3 : (0 + l.length) * 136 ≤ 140737488355328 := by have := HLC.out; omega
    have M4 : W.heap.size ≤ (W.alloc (.cells #[] 46)).heap.size := by simp
    have j8 : (W.alloc (.cells #[] 46)).cell? ⟨w.heap.size, 8, none⟩ = some (.slice (some ⟨b, off, none⟩) l.length ck) := by
      rw [block_cell ((Below.heap_alloc W _ _ (block_lt G0.out)).trans G0.out)]; rfl
    go_wp2_with (first | (at_builtin; refine wpList_append_rows _ rfl (.tmp 11) (.tmp 13) 24 rfl W.heap.size 46 i0 z0 10 136 Try.underlying24 HI0.out HZ0.out HZ1.out HZ2.out HZ3.out (by decide) _ 0 [] rfl HO1.out (some ⟨b, off, none⟩) l.length ck xs rfl HXL.out HN1.out HX1.out M2 M3 M4 ?_))
    intro A4 cg w4 ho4 hg4 _
    have B4 := ((Below.refl W.heap.size W).alloc (Nat.le_refl _) (.cells #[] 46)).grown hg4 M4 (fun k hk => (HO1.out.lt k hk).1)
    have ho4 : w4.ownsRow W.heap.size 46 10 (.slice A4 l.length cg) l.length xs := by
      have := ho4.out
      simpa using this
    obtain ⟨g, rfl, hbg, hlg, _, _, _, hcg⟩ := own_rows ho4 (by have := HIL.out; omega)
    have hfz : ∀ j, w4.frozen? ⟨g, j, none⟩ = false := fun j => World.ownsRow.frozenAt ho4 j
    have G04 := (B4.block _ (block_lt G0.out)).trans G0.out
    have G14 := (B4.block _ (block_lt G1.out)).trans G1.out
    have G24 := (B4.block _ (block_lt G2.out)).trans G2.out
    have k8 : w4.cell? ⟨w.heap.size, 8, none⟩ = some (.slice (some ⟨b, off, none⟩) l.length ck) := by rw [block_cell G04]; rfl
    have f8 : w4.frozen? ⟨w.heap.size, 8, none⟩ = false := block_frozen G04 8
    have hs3 := HS3.out
    have ng : ¬ w.heap.size = g := by omega
    have ng1 : ¬ w.heap.size = w.heap.size + 1 := by omega
    have ng2 : ¬ w.heap.size = w.heap.size + 2 := by omega
    have HB5 : Hid (Below w.heap.size w (w4.setCell ⟨w.heap.size, 8, none⟩ (.slice (some ⟨g, 0, none⟩) l.length cg))) := show Below _ _ _ from (HB3.out.trans (B4.mono HB3.out.size)).setCell (p := ⟨w.heap.size, 8, none⟩) (Nat.le_refl _) _
    have K0 : Hid ((w4.setCell ⟨w.heap.size, 8, none⟩ (.slice (some ⟨g, 0, none⟩) l.length cg)).heap[w.heap.size]? = some (.cells #[.int .i64 o.kind, .int .u64 (o.bits : Int), .int .u64 (o.high : Int), .int .u64 (o.low : Int), .string ⟨o.text.toArray⟩, .string ⟨o.more.toArray⟩, .int .i64 o.sub, .slice Ab o.bytes.length cb, .slice (some ⟨g, 0, none⟩) l.length cg] 26)) := block_set G04 8 _
    have K1 : Hid ((w4.setCell ⟨w.heap.size, 8, none⟩ (.slice (some ⟨g, 0, none⟩) l.length cg)).heap[w.heap.size + 1]? = some (.cells #[.int .i64 ou.kind, .int .u64 (ou.bits : Int), .int .u64 (ou.high : Int), .int .u64 (ou.low : Int), .string ⟨ou.text.toArray⟩, .string ⟨ou.more.toArray⟩, .int .i64 ou.sub, .slice Ub ou.bytes.length ub, .slice Uk lu.length uk] 26)) := block_oth G14 ng1 8 _
    have K2 : Hid ((w4.setCell ⟨w.heap.size, 8, none⟩ (.slice (some ⟨g, 0, none⟩) l.length cg)).heap[w.heap.size + 2]? = some (.cells #[.int .i64 0, .int .u64 0, .int .u64 0, .int .u64 0, .string ⟨#[]⟩, .string ⟨#[]⟩, .int .i64 0, .slice none 0 0, .slice none 0 0] 26)) := block_oth G24 ng2 8 _
    have HCG : Hid (∀ j u, xs[j]? = some u → (w4.setCell ⟨w.heap.size, 8, none⟩ (.slice (some ⟨g, 0, none⟩) l.length cg)).cell? ⟨g, j, none⟩ = some u) := fun j u hj => by
      rw [World.cell?_of_block (block_keep ng 8 _)]
      exact hcg j u hj
    have HFG : Hid (∀ j, (w4.setCell ⟨w.heap.size, 8, none⟩ (.slice (some ⟨g, 0, none⟩) l.length cg)).frozen? ⟨g, j, none⟩ = false) := fun j => by
      rw [frozen_of_block (block_keep ng 8 _)]
      exact hfz j
    have HLG : Hid (g < (w4.setCell ⟨w.heap.size, 8, none⟩ (.slice (some ⟨g, 0, none⟩) l.length cg)).heap.size) := show _ < _ by simpa [World.setCell] using hlg
    have HBG : Hid (w.heap.size + 3 ≤ g) := show _ ≤ _ by omega
    clear ho4 hg4 B4 hbg hlg hcg hfz G04 G14 G24 j8 hs3 ng1 ng2 HO1 HN1 M2 M3 M4 HB3 G0 G1 G2 HS3
    go_upto_region 4 with fail
    clear k8 f8
    generalize w4.setCell ⟨w.heap.size, 8, none⟩ (.slice (some ⟨g, 0, none⟩) l.length cg) = W5 at *
    have hxk : ∀ r, r < 9 → xs[i * 10 + 1 + r]? = ([.int .i64 ko.kind, .int .u64 (ko.bits : Int), .int .u64 (ko.high : Int), .int .u64 (ko.low : Int), .string ⟨ko.text.toArray⟩, .string ⟨ko.more.toArray⟩, .int .i64 ko.sub, .slice Kb ko.bytes.length kb, .slice Kk kl.length kk] : List Value)[r]? := fun r hr => by
      have h1 := HKC.out r hr
      have hl : i * 10 + 1 + r < xs.length := by have := HXL.out; have := HIL.out; omega
      have h2 := HXC.out (i * 10 + 1 + r) _ (List.getElem?_eq_getElem hl)
      rw [show off + (i * 10 + 1 + r) = off + i * 10 + 1 + r by omega, h1] at h2
      rw [List.getElem?_eq_getElem hl, ← h2]
      rfl
    have h8 : W5.cell? ⟨w.heap.size, 8, none⟩ = some (.slice (some ⟨g, 0, none⟩) l.length cg) := by rw [block_cell K0.out]; rfl
    have hp0 : W5.cell? ⟨pb, po, none⟩ = some (.int .i64 (i : Int)) := (HB5.out.cell Hpb.out).trans HP0.out
    have x0 : W5.cell? ⟨g, i * 10 + 1, none⟩ = some (.int .i64 ko.kind) := HCG.out _ _ (by rw [show i * 10 + 1 = i * 10 + 1 + 0 by omega, hxk _ (by decide)]; rfl)
    have x1 : W5.cell? ⟨g, i * 10 + 2, none⟩ = some (.int .u64 (ko.bits : Int)) := HCG.out _ _ (by rw [show i * 10 + 2 = i * 10 + 1 + 1 by omega, hxk _ (by decide)]; rfl)
    have x2 : W5.cell? ⟨g, i * 10 + 3, none⟩ = some (.int .u64 (ko.high : Int)) := HCG.out _ _ (by rw [show i * 10 + 3 = i * 10 + 1 + 2 by omega, hxk _ (by decide)]; rfl)
    have x3 : W5.cell? ⟨g, i * 10 + 4, none⟩ = some (.int .u64 (ko.low : Int)) := HCG.out _ _ (by rw [show i * 10 + 4 = i * 10 + 1 + 3 by omega, hxk _ (by decide)]; rfl)
    have x4 : W5.cell? ⟨g, i * 10 + 5, none⟩ = some (.string ⟨ko.text.toArray⟩) := HCG.out _ _ (by rw [show i * 10 + 5 = i * 10 + 1 + 4 by omega, hxk _ (by decide)]; rfl)
    have x5 : W5.cell? ⟨g, i * 10 + 6, none⟩ = some (.string ⟨ko.more.toArray⟩) := HCG.out _ _ (by rw [show i * 10 + 6 = i * 10 + 1 + 5 by omega, hxk _ (by decide)]; rfl)
    have x6 : W5.cell? ⟨g, i * 10 + 7, none⟩ = some (.int .i64 ko.sub) := HCG.out _ _ (by rw [show i * 10 + 7 = i * 10 + 1 + 6 by omega, hxk _ (by decide)]; rfl)
    have x7 : W5.cell? ⟨g, i * 10 + 8, none⟩ = some (.slice Kb ko.bytes.length kb) := HCG.out _ _ (by rw [show i * 10 + 8 = i * 10 + 1 + 7 by omega, hxk _ (by decide)]; rfl)
    have x8 : W5.cell? ⟨g, i * 10 + 9, none⟩ = some (.slice Kk kl.length kk) := HCG.out _ _ (by rw [show i * 10 + 9 = i * 10 + 1 + 8 by omega, hxk _ (by decide)]; rfl)
    have y0 : W5.cell? ⟨w.heap.size + 1, 0, none⟩ = some (.int .i64 ou.kind) := by rw [block_cell K1.out]; rfl
    have y1 : W5.cell? ⟨w.heap.size + 1, 1, none⟩ = some (.int .u64 (ou.bits : Int)) := by rw [block_cell K1.out]; rfl
    have y2 : W5.cell? ⟨w.heap.size + 1, 2, none⟩ = some (.int .u64 (ou.high : Int)) := by rw [block_cell K1.out]; rfl
    have y3 : W5.cell? ⟨w.heap.size + 1, 3, none⟩ = some (.int .u64 (ou.low : Int)) := by rw [block_cell K1.out]; rfl
    have y4 : W5.cell? ⟨w.heap.size + 1, 4, none⟩ = some (.string ⟨ou.text.toArray⟩) := by rw [block_cell K1.out]; rfl
    have y5 : W5.cell? ⟨w.heap.size + 1, 5, none⟩ = some (.string ⟨ou.more.toArray⟩) := by rw [block_cell K1.out]; rfl
    have y6 : W5.cell? ⟨w.heap.size + 1, 6, none⟩ = some (.int .i64 ou.sub) := by rw [block_cell K1.out]; rfl
    have y7 : W5.cell? ⟨w.heap.size + 1, 7, none⟩ = some (.slice Ub ou.bytes.length ub) := by rw [block_cell K1.out]; rfl
    have y8 : W5.cell? ⟨w.heap.size + 1, 8, none⟩ = some (.slice Uk lu.length uk) := by rw [block_cell K1.out]; rfl
    have f0 : W5.frozen? ⟨g, i * 10 + 1, none⟩ = false := HFG.out _
    have f1 : W5.frozen? ⟨g, i * 10 + 2, none⟩ = false := HFG.out _
    have f2 : W5.frozen? ⟨g, i * 10 + 3, none⟩ = false := HFG.out _
    have f3 : W5.frozen? ⟨g, i * 10 + 4, none⟩ = false := HFG.out _
    have f4 : W5.frozen? ⟨g, i * 10 + 5, none⟩ = false := HFG.out _
    have f5 : W5.frozen? ⟨g, i * 10 + 6, none⟩ = false := HFG.out _
    have f6 : W5.frozen? ⟨g, i * 10 + 7, none⟩ = false := HFG.out _
    have f7 : W5.frozen? ⟨g, i * 10 + 8, none⟩ = false := HFG.out _
    have f8 : W5.frozen? ⟨g, i * 10 + 9, none⟩ = false := HFG.out _
    have HXK := Lib.hid hxk
    have hil := HIL.out
    have hnn := HN.out
    have s0 : (0 : Int) ≤ (i : Int) := by omega
    have s1 : (i : Int) < (l.length : Int) := by omega
    have s2 : (0 : Int) < (n : Int) := by omega
    have s3 : (1 : Int) ≤ (n : Int) := by omega
    have s4 : 0 < n := by omega
    have s5 : 1 ≤ n := by omega
    have HPI1 : Hid (∀ V, Below W5.heap.size W5 V → Ints V (· < V.heap.size) (some ⟨pb, po + 1, none⟩) (n - 1) (q.map fun i : Nat => (i : Int))) := fun V hV => by
      refine ⟨by rw [List.length_map]; omega, fun h => ⟨pb, po + 1, rfl, Nat.lt_of_lt_of_le Hpb.out (low17 HB5.out hV).size, fun j hj => ?_⟩⟩
      have h1 := HPC.out (j + 1) (by omega)
      rw [show po + (j + 1) = po + 1 + j by omega] at h1
      rw [(low17 HB5.out hV).cell (p := ⟨pb, po + 1 + j, none⟩) Hpb.out, h1]
      rfl
    have cV : Hid (∀ V, Below W5.heap.size W5 V → ∀ A' c', Ints V (· < V.heap.size) A' (n - 1) (q.map fun i : Nat => (i : Int)) → n - 1 ≤ c' → Calls Try.prog 21 #[.agg #[.int .i64 ko.kind, .int .u64 (ko.bits : Int), .int .u64 (ko.high : Int), .int .u64 (ko.low : Int), .string ⟨ko.text.toArray⟩, .string ⟨ko.more.toArray⟩, .int .i64 ko.sub, .slice Kb ko.bytes.length kb, .slice Kk kl.length kk], .slice A' (n - 1) c', .agg #[.int .i64 ou.kind, .int .u64 (ou.bits : Int), .int .u64 (ou.high : Int), .int .u64 (ou.low : Int), .string ⟨ou.text.toArray⟩, .string ⟨ou.more.toArray⟩, .int .i64 ou.sub, .slice Ub ou.bytes.length ub, .slice Uk lu.length uk]] V (AnsW V M (withT (.node ko kl) q (.node ou lu)))) := fun V hV A' c' hI hc' =>
      HIH.out (.node ko kl) _ A' (n - 1) c' (.node ou lu) _ V M (fun b hb => Nat.lt_of_lt_of_le (HM.out b hb) (low17 HB5.out hV).size) (by have := HC.out; have := HCX.out; omega) (TreeAt.keep (fun k hk => (low17 HB5.out hV).block k (HM.out k hk)) _ _ HKT.out) hI hc' (TreeAt.keep (fun k hk => (low17 HB5.out hV).block k (HM.out k hk)) _ _ HU.out) HQ.out
    have HLG2 : Hid (g < W5.drew.heap.size) := HLG.out
    have ngu : ¬ g = w.heap.size + 1 := by have := HBG.out; omega
    have ng8 : ¬ g = w.heap.size := by have := HBG.out; omega
    have ngp : ¬ g = pb := by have := HBG.out; have := Hpb.out; omega
    clear hxk hil hnn
    by_cases hc1 : c = 1
    · have HN0 : Hid (n - 1 = 0) := show _ = _ by have := HNC.out; omega
      have HI1 : Hid (∀ V : World, Ints V (· < V.heap.size) (some ⟨pb, po, none⟩) (n - 1) (q.map fun i : Nat => (i : Int))) := fun V => ⟨by rw [List.length_map]; have := HN.out; omega, fun h => absurd h (by have := HN0.out; omega)⟩
      subst hc1
      refine wp_region_held_drew (S := (fun V : World => V.cell? ⟨w.heap.size, 8, none⟩ = some (.slice (some ⟨g, 0, none⟩) l.length cg) ∧ V.cell? ⟨pb, po, none⟩ = some (.int .i64 (i : Int)) ∧ V.cell? ⟨w.heap.size + 1, 0, none⟩ = some (.int .i64 ou.kind) ∧ V.cell? ⟨w.heap.size + 1, 1, none⟩ = some (.int .u64 (ou.bits : Int)) ∧ V.cell? ⟨w.heap.size + 1, 2, none⟩ = some (.int .u64 (ou.high : Int)) ∧ V.cell? ⟨w.heap.size + 1, 3, none⟩ = some (.int .u64 (ou.low : Int)) ∧ V.cell? ⟨w.heap.size + 1, 4, none⟩ = some (.string ⟨ou.text.toArray⟩) ∧ V.cell? ⟨w.heap.size + 1, 5, none⟩ = some (.string ⟨ou.more.toArray⟩) ∧ V.cell? ⟨w.heap.size + 1, 6, none⟩ = some (.int .i64 ou.sub) ∧ V.cell? ⟨w.heap.size + 1, 7, none⟩ = some (.slice Ub ou.bytes.length ub) ∧ V.cell? ⟨w.heap.size + 1, 8, none⟩ = some (.slice Uk lu.length uk))) (by kernel_rfl) ?_ (fun hHeld => ?_)
      · exact ⟨cell_drew h8, cell_drew hp0, cell_drew y0, cell_drew y1, cell_drew y2, cell_drew y3, cell_drew y4, cell_drew y5, cell_drew y6, cell_drew y7, cell_drew y8⟩
      refine wpAnyH_take (i := 0) (v := ?_) rfl (by kernel_rfl) (by kernel_rfl) (by kernel_rfl) (fun _ _ _ h => h) (Or.inl ⟨by rfl, ?_⟩) (by assumption) ?_
      rotate_left 1
      · intro V hSw
        (try dsimp only at hSw)
        go_simp
        (try with_reducible rfl)
      (try simp only [Act.put, List.setIfInBounds_toArray])
      refine wpAnyH_take (i := 1) (v := ?_) rfl (by kernel_rfl) (by kernel_rfl) (by kernel_rfl) (fun _ _ _ h => h) (Or.inl ⟨by rfl, ?_⟩) (by assumption) ?_
      rotate_left 1
      · intro V hSw
        (try dsimp only at hSw)
        go_simp
        (try with_reducible rfl)
      (try simp only [Act.put])
      refine wpAnyH_take (i := 2) (v := ?_) rfl (by kernel_rfl) (by kernel_rfl) (by kernel_rfl) (fun _ _ _ h => h) (Or.inl ⟨by rfl, ?_⟩) (by assumption) ?_
      rotate_left 1
      · intro V hSw
        (try dsimp only at hSw)
        go_simp
        (try with_reducible rfl)
      (try simp only [Act.put])
      refine wpAnyH_take (i := 3) (v := ?_) rfl (by kernel_rfl) (by kernel_rfl) (by kernel_rfl) (fun _ _ _ h => h) (Or.inl ⟨by rfl, ?_⟩) (by assumption) ?_
      rotate_left 1
      · intro V hSw
        (try dsimp only at hSw)
        go_simp
        (try with_reducible rfl)
      (try simp only [Act.put])
      refine wpAnyH_take (i := 4) (v := ?_) rfl (by kernel_rfl) (by kernel_rfl) (by kernel_rfl) (fun _ _ _ h => h) (Or.inl ⟨by rfl, ?_⟩) (by assumption) ?_
      rotate_left 1
      · intro V hSw
        (try dsimp only at hSw)
        go_simp
        (try with_reducible rfl)
      (try simp only [Act.put])
      refine wpAnyH_take (i := 5) (v := ?_) rfl (by kernel_rfl) (by kernel_rfl) (by kernel_rfl) (fun _ _ _ h => h) (Or.inl ⟨by rfl, ?_⟩) (by assumption) ?_
      rotate_left 1
      · intro V hSw
        (try dsimp only at hSw)
        go_simp
        (try with_reducible rfl)
      (try simp only [Act.put])
      refine wpAnyH_take (i := 6) (v := ?_) rfl (by kernel_rfl) (by kernel_rfl) (by kernel_rfl) (fun _ _ _ h => h) (Or.inl ⟨by rfl, ?_⟩) (by assumption) ?_
      rotate_left 1
      · intro V hSw
        (try dsimp only at hSw)
        go_simp
        (try with_reducible rfl)
      (try simp only [Act.put])
      refine wpAnyH_take (i := 7) (v := ?_) rfl (by kernel_rfl) (by kernel_rfl) (by kernel_rfl) (fun _ _ _ h => h) (Or.inl ⟨by rfl, ?_⟩) (by assumption) ?_
      rotate_left 1
      · intro V hSw
        (try dsimp only at hSw)
        go_simp
        (try with_reducible rfl)
      (try simp only [Act.put])
      refine wpAnyH_take (i := 8) (v := ?_) rfl (by kernel_rfl) (by kernel_rfl) (by kernel_rfl) (fun _ _ _ h => h) (Or.inl ⟨by rfl, ?_⟩) (by assumption) ?_
      rotate_left 1
      · intro V hSw
        (try dsimp only at hSw)
        go_simp
        (try with_reducible rfl)
      (try simp only [Act.put])
      refine wpAnyH_take (i := 9) (v := ?_) rfl (by kernel_rfl) (by kernel_rfl) (by kernel_rfl) (fun _ _ _ h => h) (Or.inl ⟨by rfl, ?_⟩) (by assumption) ?_
      rotate_left 1
      · intro V hSw
        (try dsimp only at hSw)
        go_simp
        (try with_reducible rfl)
      (try simp only [Act.put])
      refine wpAnyH_take (i := 10) (v := ?_) rfl (by kernel_rfl) (by kernel_rfl) (by kernel_rfl) (fun _ _ _ h => h) (Or.inl ⟨by rfl, ?_⟩) (by assumption) ?_
      rotate_left 1
      · intro V hSw
        (try dsimp only at hSw)
        go_simp
        (try with_reducible rfl)
      (try simp only [Act.put])
      refine wpAnyH_take (i := 11) (v := ?_) rfl (by kernel_rfl) (by kernel_rfl) (by kernel_rfl) (fun _ _ _ h => h) (Or.inl ⟨by rfl, ?_⟩) (by assumption) ?_
      rotate_left 1
      · intro V hSw
        (try dsimp only at hSw)
        go_simp
        (try with_reducible rfl)
      (try simp only [Act.put])
      refine wpAnyH_take (i := 13) (v := ?_) rfl (by kernel_rfl) (by kernel_rfl) (by kernel_rfl) (fun _ _ _ h => h) (Or.inl ⟨by rfl, ?_⟩) (by assumption) ?_
      rotate_left 1
      · intro V hSw
        (try dsimp only at hSw)
        go_simp
        (try with_reducible rfl)
      (try simp only [Act.put])
      refine wpAnyH_take (i := 14) (v := ?_) rfl (by kernel_rfl) (by kernel_rfl) (by kernel_rfl) (fun _ _ _ h => h) (Or.inl ⟨by rfl, ?_⟩) (by assumption) ?_
      rotate_left 1
      · intro V hSw
        (try dsimp only at hSw)
        go_simp
        (try with_reducible rfl)
      (try simp only [Act.put])
      refine wpAnyH_take (i := 15) (v := ?_) rfl (by kernel_rfl) (by kernel_rfl) (by kernel_rfl) (fun _ _ _ h => h) (Or.inl ⟨by rfl, ?_⟩) (by assumption) ?_
      rotate_left 1
      · intro V hSw
        (try dsimp only at hSw)
        go_simp
        (try with_reducible rfl)
      (try simp only [Act.put])
      refine wpAnyH_ready (rs := [12]) (by kernel_rfl) (by simp) ?_
      refine AllReadyH.cons rfl (fun K hK => ?_) ?_
      rotate_left 1
      · exact AllReadyH.nil
      go_simp
      refine hK.out _ _ hHeld (fun _ => ?_)
      clear hK K
      (try simp only [Act.put, List.setIfInBounds_toArray, List.set_cons_zero, List.set_cons_succ])
      refine wpAnyH_ready (rs := [16]) (by kernel_rfl) (by simp) ?_
      refine AllReadyH.cons rfl (fun K hK => ?_) ?_
      rotate_left 1
      · exact AllReadyH.nil
      go_simp
      go_at_call 21
      (with_reducible refine (cV.out _ (Below.refl _ _).drew _ _ (HI1.out _) (Nat.le_of_eq HN0.out)).mono ?_)
      rintro e w6 ⟨⟨dp, Db, d, Dk, m, dk, rfl, T6⟩, B6⟩
      go_wp2_with fail
      refine hK.out _ _ ⟨cell_low B6 (cell_drew h8), cell_low B6 (cell_drew hp0), cell_low B6 (cell_drew y0), cell_low B6 (cell_drew y1), cell_low B6 (cell_drew y2), cell_low B6 (cell_drew y3), cell_low B6 (cell_drew y4), cell_low B6 (cell_drew y5), cell_low B6 (cell_drew y6), cell_low B6 (cell_drew y7), cell_low B6 (cell_drew y8)⟩ (fun hHeld => ?_)
      clear hK K
      (try simp only [Act.put, List.setIfInBounds_toArray, List.set_cons_zero, List.set_cons_succ])
      have x0 := cell_low B6 (cell_drew x0); have f0 := frozen_low B6 HLG2.out (frozen_drew f0)
      have x1 := cell_low B6 (cell_drew x1); have f1 := frozen_low B6 HLG2.out (frozen_drew f1)
      have x2 := cell_low B6 (cell_drew x2); have f2 := frozen_low B6 HLG2.out (frozen_drew f2)
      have x3 := cell_low B6 (cell_drew x3); have f3 := frozen_low B6 HLG2.out (frozen_drew f3)
      have x4 := cell_low B6 (cell_drew x4); have f4 := frozen_low B6 HLG2.out (frozen_drew f4)
      have x5 := cell_low B6 (cell_drew x5); have f5 := frozen_low B6 HLG2.out (frozen_drew f5)
      have x6 := cell_low B6 (cell_drew x6); have f6 := frozen_low B6 HLG2.out (frozen_drew f6)
      have x7 := cell_low B6 (cell_drew x7); have f7 := frozen_low B6 HLG2.out (frozen_drew f7)
      have x8 := cell_low B6 (cell_drew x8); have f8 := frozen_low B6 HLG2.out (frozen_drew f8)
      refine wpAnyH_take (i := 17) (v := ?_) rfl (by kernel_rfl) (by kernel_rfl) (by kernel_rfl) (fun _ _ _ h => h) (Or.inl ⟨by rfl, ?_⟩) (by assumption) ?_
      rotate_left 1
      · intro V hSw
        (try dsimp only at hSw)
        go_simp
        (try with_reducible rfl)
      (try simp only [Act.put, List.setIfInBounds_toArray])
      refine wpAnyH_take (i := 18) (v := ?_) rfl (by kernel_rfl) (by kernel_rfl) (by kernel_rfl) (fun _ _ _ h => h) (Or.inl ⟨by rfl, ?_⟩) (by assumption) ?_
      rotate_left 1
      · intro V hSw
        (try dsimp only at hSw)
        go_simp
        (try with_reducible rfl)
      (try simp only [Act.put])
      refine wpAnyH_ready (rs := [19]) (by kernel_rfl) (by simp) ?_
      refine AllReadyH.cons rfl (fun K hK => ?_) ?_
      rotate_left 1
      · exact AllReadyH.nil
      go_simp
      rw [← chain9]
      refine hK.out _ _ ⟨cell_oth9 ng8 _ _ _ _ _ _ (cell_low B6 (cell_drew h8)), cell_oth9 ngp _ _ _ _ _ _ (cell_low B6 (cell_drew hp0)), cell_oth9 ngu _ _ _ _ _ _ (cell_low B6 (cell_drew y0)), cell_oth9 ngu _ _ _ _ _ _ (cell_low B6 (cell_drew y1)), cell_oth9 ngu _ _ _ _ _ _ (cell_low B6 (cell_drew y2)), cell_oth9 ngu _ _ _ _ _ _ (cell_low B6 (cell_drew y3)), cell_oth9 ngu _ _ _ _ _ _ (cell_low B6 (cell_drew y4)), cell_oth9 ngu _ _ _ _ _ _ (cell_low B6 (cell_drew y5)), cell_oth9 ngu _ _ _ _ _ _ (cell_low B6 (cell_drew y6)), cell_oth9 ngu _ _ _ _ _ _ (cell_low B6 (cell_drew y7)), cell_oth9 ngu _ _ _ _ _ _ (cell_low B6 (cell_drew y8))⟩ (fun _ => ?_)
      clear hK K
      (try simp only [Act.put, List.setIfInBounds_toArray, List.set_cons_zero, List.set_cons_succ])
      refine wpAnyH_done (by kernel_rfl) ?_ _
      have hb1 := HB5.out
      have hlg2 := HLG2.out
      have hbg := HBG.out
      have hs5 := hb1.size
      have L0 := Lib.hid ((keep_cells ng8 (cellsV dp Db d Dk m dk) (i * 10 + 1) w6).trans ((B6.block _ (block_lt K0.out)).trans K0.out))
      have L2 := Lib.hid ((keep_cells (show ¬ g = w.heap.size + 2 by omega) (cellsV dp Db d Dk m dk) (i * 10 + 1) w6).trans ((B6.block _ (block_lt K2.out)).trans K2.out))
      have BW : Hid (Below w.heap.size w (w6.setCells g (i * 10 + 1) (cellsV dp Db d Dk m dk))) := show Below _ _ _ from below_cells (by omega) _ _ _ (low17 HB5.out.drew B6)
      have hl2 := block_lt K2.out
      have TT : Hid (TreeAt (w6.setCells g (i * 10 + 1) (cellsV dp Db d Dk m dk)) (fun k => M k ∨ k = g ∨ (W5.heap.size ≤ k ∧ k < w6.heap.size)) (.node o (l.set i (xn, withT (.node ko kl) q (.node ou lu)))) (cellsV o Ab cb (some ⟨g, 0, none⟩) l.length cg)) := show TreeAt _ _ _ _ from by
        have hM := HM.out
        have nM : ∀ k, M k → ¬ g = k := fun k hk e => by have := hM k hk; omega
        have keepM : ∀ k, M k → (w6.setCells g (i * 10 + 1) (cellsV dp Db d Dk m dk)).heap[k]? = w.heap[k]? := fun k hk =>
          (keep_cells (nM k hk) _ _ _).trans ((B6.block k (Nat.lt_of_lt_of_le (hM k hk) hs5)).trans (hb1.block k (hM k hk)))
        rw [TreeAt]
        have el : (l.set i (xn, withT (.node ko kl) q (.node ou lu))).length = l.length := List.length_set
        refine ⟨Ab, cb, some ⟨g, 0, none⟩, cg, by rw [el], HFIT.out, by rw [el]; exact HLEN.out, (HBY.out.keep keepM).weaken (fun k hk => .inl hk), fun _ => ⟨g, 0, rfl, .inr (.inl rfl), ?_⟩⟩
        refine HKW.out _ _ g (cellsV dp Db d Dk m dk) _ (fun j hj hne => ?_) keepM (fun k hk => .inl hk) rfl (fun j hj => ?_) ?_
        · rw [World.cell?_setCells_out g _ _ _ _ (fun _ _ => by show j < i * 10 + 1 ∨ i * 10 + 1 + 9 ≤ j; omega)]
          have hjl : j < xs.length := by have := HXL.out; omega
          have e1 := HXC.out j _ (List.getElem?_eq_getElem hjl)
          have e2 := HCG.out j _ (List.getElem?_eq_getElem hjl)
          rw [B6.cell (p := ⟨g, j, none⟩) HLG2.out, e1]
          exact e2
        · rw [World.cell?_setCells_in g (cellsV dp Db d Dk m dk) (i * 10 + 1) w6 (fun r hr => ?_) j (show j < (cellsV dp Db d Dk m dk).length from hj)]
          · exact (List.getElem?_eq_getElem _).symm
          · have hr : r < 9 := hr
            have e := HXK.out r hr
            have e3 := HCG.out (i * 10 + 1 + r) _ (e.trans (List.getElem?_eq_getElem (show r < 9 from hr)))
            rw [B6.cell (p := ⟨g, i * 10 + 1 + r, none⟩) HLG2.out]
            show (W5.cell? _).isSome = true
            rw [e3]; rfl
        · refine TreeAt.weaken (fun k hk => ?_) _ _ (TreeAt.keep (fun k hk => keep_cells ?_ _ _ _) _ _ T6)
          · rcases hk with h | h
            · exact .inl h
            · exact .inr (.inr h)
          · rcases hk with h | h
            · exact nM k h
            · have h1 : W5.heap.size ≤ k := h.1
              have h2 : g < W5.heap.size := HLG.out
              omega
      have HS6 : Hid (w6.heap.size ≤ (w6.setCells g (i * 10 + 1) (cellsV dp Db d Dk m dk)).heap.size ∧ W5.heap.size ≤ w6.heap.size) := ⟨(below_cells (Nat.le_refl g) _ _ _ (Below.refl g w6)).size, B6.size⟩
      clear T6 B6 hb1 hlg2 hbg hs5 hl2 h8 hp0 x0 x1 x2 x3 x4 x5 x6 x7 x8 y0 y1 y2 y3 y4 y5 y6 y7 y8 f0 f1 f2 f3 f4 f5 f6 f7 f8 cV
      generalize w6.setCells g (i * 10 + 1) (cellsV dp Db d Dk m dk) = W7 at *
      have u0 : W7.cell? ⟨w.heap.size, 0, none⟩ = some (.int .i64 o.kind) := by rw [block_cell L0.out]; rfl
      have u1 : W7.cell? ⟨w.heap.size, 1, none⟩ = some (.int .u64 (o.bits : Int)) := by rw [block_cell L0.out]; rfl
      have u2 : W7.cell? ⟨w.heap.size, 2, none⟩ = some (.int .u64 (o.high : Int)) := by rw [block_cell L0.out]; rfl
      have u3 : W7.cell? ⟨w.heap.size, 3, none⟩ = some (.int .u64 (o.low : Int)) := by rw [block_cell L0.out]; rfl
      have u4 : W7.cell? ⟨w.heap.size, 4, none⟩ = some (.string ⟨o.text.toArray⟩) := by rw [block_cell L0.out]; rfl
      have u5 : W7.cell? ⟨w.heap.size, 5, none⟩ = some (.string ⟨o.more.toArray⟩) := by rw [block_cell L0.out]; rfl
      have u6 : W7.cell? ⟨w.heap.size, 6, none⟩ = some (.int .i64 o.sub) := by rw [block_cell L0.out]; rfl
      have u7 : W7.cell? ⟨w.heap.size, 7, none⟩ = some (.slice Ab o.bytes.length cb) := by rw [block_cell L0.out]; rfl
      have u8 : W7.cell? ⟨w.heap.size, 8, none⟩ = some (.slice (some ⟨g, 0, none⟩) l.length cg) := by rw [block_cell L0.out]; rfl
      have v0 : W7.cell? ⟨w.heap.size + 2, 0, none⟩ = some (.int .i64 0) := by rw [block_cell L2.out]; rfl
      have v1 : W7.cell? ⟨w.heap.size + 2, 1, none⟩ = some (.int .u64 0) := by rw [block_cell L2.out]; rfl
      have v2 : W7.cell? ⟨w.heap.size + 2, 2, none⟩ = some (.int .u64 0) := by rw [block_cell L2.out]; rfl
      have v3 : W7.cell? ⟨w.heap.size + 2, 3, none⟩ = some (.int .u64 0) := by rw [block_cell L2.out]; rfl
      have v4 : W7.cell? ⟨w.heap.size + 2, 4, none⟩ = some (.string ⟨#[]⟩) := by rw [block_cell L2.out]; rfl
      have v5 : W7.cell? ⟨w.heap.size + 2, 5, none⟩ = some (.string ⟨#[]⟩) := by rw [block_cell L2.out]; rfl
      have v6 : W7.cell? ⟨w.heap.size + 2, 6, none⟩ = some (.int .i64 0) := by rw [block_cell L2.out]; rfl
      have v7 : W7.cell? ⟨w.heap.size + 2, 7, none⟩ = some (.slice none 0 0) := by rw [block_cell L2.out]; rfl
      have v8 : W7.cell? ⟨w.heap.size + 2, 8, none⟩ = some (.slice none 0 0) := by rw [block_cell L2.out]; rfl
      have t0 : W7.frozen? ⟨w.heap.size + 2, 0, none⟩ = false := block_frozen L2.out 0
      have t1 : W7.frozen? ⟨w.heap.size + 2, 1, none⟩ = false := block_frozen L2.out 1
      have t2 : W7.frozen? ⟨w.heap.size + 2, 2, none⟩ = false := block_frozen L2.out 2
      have t3 : W7.frozen? ⟨w.heap.size + 2, 3, none⟩ = false := block_frozen L2.out 3
      have t4 : W7.frozen? ⟨w.heap.size + 2, 4, none⟩ = false := block_frozen L2.out 4
      have t5 : W7.frozen? ⟨w.heap.size + 2, 5, none⟩ = false := block_frozen L2.out 5
      have t6 : W7.frozen? ⟨w.heap.size + 2, 6, none⟩ = false := block_frozen L2.out 6
      have t7 : W7.frozen? ⟨w.heap.size + 2, 7, none⟩ = false := block_frozen L2.out 7
      have t8 : W7.frozen? ⟨w.heap.size + 2, 8, none⟩ = false := block_frozen L2.out 8
      go_wp2_with fail
      rw [← chain9z]
      have B8 := below_cells (show w.heap.size ≤ w.heap.size + 2 by omega) (cellsV o Ab cb (some ⟨g, 0, none⟩) l.length cg) 0 _ BW.out
      have S8 := (below_cells (Nat.le_refl (w.heap.size + 2)) (cellsV o Ab cb (some ⟨g, 0, none⟩) l.length cg) 0 _ (Below.refl (w.heap.size + 2) W7)).size
      have G8 := set9 L2.out o Ab cb (some ⟨g, 0, none⟩) l.length cg
      have k8 : ∀ k, (M k ∨ k = g ∨ (W5.heap.size ≤ k ∧ k < w6.heap.size)) → (W7.setCells (w.heap.size + 2) 0 (cellsV o Ab cb (some ⟨g, 0, none⟩) l.length cg)).heap[k]? = W7.heap[k]? := fun k hk => by
        have hbg := HBG.out
        have hlg := HLG.out
        refine keep_cells ?_ _ _ _
        rcases hk with h | h | h
        · have := HM.out k h; omega
        · omega
        · omega
      have T8 := TreeAt.weaken (M' := fun k => M k ∨ (w.heap.size ≤ k ∧ k < (W7.setCells (w.heap.size + 2) 0 (cellsV o Ab cb (some ⟨g, 0, none⟩) l.length cg)).heap.size)) (fun k hk => by
        have hbg := HBG.out
        have hlg := HLG.out
        have hs6 := HS6.out
        have hb5 := HB5.out.size
        rcases hk with h | h | h
        · exact .inl h
        · exact .inr ⟨by omega, by omega⟩
        · exact .inr ⟨by omega, by omega⟩) _ _ (TreeAt.keep k8 _ _ TT.out)
      generalize W7.setCells (w.heap.size + 2) 0 (cellsV o Ab cb (some ⟨g, 0, none⟩) l.length cg) = W8 at *
      unfold cellsV at G8
      refine bodyPost_ret (results_oneV rfl _ _ (w.heap.size + 2) #[.int .i64 o.kind, .int .u64 (o.bits : Int), .int .u64 (o.high : Int), .int .u64 (o.low : Int), .string ⟨o.text.toArray⟩, .string ⟨o.more.toArray⟩, .int .i64 o.sub, .slice Ab o.bytes.length cb, .slice (some ⟨g, 0, none⟩) l.length cg] rfl ?_) rfl ?_
      · exact load_value G8
      · exact ⟨⟨o, Ab, cb, some ⟨g, 0, none⟩, l.length, cg, rfl, T8⟩, B8⟩
    · have HNC1 : Hid (n - 1 ≤ c - 1) := show _ ≤ _ by have := HNC.out; omega
      refine wp_region_held_drew (S := (fun V : World => V.cell? ⟨w.heap.size, 8, none⟩ = some (.slice (some ⟨g, 0, none⟩) l.length cg) ∧ V.cell? ⟨pb, po, none⟩ = some (.int .i64 (i : Int)) ∧ V.cell? ⟨w.heap.size + 1, 0, none⟩ = some (.int .i64 ou.kind) ∧ V.cell? ⟨w.heap.size + 1, 1, none⟩ = some (.int .u64 (ou.bits : Int)) ∧ V.cell? ⟨w.heap.size + 1, 2, none⟩ = some (.int .u64 (ou.high : Int)) ∧ V.cell? ⟨w.heap.size + 1, 3, none⟩ = some (.int .u64 (ou.low : Int)) ∧ V.cell? ⟨w.heap.size + 1, 4, none⟩ = some (.string ⟨ou.text.toArray⟩) ∧ V.cell? ⟨w.heap.size + 1, 5, none⟩ = some (.string ⟨ou.more.toArray⟩) ∧ V.cell? ⟨w.heap.size + 1, 6, none⟩ = some (.int .i64 ou.sub) ∧ V.cell? ⟨w.heap.size + 1, 7, none⟩ = some (.slice Ub ou.bytes.length ub) ∧ V.cell? ⟨w.heap.size + 1, 8, none⟩ = some (.slice Uk lu.length uk))) (by kernel_rfl) ?_ (fun hHeld => ?_)
      · exact ⟨cell_drew h8, cell_drew hp0, cell_drew y0, cell_drew y1, cell_drew y2, cell_drew y3, cell_drew y4, cell_drew y5, cell_drew y6, cell_drew y7, cell_drew y8⟩
      refine wpAnyH_take (i := 0) (v := ?_) rfl (by kernel_rfl) (by kernel_rfl) (by kernel_rfl) (fun _ _ _ h => h) (Or.inl ⟨by rfl, ?_⟩) (by assumption) ?_
      rotate_left 1
      · intro V hSw
        (try dsimp only at hSw)
        go_simp
        (try with_reducible rfl)
      (try simp only [Act.put, List.setIfInBounds_toArray])
      refine wpAnyH_take (i := 1) (v := ?_) rfl (by kernel_rfl) (by kernel_rfl) (by kernel_rfl) (fun _ _ _ h => h) (Or.inl ⟨by rfl, ?_⟩) (by assumption) ?_
      rotate_left 1
      · intro V hSw
        (try dsimp only at hSw)
        go_simp
        (try with_reducible rfl)
      (try simp only [Act.put])
      refine wpAnyH_take (i := 2) (v := ?_) rfl (by kernel_rfl) (by kernel_rfl) (by kernel_rfl) (fun _ _ _ h => h) (Or.inl ⟨by rfl, ?_⟩) (by assumption) ?_
      rotate_left 1
      · intro V hSw
        (try dsimp only at hSw)
        go_simp
        (try with_reducible rfl)
      (try simp only [Act.put])
      refine wpAnyH_take (i := 3) (v := ?_) rfl (by kernel_rfl) (by kernel_rfl) (by kernel_rfl) (fun _ _ _ h => h) (Or.inl ⟨by rfl, ?_⟩) (by assumption) ?_
      rotate_left 1
      · intro V hSw
        (try dsimp only at hSw)
        go_simp
        (try with_reducible rfl)
      (try simp only [Act.put])
      refine wpAnyH_take (i := 4) (v := ?_) rfl (by kernel_rfl) (by kernel_rfl) (by kernel_rfl) (fun _ _ _ h => h) (Or.inl ⟨by rfl, ?_⟩) (by assumption) ?_
      rotate_left 1
      · intro V hSw
        (try dsimp only at hSw)
        go_simp
        (try with_reducible rfl)
      (try simp only [Act.put])
      refine wpAnyH_take (i := 5) (v := ?_) rfl (by kernel_rfl) (by kernel_rfl) (by kernel_rfl) (fun _ _ _ h => h) (Or.inl ⟨by rfl, ?_⟩) (by assumption) ?_
      rotate_left 1
      · intro V hSw
        (try dsimp only at hSw)
        go_simp
        (try with_reducible rfl)
      (try simp only [Act.put])
      refine wpAnyH_take (i := 6) (v := ?_) rfl (by kernel_rfl) (by kernel_rfl) (by kernel_rfl) (fun _ _ _ h => h) (Or.inl ⟨by rfl, ?_⟩) (by assumption) ?_
      rotate_left 1
      · intro V hSw
        (try dsimp only at hSw)
        go_simp
        (try with_reducible rfl)
      (try simp only [Act.put])
      refine wpAnyH_take (i := 7) (v := ?_) rfl (by kernel_rfl) (by kernel_rfl) (by kernel_rfl) (fun _ _ _ h => h) (Or.inl ⟨by rfl, ?_⟩) (by assumption) ?_
      rotate_left 1
      · intro V hSw
        (try dsimp only at hSw)
        go_simp
        (try with_reducible rfl)
      (try simp only [Act.put])
      refine wpAnyH_take (i := 8) (v := ?_) rfl (by kernel_rfl) (by kernel_rfl) (by kernel_rfl) (fun _ _ _ h => h) (Or.inl ⟨by rfl, ?_⟩) (by assumption) ?_
      rotate_left 1
      · intro V hSw
        (try dsimp only at hSw)
        go_simp
        (try with_reducible rfl)
      (try simp only [Act.put])
      refine wpAnyH_take (i := 9) (v := ?_) rfl (by kernel_rfl) (by kernel_rfl) (by kernel_rfl) (fun _ _ _ h => h) (Or.inl ⟨by rfl, ?_⟩) (by assumption) ?_
      rotate_left 1
      · intro V hSw
        (try dsimp only at hSw)
        go_simp
        (try with_reducible rfl)
      (try simp only [Act.put])
      refine wpAnyH_take (i := 10) (v := ?_) rfl (by kernel_rfl) (by kernel_rfl) (by kernel_rfl) (fun _ _ _ h => h) (Or.inl ⟨by rfl, ?_⟩) (by assumption) ?_
      rotate_left 1
      · intro V hSw
        (try dsimp only at hSw)
        go_simp
        (try with_reducible rfl)
      (try simp only [Act.put])
      refine wpAnyH_take (i := 11) (v := ?_) rfl (by kernel_rfl) (by kernel_rfl) (by kernel_rfl) (fun _ _ _ h => h) (Or.inl ⟨by rfl, ?_⟩) (by assumption) ?_
      rotate_left 1
      · intro V hSw
        (try dsimp only at hSw)
        go_simp
        (try with_reducible rfl)
      (try simp only [Act.put])
      refine wpAnyH_take (i := 13) (v := ?_) rfl (by kernel_rfl) (by kernel_rfl) (by kernel_rfl) (fun _ _ _ h => h) (Or.inl ⟨by rfl, ?_⟩) (by assumption) ?_
      rotate_left 1
      · intro V hSw
        (try dsimp only at hSw)
        go_simp
        (try with_reducible rfl)
      (try simp only [Act.put])
      refine wpAnyH_take (i := 14) (v := ?_) rfl (by kernel_rfl) (by kernel_rfl) (by kernel_rfl) (fun _ _ _ h => h) (Or.inl ⟨by rfl, ?_⟩) (by assumption) ?_
      rotate_left 1
      · intro V hSw
        (try dsimp only at hSw)
        go_simp
        (try with_reducible rfl)
      (try simp only [Act.put])
      refine wpAnyH_take (i := 15) (v := ?_) rfl (by kernel_rfl) (by kernel_rfl) (by kernel_rfl) (fun _ _ _ h => h) (Or.inl ⟨by rfl, ?_⟩) (by assumption) ?_
      rotate_left 1
      · intro V hSw
        (try dsimp only at hSw)
        go_simp
        (try with_reducible rfl)
      (try simp only [Act.put])
      refine wpAnyH_ready (rs := [12]) (by kernel_rfl) (by simp) ?_
      refine AllReadyH.cons rfl (fun K hK => ?_) ?_
      rotate_left 1
      · exact AllReadyH.nil
      go_simp
      refine hK.out _ _ hHeld (fun _ => ?_)
      clear hK K
      (try simp only [Act.put, List.setIfInBounds_toArray, List.set_cons_zero, List.set_cons_succ])
      refine wpAnyH_ready (rs := [16]) (by kernel_rfl) (by simp) ?_
      refine AllReadyH.cons rfl (fun K hK => ?_) ?_
      rotate_left 1
      · exact AllReadyH.nil
      go_simp
      go_at_call 21
      (with_reducible refine (cV.out _ (Below.refl _ _).drew _ _ (HPI1.out _ (Below.refl _ _).drew) HNC1.out).mono ?_)
      rintro e w6 ⟨⟨dp, Db, d, Dk, m, dk, rfl, T6⟩, B6⟩
      go_wp2_with fail
      refine hK.out _ _ ⟨cell_low B6 (cell_drew h8), cell_low B6 (cell_drew hp0), cell_low B6 (cell_drew y0), cell_low B6 (cell_drew y1), cell_low B6 (cell_drew y2), cell_low B6 (cell_drew y3), cell_low B6 (cell_drew y4), cell_low B6 (cell_drew y5), cell_low B6 (cell_drew y6), cell_low B6 (cell_drew y7), cell_low B6 (cell_drew y8)⟩ (fun hHeld => ?_)
      clear hK K
      (try simp only [Act.put, List.setIfInBounds_toArray, List.set_cons_zero, List.set_cons_succ])
      have x0 := cell_low B6 (cell_drew x0); have f0 := frozen_low B6 HLG2.out (frozen_drew f0)
      have x1 := cell_low B6 (cell_drew x1); have f1 := frozen_low B6 HLG2.out (frozen_drew f1)
      have x2 := cell_low B6 (cell_drew x2); have f2 := frozen_low B6 HLG2.out (frozen_drew f2)
      have x3 := cell_low B6 (cell_drew x3); have f3 := frozen_low B6 HLG2.out (frozen_drew f3)
      have x4 := cell_low B6 (cell_drew x4); have f4 := frozen_low B6 HLG2.out (frozen_drew f4)
      have x5 := cell_low B6 (cell_drew x5); have f5 := frozen_low B6 HLG2.out (frozen_drew f5)
      have x6 := cell_low B6 (cell_drew x6); have f6 := frozen_low B6 HLG2.out (frozen_drew f6)
      have x7 := cell_low B6 (cell_drew x7); have f7 := frozen_low B6 HLG2.out (frozen_drew f7)
      have x8 := cell_low B6 (cell_drew x8); have f8 := frozen_low B6 HLG2.out (frozen_drew f8)
      refine wpAnyH_take (i := 17) (v := ?_) rfl (by kernel_rfl) (by kernel_rfl) (by kernel_rfl) (fun _ _ _ h => h) (Or.inl ⟨by rfl, ?_⟩) (by assumption) ?_
      rotate_left 1
      · intro V hSw
        (try dsimp only at hSw)
        go_simp
        (try with_reducible rfl)
      (try simp only [Act.put, List.setIfInBounds_toArray])
      refine wpAnyH_take (i := 18) (v := ?_) rfl (by kernel_rfl) (by kernel_rfl) (by kernel_rfl) (fun _ _ _ h => h) (Or.inl ⟨by rfl, ?_⟩) (by assumption) ?_
      rotate_left 1
      · intro V hSw
        (try dsimp only at hSw)
        go_simp
        (try with_reducible rfl)
      (try simp only [Act.put])
      refine wpAnyH_ready (rs := [19]) (by kernel_rfl) (by simp) ?_
      refine AllReadyH.cons rfl (fun K hK => ?_) ?_
      rotate_left 1
      · exact AllReadyH.nil
      go_simp
      rw [← chain9]
      refine hK.out _ _ ⟨cell_oth9 ng8 _ _ _ _ _ _ (cell_low B6 (cell_drew h8)), cell_oth9 ngp _ _ _ _ _ _ (cell_low B6 (cell_drew hp0)), cell_oth9 ngu _ _ _ _ _ _ (cell_low B6 (cell_drew y0)), cell_oth9 ngu _ _ _ _ _ _ (cell_low B6 (cell_drew y1)), cell_oth9 ngu _ _ _ _ _ _ (cell_low B6 (cell_drew y2)), cell_oth9 ngu _ _ _ _ _ _ (cell_low B6 (cell_drew y3)), cell_oth9 ngu _ _ _ _ _ _ (cell_low B6 (cell_drew y4)), cell_oth9 ngu _ _ _ _ _ _ (cell_low B6 (cell_drew y5)), cell_oth9 ngu _ _ _ _ _ _ (cell_low B6 (cell_drew y6)), cell_oth9 ngu _ _ _ _ _ _ (cell_low B6 (cell_drew y7)), cell_oth9 ngu _ _ _ _ _ _ (cell_low B6 (cell_drew y8))⟩ (fun _ => ?_)
      clear hK K
      (try simp only [Act.put, List.setIfInBounds_toArray, List.set_cons_zero, List.set_cons_succ])
      refine wpAnyH_done (by kernel_rfl) ?_ _
      have hb1 := HB5.out
      have hlg2 := HLG2.out
      have hbg := HBG.out
      have hs5 := hb1.size
      have L0 := Lib.hid ((keep_cells ng8 (cellsV dp Db d Dk m dk) (i * 10 + 1) w6).trans ((B6.block _ (block_lt K0.out)).trans K0.out))
      have L2 := Lib.hid ((keep_cells (show ¬ g = w.heap.size + 2 by omega) (cellsV dp Db d Dk m dk) (i * 10 + 1) w6).trans ((B6.block _ (block_lt K2.out)).trans K2.out))
      have BW : Hid (Below w.heap.size w (w6.setCells g (i * 10 + 1) (cellsV dp Db d Dk m dk))) := show Below _ _ _ from below_cells (by omega) _ _ _ (low17 HB5.out.drew B6)
      have hl2 := block_lt K2.out
      have TT : Hid (TreeAt (w6.setCells g (i * 10 + 1) (cellsV dp Db d Dk m dk)) (fun k => M k ∨ k = g ∨ (W5.heap.size ≤ k ∧ k < w6.heap.size)) (.node o (l.set i (xn, withT (.node ko kl) q (.node ou lu)))) (cellsV o Ab cb (some ⟨g, 0, none⟩) l.length cg)) := show TreeAt _ _ _ _ from by
        have hM := HM.out
        have nM : ∀ k, M k → ¬ g = k := fun k hk e => by have := hM k hk; omega
        have keepM : ∀ k, M k → (w6.setCells g (i * 10 + 1) (cellsV dp Db d Dk m dk)).heap[k]? = w.heap[k]? := fun k hk =>
          (keep_cells (nM k hk) _ _ _).trans ((B6.block k (Nat.lt_of_lt_of_le (hM k hk) hs5)).trans (hb1.block k (hM k hk)))
        rw [TreeAt]
        have el : (l.set i (xn, withT (.node ko kl) q (.node ou lu))).length = l.length := List.length_set
        refine ⟨Ab, cb, some ⟨g, 0, none⟩, cg, by rw [el], HFIT.out, by rw [el]; exact HLEN.out, (HBY.out.keep keepM).weaken (fun k hk => .inl hk), fun _ => ⟨g, 0, rfl, .inr (.inl rfl), ?_⟩⟩
        refine HKW.out _ _ g (cellsV dp Db d Dk m dk) _ (fun j hj hne => ?_) keepM (fun k hk => .inl hk) rfl (fun j hj => ?_) ?_
        · rw [World.cell?_setCells_out g _ _ _ _ (fun _ _ => by show j < i * 10 + 1 ∨ i * 10 + 1 + 9 ≤ j; omega)]
          have hjl : j < xs.length := by have := HXL.out; omega
          have e1 := HXC.out j _ (List.getElem?_eq_getElem hjl)
          have e2 := HCG.out j _ (List.getElem?_eq_getElem hjl)
          rw [B6.cell (p := ⟨g, j, none⟩) HLG2.out, e1]
          exact e2
        · rw [World.cell?_setCells_in g (cellsV dp Db d Dk m dk) (i * 10 + 1) w6 (fun r hr => ?_) j (show j < (cellsV dp Db d Dk m dk).length from hj)]
          · exact (List.getElem?_eq_getElem _).symm
          · have hr : r < 9 := hr
            have e := HXK.out r hr
            have e3 := HCG.out (i * 10 + 1 + r) _ (e.trans (List.getElem?_eq_getElem (show r < 9 from hr)))
            rw [B6.cell (p := ⟨g, i * 10 + 1 + r, none⟩) HLG2.out]
            show (W5.cell? _).isSome = true
            rw [e3]; rfl
        · refine TreeAt.weaken (fun k hk => ?_) _ _ (TreeAt.keep (fun k hk => keep_cells ?_ _ _ _) _ _ T6)
          · rcases hk with h | h
            · exact .inl h
            · exact .inr (.inr h)
          · rcases hk with h | h
            · exact nM k h
            · have h1 : W5.heap.size ≤ k := h.1
              have h2 : g < W5.heap.size := HLG.out
              omega
      have HS6 : Hid (w6.heap.size ≤ (w6.setCells g (i * 10 + 1) (cellsV dp Db d Dk m dk)).heap.size ∧ W5.heap.size ≤ w6.heap.size) := ⟨(below_cells (Nat.le_refl g) _ _ _ (Below.refl g w6)).size, B6.size⟩
      clear T6 B6 hb1 hlg2 hbg hs5 hl2 h8 hp0 x0 x1 x2 x3 x4 x5 x6 x7 x8 y0 y1 y2 y3 y4 y5 y6 y7 y8 f0 f1 f2 f3 f4 f5 f6 f7 f8 cV
      generalize w6.setCells g (i * 10 + 1) (cellsV dp Db d Dk m dk) = W7 at *
      have u0 : W7.cell? ⟨w.heap.size, 0, none⟩ = some (.int .i64 o.kind) := by rw [block_cell L0.out]; rfl
      have u1 : W7.cell? ⟨w.heap.size, 1, none⟩ = some (.int .u64 (o.bits : Int)) := by rw [block_cell L0.out]; rfl
      have u2 : W7.cell? ⟨w.heap.size, 2, none⟩ = some (.int .u64 (o.high : Int)) := by rw [block_cell L0.out]; rfl
      have u3 : W7.cell? ⟨w.heap.size, 3, none⟩ = some (.int .u64 (o.low : Int)) := by rw [block_cell L0.out]; rfl
      have u4 : W7.cell? ⟨w.heap.size, 4, none⟩ = some (.string ⟨o.text.toArray⟩) := by rw [block_cell L0.out]; rfl
      have u5 : W7.cell? ⟨w.heap.size, 5, none⟩ = some (.string ⟨o.more.toArray⟩) := by rw [block_cell L0.out]; rfl
      have u6 : W7.cell? ⟨w.heap.size, 6, none⟩ = some (.int .i64 o.sub) := by rw [block_cell L0.out]; rfl
      have u7 : W7.cell? ⟨w.heap.size, 7, none⟩ = some (.slice Ab o.bytes.length cb) := by rw [block_cell L0.out]; rfl
      have u8 : W7.cell? ⟨w.heap.size, 8, none⟩ = some (.slice (some ⟨g, 0, none⟩) l.length cg) := by rw [block_cell L0.out]; rfl
      have v0 : W7.cell? ⟨w.heap.size + 2, 0, none⟩ = some (.int .i64 0) := by rw [block_cell L2.out]; rfl
      have v1 : W7.cell? ⟨w.heap.size + 2, 1, none⟩ = some (.int .u64 0) := by rw [block_cell L2.out]; rfl
      have v2 : W7.cell? ⟨w.heap.size + 2, 2, none⟩ = some (.int .u64 0) := by rw [block_cell L2.out]; rfl
      have v3 : W7.cell? ⟨w.heap.size + 2, 3, none⟩ = some (.int .u64 0) := by rw [block_cell L2.out]; rfl
      have v4 : W7.cell? ⟨w.heap.size + 2, 4, none⟩ = some (.string ⟨#[]⟩) := by rw [block_cell L2.out]; rfl
      have v5 : W7.cell? ⟨w.heap.size + 2, 5, none⟩ = some (.string ⟨#[]⟩) := by rw [block_cell L2.out]; rfl
      have v6 : W7.cell? ⟨w.heap.size + 2, 6, none⟩ = some (.int .i64 0) := by rw [block_cell L2.out]; rfl
      have v7 : W7.cell? ⟨w.heap.size + 2, 7, none⟩ = some (.slice none 0 0) := by rw [block_cell L2.out]; rfl
      have v8 : W7.cell? ⟨w.heap.size + 2, 8, none⟩ = some (.slice none 0 0) := by rw [block_cell L2.out]; rfl
      have t0 : W7.frozen? ⟨w.heap.size + 2, 0, none⟩ = false := block_frozen L2.out 0
      have t1 : W7.frozen? ⟨w.heap.size + 2, 1, none⟩ = false := block_frozen L2.out 1
      have t2 : W7.frozen? ⟨w.heap.size + 2, 2, none⟩ = false := block_frozen L2.out 2
      have t3 : W7.frozen? ⟨w.heap.size + 2, 3, none⟩ = false := block_frozen L2.out 3
      have t4 : W7.frozen? ⟨w.heap.size + 2, 4, none⟩ = false := block_frozen L2.out 4
      have t5 : W7.frozen? ⟨w.heap.size + 2, 5, none⟩ = false := block_frozen L2.out 5
      have t6 : W7.frozen? ⟨w.heap.size + 2, 6, none⟩ = false := block_frozen L2.out 6
      have t7 : W7.frozen? ⟨w.heap.size + 2, 7, none⟩ = false := block_frozen L2.out 7
      have t8 : W7.frozen? ⟨w.heap.size + 2, 8, none⟩ = false := block_frozen L2.out 8
      go_wp2_with fail
      rw [← chain9z]
      have B8 := below_cells (show w.heap.size ≤ w.heap.size + 2 by omega) (cellsV o Ab cb (some ⟨g, 0, none⟩) l.length cg) 0 _ BW.out
      have S8 := (below_cells (Nat.le_refl (w.heap.size + 2)) (cellsV o Ab cb (some ⟨g, 0, none⟩) l.length cg) 0 _ (Below.refl (w.heap.size + 2) W7)).size
      have G8 := set9 L2.out o Ab cb (some ⟨g, 0, none⟩) l.length cg
      have k8 : ∀ k, (M k ∨ k = g ∨ (W5.heap.size ≤ k ∧ k < w6.heap.size)) → (W7.setCells (w.heap.size + 2) 0 (cellsV o Ab cb (some ⟨g, 0, none⟩) l.length cg)).heap[k]? = W7.heap[k]? := fun k hk => by
        have hbg := HBG.out
        have hlg := HLG.out
        refine keep_cells ?_ _ _ _
        rcases hk with h | h | h
        · have := HM.out k h; omega
        · omega
        · omega
      have T8 := TreeAt.weaken (M' := fun k => M k ∨ (w.heap.size ≤ k ∧ k < (W7.setCells (w.heap.size + 2) 0 (cellsV o Ab cb (some ⟨g, 0, none⟩) l.length cg)).heap.size)) (fun k hk => by
        have hbg := HBG.out
        have hlg := HLG.out
        have hs6 := HS6.out
        have hb5 := HB5.out.size
        rcases hk with h | h | h
        · exact .inl h
        · exact .inr ⟨by omega, by omega⟩
        · exact .inr ⟨by omega, by omega⟩) _ _ (TreeAt.keep k8 _ _ TT.out)
      generalize W7.setCells (w.heap.size + 2) 0 (cellsV o Ab cb (some ⟨g, 0, none⟩) l.length cg) = W8 at *
      unfold cellsV at G8
      refine bodyPost_ret (results_oneV rfl _ _ (w.heap.size + 2) #[.int .i64 o.kind, .int .u64 (o.bits : Int), .int .u64 (o.high : Int), .int .u64 (o.low : Int), .string ⟨o.text.toArray⟩, .string ⟨o.more.toArray⟩, .int .i64 o.sub, .slice Ab o.bytes.length cb, .slice (some ⟨g, 0, none⟩) l.length cg] rfl ?_) rfl ?_
      · exact load_value G8
      · exact ⟨⟨o, Ab, cb, some ⟨g, 0, none⟩, l.length, cg, rfl, T8⟩, B8⟩
end Go.Proofs.Ytmkgcifcfgfegaa
