/-
  What the document's all and All do (chapter 18, chapter 17's laws call them): the paths of a tree's values, in order; by induction over trees, no condition but bounds.
-/
import Derived.Test.YtmkgcifcfgfegaaRefC17
import Derived.Deep.RegionHeld3
namespace Go.Proofs.Ytmkgcifcfgfegaa
set_option maxRecDepth 100000
open Go.RowKit
theorem own_le {w : World} {base n c : Nat} {e : TypeId} {A : Option Addr} {xs : List Value} (h : w.ownsRow base e 1 (.slice A n c) n xs) : n ≤ c := by
  rcases h.2 with ⟨e, h0⟩ | ⟨g, cap, cur, e, _, _, hnc, _⟩
  · omega
  · injection e with _ _ e3
    omega
set_option maxHeartbeats 1000000 in
theorem longer_cap (A : Option Addr) (n c : Nat) (xs : List Int) (k : Int) (w : World) (h : Ints w (· < w.heap.size) A n xs) (hn : n ≤ 1000000) :
    Calls Try.prog 40 #[.slice A n c, .int .i64 k] w fun e w' => (∃ A' c', e = .returned (.slice A' (n + 1) c') ∧ Ints w' (fun b => w.heap.size ≤ b ∧ b < w'.heap.size) A' (n + 1) (xs ++ [k]) ∧ n + 1 ≤ c') ∧ Below w.heap.size w w' := by
  obtain ⟨i0, hi0, hz0, hz1, hz2⟩ := info_parts info_int
  have HZ := Lib.hid hz0; have HI := Lib.hid hi0; have H1 := Lib.hid hz1; have H2 := Lib.hid hz2
  have HA := Lib.hid h
  clear h hz0 hi0 hz1 hz2
  have HA3 : Hid (Ints (w.alloc (.cells #[] 3)) (· < w.heap.size) A n xs) := HA.out.keep (fun k hk => Below.heap_alloc _ _ _ hk)
  have HO3 : Hid ((w.alloc (.cells #[] 3)).ownsRow w.heap.size 3 1 (.slice (some ⟨w.heap.size, 0, none⟩) 0 0) 0 []) := World.ownsRow_lit w #[] 0 (Nat.le_refl _) (Nat.zero_le _) rfl
  have L1 : Hid ((intCells xs).length = n) := show _ = _ by simp [intCells, HA.out.1]
  have L2 : 0 + n ≤ maxLen := by simp only [maxLen]; omega
  have L3 : (0 + n) * 8 ≤ 140737488355328 := by omega
  have B3 : Below w.heap.size w (w.alloc (.cells #[] 3)) := (Below.refl _ _).alloc (Nat.le_refl _) _
  have M2 : n + 1 ≤ maxLen := by simp only [maxLen]; omega
  have M3 : (n + 1) * 8 ≤ 140737488355328 := by omega
  have l4 : ∀ u ∈ ([.int .i64 k] : List Value), u.oneCell' = true := by simp [Value.oneCell']
  go_enter Try.func40, Try.ntmps40
  go_wp2_with (first | (at_builtin; refine wpList_append_held _ rfl (.tmp 5) (.tmp 6) 27 rfl w.heap.size 3 i0 _ 8 Try.underlying27 HI.out HZ.out H1.out H2.out rfl _ 0 [] rfl HO3.out A n c (intCells xs) rfl L1.out HA3.out.cellsAt (intCells_one xs) L2 L3 (by simp) ?_))
  intro A4 c4 w4 ho4 hg4 _
  have B4 : Below w.heap.size w w4 := B3.grown hg4 (by simp) (fun k hk => (HO3.out.lt k hk).1)
  have HO4 : Hid (w4.ownsRow w.heap.size 3 1 (.slice A4 n c4) n (intCells xs)) := show World.ownsRow _ _ _ _ _ _ _ from by
    have := ho4.out
    simpa using this
  have h34 : w.heap.size ≤ w4.heap.size := B4.size
  have hgn := heap_alloc_new w4 (.cells #[.int .i64 k] 3)
  have HOA : Hid ((w4.alloc (.cells #[.int .i64 k] 3)).ownsRow w.heap.size 3 1 (.slice A4 n c4) n (intCells xs)) := HO4.out.alloc _
  have BA : Below w.heap.size w (w4.alloc (.cells #[.int .i64 k] 3)) := B4.alloc B4.size _
  have HSr : Hid (0 < 1 → ∃ ad, some (⟨w4.heap.size, 0, none⟩ : Addr) = some ad ∧ ∀ j u, ([.int .i64 k] : List Value)[j]? = some u → (w4.alloc (.cells #[.int .i64 k] 3)).cell? (ad.add j) = some u) := fun _ =>
    ⟨_, rfl, World.news_of_block (cs := #[.int .i64 k]) (t := 3) (fr := (0, 0)) hgn⟩
  have hsz : w.heap.size ≤ (w4.alloc (.cells #[.int .i64 k] 3)).heap.size := BA.size
  clear ho4 hg4 HO3 HA3 hgn B4
  go_wp2_with (first | (at_builtin; refine wpList_append_held _ rfl (.tmp 7) (.tmp 9) 27 rfl w.heap.size 3 i0 _ 8 Try.underlying27 HI.out HZ.out H1.out H2.out rfl _ n (intCells xs) rfl HOA.out (some ⟨w4.heap.size, 0, none⟩) 1 1 [.int .i64 k] rfl rfl HSr.out l4 M2 M3 hsz ?_))
  intro A5 c5 w5 ho5 hg5 _
  have HB5 := Lib.hid (BA.grown hg5 BA.size (fun k hk => (HOA.out.lt k hk).1))
  have H5 : Hid (Ints w5 (fun b => w.heap.size ≤ b ∧ b < w5.heap.size) A5 (n + 1) (xs ++ [k])) := by
    have := ho5.out
    exact own_ints_new (by unfold intCells; rw [List.map_append]; exact this)
  have HCAP : Hid (n + 1 ≤ c5) := show _ ≤ _ from own_le ho5.out
  clear ho5 hg5 HO4 HOA BA HSr hsz l4 M2 M3 h34
  go_wp2_with fail
  go_ret
  exact ⟨⟨_, _, rfl, H5.out, HCAP.out⟩, HB5.out⟩
mutual
/-- The paths from a value at a path on. -/
def allT : Tree → List Int → List (List Int)
  | .node _ l, p => p :: allK l 0 p
def allK : List (List UInt8 × Tree) → Nat → List Int → List (List Int)
  | [], _, _ => []
  | (_, t) :: l, i, p => allT t (p ++ [(i : Int)]) ++ allK l (i + 1) p
end
theorem allT_length : ∀ (t : Tree) (p : List Int), (allT t p).length = cntT t := by
  refine Tree.ind ?_
  intro o l ih p
  rw [allT, cntT, List.length_cons]
  have q : ∀ (m : List Kid) (i : Nat), (∀ x ∈ m, x ∈ l) → (allK m i p).length = cntK m := fun m => by
    induction m with
    | nil => intro _ _; rw [allK, cntK]; rfl
    | cons x m ihm =>
      intro i hm
      obtain ⟨n, t⟩ := x
      have h1 := ih (n, t) (hm _ (.head _)) (p ++ [(i : Int)])
      rw [allK, cntK, List.length_append, ihm (i + 1) (fun y hy => hm y (.tail _ hy)), h1]
  rw [q l 0 (fun _ h => h)]
  omega
theorem allK_step {l : List Kid} {k : Nat} (h : k < l.length) (i : Nat) (p : List Int) : allK (l.drop k) i p = allT (l[k]).2 (p ++ [(i : Int)]) ++ allK (l.drop (k + 1)) (i + 1) p := by
  rw [List.drop_eq_getElem_cons h, allK]
/-- Cells that hold lists of numbers. -/
def RowsI (w : World) (M : Nat → Prop) : List Value → List (List Int) → Prop
  | [], [] => True
  | v :: vs, l :: ls => (∃ A n c, v = .slice A n c ∧ n ≤ c ∧ Ints w M A n l) ∧ RowsI w M vs ls
  | [], _ :: _ => False
  | _ :: _, [] => False
theorem RowsI.turn {w w' : World} {M M' : Nat → Prop} (hk : ∀ b, M b → w'.heap[b]? = w.heap[b]?) (hm : ∀ b, M b → M' b) : ∀ {xs : List Value} {ls : List (List Int)}, RowsI w M xs ls → RowsI w' M' xs ls
  | [], [], _ => trivial
  | _ :: _, _ :: _, ⟨⟨A, n, c, e, hnc, h⟩, t⟩ => ⟨⟨A, n, c, e, hnc, (h.keep hk).weaken hm⟩, RowsI.turn hk hm t⟩
theorem RowsI.append {w : World} {M : Nat → Prop} : ∀ {xs : List Value} {ls : List (List Int)} {ys : List Value} {ms : List (List Int)}, RowsI w M xs ls → RowsI w M ys ms → RowsI w M (xs ++ ys) (ls ++ ms)
  | [], [], _, _, _, h => h
  | _ :: _, _ :: _, _, _, ⟨a, t⟩, h => ⟨a, RowsI.append t h⟩
theorem RowsI.len {w : World} {M : Nat → Prop} : ∀ {xs : List Value} {ls : List (List Int)}, RowsI w M xs ls → xs.length = ls.length
  | [], [], _ => rfl
  | _ :: _, _ :: _, ⟨_, t⟩ => by rw [List.length_cons, List.length_cons, RowsI.len t]
theorem RowsI.one {w : World} {M : Nat → Prop} : ∀ {xs : List Value} {ls : List (List Int)}, RowsI w M xs ls → ∀ u ∈ xs, u.oneCell' = true
  | [], [], _, u, hu => by cases hu
  | _ :: _, _ :: _, ⟨⟨A, n, c, e, _⟩, t⟩, u, hu => by
    rcases List.mem_cons.1 hu with rfl | hu
    · rw [e]; rfl
    · exact RowsI.one t u hu
theorem owns_on {w w' : World} {base : Nat} {e : TypeId} {v : Value} {n : Nat} {xs : List Value} (h : w.ownsRow base e 1 v n xs) (hB : Below w.heap.size w w') : w'.ownsRow base e 1 v n xs := by
  refine ⟨h.1, ?_⟩
  rcases h.2 with h2 | ⟨g, cap, cur, e1, hb, hg, r⟩
  · exact .inl h2
  · exact .inr ⟨g, cap, cur, e1, hb, (hB.block g (block_lt hg)).trans hg, r⟩
theorem owns_cells {w : World} {base n c : Nat} {e : TypeId} {A : Option Addr} {xs : List Value} (h : w.ownsRow base e 1 (.slice A n c) n xs) (hn : 0 < n) : ∃ ad, A = some ad ∧ ∀ j u, xs[j]? = some u → w.cell? (ad.add j) = some u := by
  obtain ⟨g, e1, _, _, hc⟩ := own_cell h hn
  refine ⟨_, e1, fun j u hj => ?_⟩
  have hl : j < n := by
    have h1 := (List.getElem?_eq_some_iff.1 hj).1
    have h2 := h.1
    omega
  rw [Addr.add_lit, Nat.zero_add, hc j hl]
  exact hj
theorem info_ints : (Try.prog.info? 27).map (fun i => (i.zero, i.size, i.bytes)) = some (some (.slice none 0 0), 1, 24) := by kernel_rfl
/-- Where the rows of a list of lists lie: where M says, or in new blocks; not in the list's own. -/
def Lies (w w' : World) (M : Nat → Prop) (v : Value) (b : Nat) : Prop := (M b ∨ w.heap.size ≤ b) ∧ b < w'.heap.size ∧ v.ownBlock ≠ some b
theorem cell_under {B : Nat} {V w' : World} {p : Addr} {v : Value} (hB : Below B V w') (hp : p.block < B) (h : V.cell? p = some v) : w'.cell? p = some v := (hB.cell hp).trans h
/-- Lists of numbers that a call has made. -/
def AnsL (w : World) (M : Nat → Prop) (ls : List (List Int)) (e : Ending) (w' : World) : Prop :=
  (∃ A n c xs, e = .returned (.slice A n c) ∧ w'.ownsRow w.heap.size 27 1 (.slice A n c) n xs ∧ RowsI w' (Lies w w' M (.slice A n c)) xs ls) ∧ Below w.heap.size w w'
/-- append onto a row of the call's own, as one step of a region that draws its order. -/
theorem step_append_held {P : Program} {ops : Array Oper} {o : Oper} {a : Act} {w : World} {K : Act → World → Prop} {Q : Exit → Act → World → Prop} {E : Prop}
    (hg : o.guard = none) (s x : Operand) (t : TypeId) (ho : o.op = .call { callee := .builtin .append, args := #[s, x], argTypes := #[t, t] })
    (base : Nat) (e : TypeId) (i : TypeInfo) (z : Value) (bytes : Nat) (ht : P.underlying t = some (.slice e)) (hi : P.info? e = some i) (hz : i.zero = some z)
    (hsize : i.size = 1) (hby : i.bytes = bytes) (hzs : z.cells.size = 1) (v : Value) (n : Nat) (xs : List Value) (hs : a.eval s = v) (hown : w.ownsRow base e 1 v n xs)
    (A : Option Addr) (m c : Nat) (news : List Value) (hx : a.eval x = .slice A m c) (hl : news.length = m) (hpos : 0 < m → ∃ ad, A = some ad ∧ ∀ j u, news[j]? = some u → w.cell? (ad.add j) = some u) (h1 : ∀ u ∈ news, u.oneCell' = true)
    (h63 : n + m ≤ maxLen) (hbytes : (n + m) * bytes ≤ 140737488355328) (hbase : base ≤ w.heap.size)
    (h : ∀ A' c' w', Hid (w'.ownsRow base e 1 (.slice A' (n + m) c') (n + m) (xs ++ news)) → w.grownBy w' v.ownBlock → Hid ((Value.slice A' (n + m) c').ownBlock = v.ownBlock ∨ (Value.slice A' (n + m) c').ownBlock = some w.heap.size) → K (a.put o.dst (.slice A' (n + m) c')) w') :
    if Region.wanted o (yielded ops a.tmps) = true then Oper.wp P o a w K Q else E := by
  have hw : Region.wanted o (yielded ops a.tmps) = true := by simp [Region.wanted, hg]
  rw [if_pos hw]
  obtain ⟨v', w', hr, h2, h3, h5⟩ := run_append_held (P := P) w base t o.type e i z bytes ht hi hz hsize hby hzs v n xs hown A m c news hl hpos h1 h63 hbytes hbase
  unfold Oper.wp
  simp [execOp, ho, resolve, invoke, builtin, hs, hx, hr, Result.andThen]
  obtain ⟨A', c', rfl⟩ := own_form h2
  exact h A' c' w' h2 h3 h5
set_option maxHeartbeats 4000000 in
theorem refall_any : ∀ (t : Tree) (cs : List Value) (A : Option Addr) (n c : Nat) (p : List Int) (w : World) (M : Nat → Prop), (∀ b, M b → b < w.heap.size) → cntT t + n ≤ 1000000 → TreeAt w (· < w.heap.size) t cs → Ints w M A n p → n ≤ c →
    Calls Try.prog 29 #[.agg cs.toArray, .slice A n c] w (AnsL w M (allT t p)) := by
  refine Tree.ind ?_
  intro o l ih cs A n c p w M hM hc hT hP hnc
  obtain ⟨Ab, cb, Ak, ck, rfl, hfit, hlen, hbytes, hkids⟩ := hT.open_
  obtain ⟨R, hR⟩ : ∃ R, R = allT (.node o l) p := ⟨_, rfl⟩
  rw [← hR]
  have hRl : R.length = cntT (.node o l) := by rw [hR]; exact allT_length _ _
  rw [allT] at hR
  rw [cntT] at hc hRl
  have B0 : Below w.heap.size w (w.alloc (.cells (cellsV o Ab cb Ak l.length ck).toArray 26)) := (Below.refl _ _).alloc (Nat.le_refl _) _
  have hb : (w.alloc (.cells (cellsV o Ab cb Ak l.length ck).toArray 26)).heap[w.heap.size]? = some (.cells (cellsV o Ab cb Ak l.length ck).toArray 26) := heap_alloc_new w _
  have hsz : (w.alloc (.cells (cellsV o Ab cb Ak l.length ck).toArray 26)).heap.size = w.heap.size + 1 := by simp
  have HK := Lib.hid hkids
  have HI := Lib.hid ih
  have HP := Lib.hid hP
  have HM := Lib.hid hM
  have HNC := Lib.hid hnc
  have HC := Lib.hid hc
  have HRl := Lib.hid hRl
  have HL : Hid (l.length ≤ 1000000) := show _ ≤ _ by have := len_le_cnt l; omega
  have HR : Hid (R = [p] ++ allK (l.drop 0) 0 p) := hR
  clear hM hc hnc hfit hlen hbytes hkids ih hT hP hR hRl
  unfold cellsV at *
  go_enter Try.func29, Try.ntmps29
  go_upto_region 1 with fail
  have HB0 := Lib.hid B0
  have Hb := Lib.hid hb
  have Hsz := Lib.hid hsz
  clear B0 hb hsz
  generalize w.alloc (.cells #[.int .i64 o.kind, .int .u64 (o.bits : Int), .int .u64 (o.high : Int), .int .u64 (o.low : Int), .string ⟨o.text.toArray⟩, .string ⟨o.more.toArray⟩, .int .i64 o.sub, .slice Ab o.bytes.length cb, .slice Ak l.length ck] 26) = W at *
  go_wp2_with fail
  have q0 : Below W.heap.size W (W.alloc (.cells #[.slice A n c] 27)) := (Below.refl _ _).alloc (Nat.le_refl _) _
  have HB1 := Lib.hid (low17 HB0.out q0)
  have Hb1 := Lib.hid ((q0.block _ (block_lt Hb.out)).trans Hb.out)
  have HO1 : Hid ((W.alloc (.cells #[.slice A n c] 27)).ownsRow (w.heap.size + 1) 27 1 (.slice (some ⟨W.heap.size, 0, none⟩) 1 1) 1 [.slice A n c]) := World.ownsRow_lit W #[.slice A n c] 1 (by rw [Hsz.out]; exact Nat.le_refl _) (by decide) rfl
  have HX1 : Hid (RowsI (W.alloc (.cells #[.slice A n c] 27)) (Lies w (W.alloc (.cells #[.slice A n c] 27)) M (.slice (some ⟨W.heap.size, 0, none⟩) 1 1)) [.slice A n c] [p]) := show RowsI _ _ _ _ from
    ⟨⟨A, n, c, rfl, HNC.out, (HP.out.keep (fun b hb => HB1.out.block b (HM.out b hb))).weaken (fun b hb => ⟨.inl hb, Nat.lt_of_lt_of_le (HM.out b hb) HB1.out.size, fun e => by
      have h1 : W.heap.size = b := Option.some.inj e
      have h2 := HM.out b hb
      have h3 := Hsz.out
      omega⟩)⟩, trivial⟩
  generalize W.alloc (.cells #[.slice A n c] 27) = W1 at *
  clear q0 HB0 Hb
  go_loopw [5, 6] (fun v i wr => (Below w.heap.size w wr ∧ wr.heap[w.heap.size]? = some (.cells #[.int .i64 o.kind, .int .u64 (o.bits : Int), .int .u64 (o.high : Int), .int .u64 (o.low : Int), .string ⟨o.text.toArray⟩, .string ⟨o.more.toArray⟩, .int .i64 o.sub, .slice Ab o.bytes.length cb, .slice Ak l.length ck] 26)) ∧ ∃ (k : Nat) (C : Option Addr) (m d : Nat) (xs : List Value) (ls : List (List Int)), k ≤ l.length ∧ i = .int .i64 (k : Int) ∧ v = .slice C m d ∧ wr.ownsRow (w.heap.size + 1) 27 1 (.slice C m d) m xs ∧ RowsI wr (Lies w wr M (.slice C m d)) xs ls ∧ R = ls ++ allK (l.drop k) k p) (fun _ i _ => l.length - natV i)
  case atStart => exact ⟨⟨HB1.out, Hb1.out⟩, 0, _, _, _, _, _, Nat.zero_le _, rfl, rfl, HO1.out, HX1.out, HR.out⟩
  case round =>
    obtain ⟨⟨hB, hb⟩, k, C, m, d, xs, ls, hk, rfl, rfl, ho, hx, hr⟩ := hrel
    clear HB1 Hb1 HO1 HX1 HR
    have HB := Lib.hid hB
    have Hbb := Lib.hid hb
    have j8 : wr.cell? ⟨w.heap.size, 8, none⟩ = some (.slice Ak l.length ck) := by rw [block_cell hb]; rfl
    by_cases hlt : k < l.length
    · have d1 : decide ((k : Int) < (l.length : Int)) = true := decide_eq_true (by omega)
      have d1n : decide (k < l.length) = true := decide_eq_true hlt
      obtain ⟨b, off, rfl, hbl, hK⟩ := HK.out (fun e => by rw [e] at hlt; exact absurd hlt (Nat.not_lt_zero _))
      obtain ⟨c0, c1, c2, c3, c4, c5, c6, c7, c8, hn, hnl, ⟨p0, p1, p2, p3, p4, p5, p6, p7, p8⟩, hT2⟩ := kid_at hK hB hbl k hlt
      rw [allK_step hlt] at hr
      have hkc := cntT_kid hlt
      have hc := HC.out
      have hlen := hr ▸ HRl.out
      rw [List.length_append, List.length_append, allT_length] at hlen
      have hxl : xs.length = m := by have := ho.1; omega
      have hxl2 := hx.len
      have cV := Lib.hid fun (V : World) (hV : Below wr.heap.size wr V) (A' : Option Addr) (c' : Nat) (hI : Ints V (fun b => wr.heap.size ≤ b ∧ b < V.heap.size) A' (n + 1) (p ++ [(k : Int)])) (hcc : n + 1 ≤ c') =>
        HI.out l[k] (List.getElem_mem hlt) _ A' (n + 1) c' (p ++ [(k : Int)]) V _ (fun b hb => hb.2) (by omega) (TreeAt.weaken (fun j hj => Nat.lt_of_lt_of_le hj hV.size) _ _ (TreeAt.keep (fun j hj => hV.block j hj) _ _ hT2)) hI hcc
      have cL := Lib.hid fun (V : World) (hV : Below wr.heap.size wr V) => longer_cap A n c p (k : Int) V (((HP.out.weaken HM.out).on hB).on hV) (by omega)
      obtain ⟨r2, hr2⟩ : ∃ r, r = allT (l[k]).2 (p ++ [(k : Int)]) := ⟨_, rfl⟩
      rw [← hr2] at hr cV
      have hr2l : r2.length = cntT (l[k]).2 := by rw [hr2]; exact allT_length _ _
      have HE := Lib.hid hr
      have HO := Lib.hid ho
      have HX := Lib.hid hx
      have HK1 : Hid (k + 1 ≤ l.length) := hlt
      have u2 : Hid (wrap64 ((k : Int) + 1) = ((k + 1 : Nat) : Int)) := show _ = _ from w63 (by omega) (by have := HL.out; omega)
      have HLT := Lib.hid (Nat.lt_of_lt_of_le hbl hB.size)
      have HBL := Lib.hid hbl
      have HN : Hid (m + r2.length ≤ 1000000) := show _ ≤ _ by omega
      obtain ⟨i0, hi0, hz0, hz1, hz2⟩ := info_parts info_ints
      have HZ := Lib.hid hz0; have HI0 := Lib.hid hi0; have H1 := Lib.hid hz1; have H2 := Lib.hid hz2
      clear hz0 hi0 hz1 hz2
      clear hr hr2 hr2l hlen hxl hxl2 hkc hc hT2 hnl hn hK hbl hk hB hb ho hx
      go_upto_region 5 with fail
      have hlti : (k : Int) < (l.length : Int) := by omega
      have hlt0 : (0 : Int) ≤ (k : Int) := by omega
      go_region_held3 (fun V : World => V.cell? ⟨w.heap.size, 8, none⟩ = some (.slice (some ⟨b, off, none⟩) l.length ck) ∧ V.cell? ⟨b, off + k * 10 + 1, none⟩ = some c0 ∧ V.cell? ⟨b, off + k * 10 + 2, none⟩ = some c1 ∧ V.cell? ⟨b, off + k * 10 + 3, none⟩ = some c2 ∧ V.cell? ⟨b, off + k * 10 + 4, none⟩ = some c3 ∧ V.cell? ⟨b, off + k * 10 + 5, none⟩ = some c4 ∧ V.cell? ⟨b, off + k * 10 + 6, none⟩ = some c5 ∧ V.cell? ⟨b, off + k * 10 + 7, none⟩ = some c6 ∧ V.cell? ⟨b, off + k * 10 + 8, none⟩ = some c7 ∧ V.cell? ⟨b, off + k * 10 + 9, none⟩ = some c8)
        ((refine ⟨?_, ?_, ?_, ?_, ?_, ?_, ?_, ?_, ?_, ?_⟩ <;> (repeat (first | with_reducible refine cell_drew ?_ | with_reducible refine cell_under B3 (by first | exact Nat.lt_succ_self _ | exact Nat.lt_succ_of_lt HBL.out) ?_ | with_reducible refine cell_low B2 ?_ | with_reducible refine cell_low B1 ?_)) <;> (first | with_reducible exact j8 | with_reducible exact p0 | with_reducible exact p1 | with_reducible exact p2 | with_reducible exact p3 | with_reducible exact p4 | with_reducible exact p5 | with_reducible exact p6 | with_reducible exact p7 | with_reducible exact p8)))
        (first | (go_at_call 40; (with_reducible refine (cL.out _ (Below.refl _ _).drew).mono ?_); rintro e w1 ⟨⟨A', c', rfl, I1, C1⟩, B1⟩) | (go_at_call 29; (with_reducible refine (cV.out _ (low17 (Below.refl wr.heap.size wr).drew B1) A' c' (I1.weaken fun b hb => ⟨Nat.le_trans (Below.refl wr.heap.size wr).drew.size hb.1, hb.2⟩) C1).mono ?_); rintro e w2 ⟨⟨A2, n2, c2, ys, rfl, o2, x2⟩, B2⟩) | (refine step_append_held rfl (.tmp 16) (.tmp 26) 37 rfl (w.heap.size + 1) 27 i0 _ 24 Try.underlying37 HI0.out HZ.out H1.out H2.out rfl _ m xs rfl (owns_on HO.out (low17 (low17 (Below.refl wr.heap.size wr).drew B1) B2)) A2 n2 c2 ys rfl (by have := o2.1; omega) (owns_cells o2) x2.one (by have := HN.out; have := x2.len; have := o2.1; simp only [maxLen]; omega) (by have := HN.out; have := x2.len; have := o2.1; omega) (Nat.le_trans (block_lt Hbb.out) (low17 (low17 (Below.refl wr.heap.size wr).drew B1) B2).size) ?_; intro A3 c3 w3 ho3 hg3 hs3; have B3 := (Below.refl (w.heap.size + 1) w2).grown hg3 (Nat.le_trans (block_lt Hbb.out) (low17 (low17 (Below.refl wr.heap.size wr).drew B1) B2).size) (fun k hk => (HO.out.lt k hk).1)))
      have q1 : Below wr.heap.size wr w1 := low17 (Below.refl wr.heap.size wr).drew B1
      have q2 := low17 q1 B2
      have s1 := q1.size
      have s2 := q2.size
      have s3 := hg3.size
      have s0 := HB.out.size
      have HB5 := Lib.hid ((low17 HB.out q2).trans (B3.mono (Nat.le_succ _)))
      have Hb5 := Lib.hid ((B3.block _ (Nat.lt_succ_self _)).trans ((q2.block _ (block_lt Hbb.out)).trans Hbb.out))
      have HX5 : Hid (RowsI w3 (Lies w w3 M (.slice A3 (m + n2) c3)) (xs ++ ys) (ls ++ r2)) := show RowsI _ _ _ _ from by
        have t1 : RowsI w3 (Lies w w3 M (.slice A3 (m + n2) c3)) xs ls := by
          refine HX.out.turn (fun x hx => (hg3.block x (by have := hx.2.1; omega) (fun h => hx.2.2 h.symm)).trans (q2.block x hx.2.1)) (fun x hx => ?_)
          refine ⟨hx.1, by have := hx.2.1; omega, fun e => ?_⟩
          rcases hs3.out with h | h
          · exact hx.2.2 (h.symm.trans e)
          · have h1 : w2.heap.size = x := Option.some.inj (h.symm.trans e)
            have := hx.2.1
            omega
        have up : ∀ x, Lies w1 w2 (fun b => wr.heap.size ≤ b ∧ b < w1.heap.size) (.slice A2 n2 c2) x → wr.heap.size ≤ x := fun x hx => by
          rcases hx.1 with h | h
          · exact h.1
          · exact Nat.le_trans s1 h
        have t2 : RowsI w3 (Lies w w3 M (.slice A3 (m + n2) c3)) ys r2 := by
          refine x2.turn (fun x hx => hg3.block x hx.2.1 (fun h => by have := (HO.out.lt x h.symm).2; have := up x hx; omega)) (fun x hx => ?_)
          refine ⟨.inr (Nat.le_trans s0 (up x hx)), by have := hx.2.1; omega, fun e => ?_⟩
          rcases hs3.out with h | h
          · have := (HO.out.lt x (h.symm.trans e)).2
            have := up x hx
            omega
          · have h1 : w2.heap.size = x := Option.some.inj (h.symm.trans e)
            have := hx.2.1
            omega
        exact RowsI.append t1 t2
      have HE5 : Hid (R = (ls ++ r2) ++ allK (l.drop (k + 1)) (k + 1) p) := show _ = _ by rw [HE.out, List.append_assoc]
      clear q1 q2 s1 s2 s3 s0 B1 B2 B3 I1 C1 x2 o2 hg3 hs3 cV cL p0 p1 p2 p3 p4 p5 p6 p7 p8 j8 Hbb HB HE hlti hlt0 HLT HBL HN HX HO HI0 HZ H1 H2
      go_wp2_with fail
      go_roundw
      case rel => exact ⟨⟨HB5.out, Hb5.out⟩, k + 1, A3, m + n2, c3, xs ++ ys, ls ++ r2, HK1.out, by rw [u2.out], rfl, ho3.out, HX5.out, HE5.out⟩
      case measure => rw [u2.out]; have := HK1.out; simp [natV]; omega
    · obtain rfl : k = l.length := by omega
      have d1 : decide ((l.length : Int) < (l.length : Int)) = false := decide_eq_false (by omega)
      have d1n : decide (l.length < l.length) = false := decide_eq_false (by omega)
      rw [List.drop_length, allK, List.append_nil] at hr
      have HE := Lib.hid hr
      have HO := Lib.hid ho
      have HX := Lib.hid hx
      clear hr ho hx hlt hk hB hb
      go_wp2_with fail
      go_ret
      refine ⟨⟨C, m, d, xs, rfl, ?_, by rw [HE.out]; exact HX.out⟩, HB.out⟩
      refine ⟨HO.out.1, ?_⟩
      rcases HO.out.2 with h2 | ⟨g, cap, cur, e1, hb, r⟩
      · exact .inl h2
      · exact .inr ⟨g, cap, cur, e1, Nat.le_of_succ_le hb, r⟩
theorem refAllV_any (t : Tree) (cs : List Value) (w : World) (hc : cntT t ≤ 1000000) (hT : TreeAt w (· < w.heap.size) t cs) :
    Calls Try.prog 16 #[.agg cs.toArray] w (AnsL w (fun _ => False) (allT t [])) := by
  obtain ⟨o, l⟩ := t
  obtain ⟨Ab, cb, Ak, ck, rfl, _, _, _, _⟩ := hT.open_
  have B0 : Below w.heap.size w (w.alloc (.cells (cellsV o Ab cb Ak l.length ck).toArray 26)) := (Below.refl _ _).alloc (Nat.le_refl _) _
  have hb : (w.alloc (.cells (cellsV o Ab cb Ak l.length ck).toArray 26)).heap[w.heap.size]? = some (.cells (cellsV o Ab cb Ak l.length ck).toArray 26) := heap_alloc_new w _
  have cC := Lib.hid (refall_any (.node o l) (cellsV o Ab cb Ak l.length ck) none 0 0 [] _ (fun _ => False) (fun _ h => h.elim) hc (TreeAt.weaken (fun j hj => Nat.lt_of_lt_of_le hj B0.size) _ _ (hT.on B0)) ⟨rfl, fun h => absurd h (Nat.lt_irrefl _)⟩ (Nat.le_refl _))
  obtain ⟨P, hr⟩ : ∃ r, r = allT (.node o l) [] := ⟨_, rfl⟩
  rw [← hr] at cC ⊢
  clear hr hT hc
  unfold cellsV at *
  go_enter Try.func16, Try.ntmps16
  go_upto_region 1 with fail
  have HB0 := Lib.hid B0
  generalize w.alloc (.cells #[.int .i64 o.kind, .int .u64 (o.bits : Int), .int .u64 (o.high : Int), .int .u64 (o.low : Int), .string ⟨o.text.toArray⟩, .string ⟨o.more.toArray⟩, .int .i64 o.sub, .slice Ab o.bytes.length cb, .slice Ak l.length ck] 26) = W at *
  have j0 : W.cell? ⟨w.heap.size, 0, none⟩ = some (.int .i64 o.kind) := by rw [block_cell hb]; rfl
  have j1 : W.cell? ⟨w.heap.size, 1, none⟩ = some (.int .u64 (o.bits : Int)) := by rw [block_cell hb]; rfl
  have j2 : W.cell? ⟨w.heap.size, 2, none⟩ = some (.int .u64 (o.high : Int)) := by rw [block_cell hb]; rfl
  have j3 : W.cell? ⟨w.heap.size, 3, none⟩ = some (.int .u64 (o.low : Int)) := by rw [block_cell hb]; rfl
  have j4 : W.cell? ⟨w.heap.size, 4, none⟩ = some (.string ⟨o.text.toArray⟩) := by rw [block_cell hb]; rfl
  have j5 : W.cell? ⟨w.heap.size, 5, none⟩ = some (.string ⟨o.more.toArray⟩) := by rw [block_cell hb]; rfl
  have j6 : W.cell? ⟨w.heap.size, 6, none⟩ = some (.int .i64 o.sub) := by rw [block_cell hb]; rfl
  have j7 : W.cell? ⟨w.heap.size, 7, none⟩ = some (.slice Ab o.bytes.length cb) := by rw [block_cell hb]; rfl
  have j8 : W.cell? ⟨w.heap.size, 8, none⟩ = some (.slice Ak l.length ck) := by rw [block_cell hb]; rfl
  clear B0 hb
  go_wp2_with fail
  refine (cC.out).mono ?_
  rintro e w1 ⟨⟨A, n, c, xs, rfl, ho, hx⟩, B1⟩
  have HB1 := Lib.hid (low17 HB0.out B1)
  have HX := Lib.hid hx
  have HO := Lib.hid ho
  have HS := Lib.hid HB0.out.size
  clear B1 hx ho cC HB0 j0 j1 j2 j3 j4 j5 j6 j7 j8
  go_wp2_with fail
  go_ret
  refine ⟨⟨A, n, c, xs, rfl, ?_, HX.out.turn (fun _ _ => rfl) (fun x hx => ⟨hx.1.elim (fun h => h.elim) (fun h => .inr (Nat.le_trans HS.out h)), hx.2⟩)⟩, HB1.out⟩
  refine ⟨HO.out.1, ?_⟩
  rcases HO.out.2 with h2 | ⟨g, cap, cur, e1, hb, r⟩
  · exact .inl h2
  · exact .inr ⟨g, cap, cur, e1, Nat.le_trans HS.out hb, r⟩
end Go.Proofs.Ytmkgcifcfgfegaa
