/-
  The law PathOne (chapter 18) at any tree and any number; no condition.
-/
import Derived.Test.YtmkgcifcfgfegaaAwake18
import Derived.Test.YtmkgcifcfgfegaaDiffV18
import Derived.Test.YtmkgcifcfgfegaaOneMath18
import Derived.Test.YtmkgcifcfgfegaaRefGetC18
import Derived.Laws.Bits64
namespace Go.Proofs.Ytmkgcifcfgfegaa
set_option maxRecDepth 100000
open Go.RowKit

/-- A value's bytes and Kids, as its cells lead to them. -/
def OwnAt (w : World) (o : OwnV) (l : List Kid) (Ab Ak : Option Addr) (nl ck : Nat) : Prop :=
  OwnFits o ∧ (l.length = nl ∧ nl ≤ maxLen ∧ nl ≤ ck) ∧ Held w (· < w.heap.size) Ab o.bytes.length o.bytes ∧ (l ≠ [] → ∃ b off, Ak = some ⟨b, off, none⟩ ∧ b < w.heap.size ∧ KidsAt w (· < w.heap.size) b off l)
theorem OwnAt.up {w w' : World} {o : OwnV} {l : List Kid} {Ab Ak : Option Addr} {nl ck : Nat} (h : OwnAt w o l Ab Ak nl ck) (hb : Below w.heap.size w w') : OwnAt w' o l Ab Ak nl ck :=
  ⟨h.1, h.2.1, held_up h.2.2.1 hb, fun hne => by
    obtain ⟨b, off, e, h1, h2⟩ := h.2.2.2 hne
    exact ⟨b, off, e, Nat.lt_of_lt_of_le h1 hb.size, kids_keep (hb.block b h1) (fun k hk => hb.block k hk) (fun k hk => Nat.lt_of_lt_of_le hk hb.size) h2⟩⟩
theorem TreeC.low {w w' : World} {t : Tree} {cs : List Value} (h : TreeC w (· < w.heap.size) t cs) (hb : Below w.heap.size w w') : TreeC w' (· < w'.heap.size) t cs :=
  TreeC.weaken (fun _ hk => Nat.lt_of_lt_of_le hk hb.size) _ _ (TreeC.keep (fun k hk => hb.block k hk) _ _ h)
/-- What a Get with a value gives, in the value's own cells. -/
theorem got_own {w w' : World} {r : Option Tree} {o : OwnV} {l : List Kid} {e : Ending} (hr : r = some (.node o l)) (h : AnsGC w r e w') : ∃ (Ab : Option Addr) (cb : Nat) (Ak : Option Addr) (nl ck : Nat), e = .returned (.tuple #[.agg #[(.int .i64 o.kind), (.int .u64 (o.bits : Int)), (.int .u64 (o.high : Int)), (.int .u64 (o.low : Int)), (.string ⟨o.text.toArray⟩), (.string ⟨o.more.toArray⟩), (.int .i64 o.sub), (.slice Ab o.bytes.length cb), (.slice Ak nl ck)], .bool true]) ∧ OwnAt w' o l Ab Ak nl ck ∧ Below w.heap.size w w' := by
  subst hr
  obtain ⟨⟨p, Db, d, Dk, m, dk, h1, h3⟩, h2⟩ := h
  have h8 := (h3.at_)
  obtain ⟨Ab, cb, Ak, ck, e1, h4, h5, _⟩ := h3.open_
  obtain ⟨Ab', cb', Ak', ck', e2, _, _, h6, h7⟩ := h8.open_
  have e3 := e1.symm.trans e2
  unfold cellsV at e3
  simp only [List.cons.injEq, Value.slice.injEq, and_true, true_and] at e3
  refine ⟨Ab, cb, Ak, l.length, ck, ?_, ⟨h4, ⟨rfl, h5.1, h5.2⟩, by rw [e3.1.1]; exact h6, fun hne => by
    obtain ⟨b, off, e, h⟩ := h7 hne
    exact ⟨b, off, by rw [e3.2.1]; exact e, h⟩⟩, h2⟩
  unfold cellsV at e1
  rw [h1, e1]
/-- The answer of With, its tree below the heap's end. -/
theorem with_low {w w' : World} {t : Tree} {p1 : OwnV} {E1 : Option Addr} {d1 : Nat} {E2 : Option Addr} {m1 d2 : Nat} (h : TreeAt w' (fun b => b < w.heap.size ∨ (w.heap.size ≤ b ∧ b < w'.heap.size)) t (cellsV p1 E1 d1 E2 m1 d2)) (hB : Below w.heap.size w w') :
    TreeAt w' (· < w'.heap.size) t [(.int .i64 p1.kind), (.int .u64 (p1.bits : Int)), (.int .u64 (p1.high : Int)), (.int .u64 (p1.low : Int)), (.string ⟨p1.text.toArray⟩), (.string ⟨p1.more.toArray⟩), (.int .i64 p1.sub), (.slice E1 p1.bytes.length d1), (.slice E2 m1 d2)] :=
  TreeAt.weaken (fun b hb => by
    have := hB.size
    rcases hb with h | h
    · omega
    · exact h.2) _ _ h
theorem diff_ans1 {p : Program} {f : FuncId} {args : Array Value} {w : World} {d : Option (List (List Int))} {r : List Int} (h : Calls p f args w (AnsD w d)) (hd : d = some [r]) :
    Calls p f args w fun e w' => (∃ A c, e = .returned (.tuple #[.slice A 1 c, .bool true]) ∧ PathsAt w' A 1 [r]) ∧ Below w.heap.size w w' := by
  subst hd
  exact h
theorem diff_ans0 {p : Program} {f : FuncId} {args : Array Value} {w : World} {d : Option (List (List Int))} (h : Calls p f args w (AnsD w d)) (hd : d = none) :
    Calls p f args w fun e w' => (∃ A c, e = .returned (.tuple #[.slice A 0 c, .bool false])) ∧ Below w.heap.size w w' := by
  subst hd
  refine h.mono fun e w' hh => ?_
  obtain ⟨⟨A, c, e, _⟩, hb⟩ := hh
  exact ⟨⟨A, c, e⟩, hb⟩
theorem own_tree {w : World} {o : OwnV} {l : List Kid} {Ab Ak : Option Addr} {cb nl ck : Nat} (o' : OwnV) (hb : o'.bytes = o.bytes) (hf : OwnFits o') (h : OwnAt w o l Ab Ak nl ck) : TreeAt w (· < w.heap.size) (.node o' l) (cellsV o' Ab cb Ak nl ck) := by
  rw [TreeAt]
  obtain ⟨_, ⟨h1, h2, h3⟩, h4, h5⟩ := h
  exact ⟨Ab, cb, Ak, ck, by rw [h1], hf, by rw [h1]; exact h2, by rw [hb]; exact h4, h5⟩
theorem kids_named {w w' : World} {M M' : Nat → Prop} {b off g : Nat} {l : List Kid} {n n' : List UInt8} {t : Tree} (hK : KidsAt w M b off ((n, t) :: l)) (h0 : w'.cell? ⟨g, 0, none⟩ = some (.string ⟨n'.toArray⟩)) (hn : n'.length ≤ maxLen) (hc : ∀ j, 0 < j → j < ((n, t) :: l).length * 10 → w'.cell? ⟨g, j, none⟩ = w.cell? ⟨b, off + j, none⟩)
    (hk : ∀ k, M k → w'.heap[k]? = w.heap[k]?) (hm : ∀ k, M k → M' k) : KidsAt w' M' g 0 ((n', t) :: l) := by
  refine kids_iff fun m hm2 => ?_
  obtain ⟨h1, h2, cs, h3, h4, h5⟩ := kids_get hK m hm2
  have hm3 : m < ((n, t) :: l).length := hm2
  have hv : ∀ j, j < 9 → w'.cell? ⟨g, 0 + m * 10 + 1 + j, none⟩ = cs[j]? := fun j hj => by
    rw [show 0 + m * 10 + 1 + j = m * 10 + 1 + j by omega, hc (m * 10 + 1 + j) (by omega) (by omega), ← h4 j hj, show off + (m * 10 + 1 + j) = off + m * 10 + 1 + j by omega]
  cases m with
  | zero => exact ⟨by simpa using h0, hn, cs, h3, hv, TreeAt.weaken hm _ _ (h5.keep hk _ _)⟩
  | succ m =>
    refine ⟨?_, h2, cs, h3, hv, TreeAt.weaken hm _ _ (h5.keep hk _ _)⟩
    rw [show 0 + (m + 1) * 10 = (m + 1) * 10 by omega, hc ((m + 1) * 10) (by omega) (by omega)]
    exact h1
theorem cat43 (u : List UInt8) : (⟨u.toArray⟩ : ByteArray) ++ ⟨#[43]⟩ = ⟨(u ++ [43]).toArray⟩ := by
  apply ByteArray.ext
  rw [ByteArray.data_append]
  simp
theorem cell_put {w : World} {g i : Nat} {u v : Value} (h : w.cell? ⟨g, i, none⟩ = some u) : (w.setCell ⟨g, i, none⟩ v).drew.cell? ⟨g, i, none⟩ = some v :=
  World.cell?_setCell_same _ _ _ h
theorem cell_put_other {w : World} {g i j : Nat} (h : ¬ i = j) (v : Value) : (w.setCell ⟨g, i, none⟩ v).drew.cell? ⟨g, j, none⟩ = w.cell? ⟨g, j, none⟩ :=
  World.cell?_setCell_other _ _ _ v (fun e => h (by injection e))
theorem paths_one {w : World} {A : Option Addr} {n c : Nat} {r : List Int} (hI : Ints w (· < w.heap.size) A n r) (hc : n ≤ c) : PathsAt (w.alloc (.cells #[.slice A n c] 27)) (some ⟨w.heap.size, 0, none⟩) 1 [r] := by
  have B := (Below.refl w.heap.size w).alloc (Nat.le_refl _) (.cells #[.slice A n c] 27)
  refine ⟨rfl, [.slice A n c], fun _ => ⟨_, 0, rfl, by simp, fun j u hj => ?_⟩, ⟨A, n, c, rfl, hc, hI.on B⟩, trivial⟩
  rw [Nat.zero_add, block_cell (heap_alloc_new w _)]
  simpa using hj
set_option maxHeartbeats 16000000 in
theorem one18 (t : Tree) (kk : Int) (cs : List Value) (w : World) (hC : TreeC w (· < w.heap.size) t cs) :
    Calls Try.prog 6 #[.agg cs.toArray, .int .i64 kk] w fun e w' => e = .returned (.bool true) ∧ Below w.heap.size w w' := by
  have hT := hC.at_
  obtain ⟨c0, c1, c2, c3, c4, c5, c6, c7, c8, rfl⟩ := nine hT.len9
  have HTC := Lib.hid hC
  have B0 : Below w.heap.size w (w.alloc (.cells #[c0, c1, c2, c3, c4, c5, c6, c7, c8] 26)) := (Below.refl _ _).alloc (Nat.le_refl _) _
  have g0 : (w.alloc (.cells #[c0, c1, c2, c3, c4, c5, c6, c7, c8] 26)).heap[w.heap.size]? = some (.cells #[c0, c1, c2, c3, c4, c5, c6, c7, c8] 26) := heap_alloc_new w _
  have cX := Lib.hid fun (V : World) (hV : Below w.heap.size w V) => small_any t _ _ _ _ _ _ _ _ _ V (hT.low hV)
  have HSM : Hid (smallB t = true → cntT t ≤ 600 ∧ shortT t) := fun h => ⟨small_cnt h, small_short h⟩
  have HT := Lib.hid hT
  generalize hx : smallB t = x at *
  have HB0 := Lib.hid B0
  have G0 := Lib.hid g0
  have cA := Lib.hid fun (V : World) => awake_any V
  clear hT hC B0 g0 hx
  go_enter Try.func6, Try.ntmps6
  go_upto_region 1 with fail
  generalize w.alloc (.cells #[c0, c1, c2, c3, c4, c5, c6, c7, c8] 26) = W at *
  go_wp2_with fail
  refine (cA.out _).mono ?_
  rintro e w1 ⟨rfl, B1⟩
  have HB1 := Lib.hid (low17 HB0.out B1)
  have G1 := Lib.hid ((B1.block _ (block_lt G0.out)).trans G0.out)
  clear B1 HB0 G0 cA
  have v0 : w1.cell? ⟨w.heap.size, 0, none⟩ = some c0 := by rw [block_cell G1.out]; rfl
  have v1 : w1.cell? ⟨w.heap.size, 1, none⟩ = some c1 := by rw [block_cell G1.out]; rfl
  have v2 : w1.cell? ⟨w.heap.size, 2, none⟩ = some c2 := by rw [block_cell G1.out]; rfl
  have v3 : w1.cell? ⟨w.heap.size, 3, none⟩ = some c3 := by rw [block_cell G1.out]; rfl
  have v4 : w1.cell? ⟨w.heap.size, 4, none⟩ = some c4 := by rw [block_cell G1.out]; rfl
  have v5 : w1.cell? ⟨w.heap.size, 5, none⟩ = some c5 := by rw [block_cell G1.out]; rfl
  have v6 : w1.cell? ⟨w.heap.size, 6, none⟩ = some c6 := by rw [block_cell G1.out]; rfl
  have v7 : w1.cell? ⟨w.heap.size, 7, none⟩ = some c7 := by rw [block_cell G1.out]; rfl
  have v8 : w1.cell? ⟨w.heap.size, 8, none⟩ = some c8 := by rw [block_cell G1.out]; rfl
  go_wp2_with fail
  refine (cX.out _ HB1.out).mono ?_
  rintro e w2 ⟨rfl, B2⟩
  have HB2 := Lib.hid (low17 HB1.out B2)
  have G2 := Lib.hid ((B2.block _ (block_lt G1.out)).trans G1.out)
  clear B2 HB1 G1 cX v0 v1 v2 v3 v4 v5 v6 v7 v8
  cases x with
  | false =>
    go_wp2_with fail
    go_ret
    exact ⟨rfl, HB2.out⟩
  | true =>
  have hsm := HSM.out (by trivial)
  have HCN := Lib.hid hsm.1
  have HSHT := Lib.hid hsm.2
  have hc0 : cntT t ≤ 1000000 := by omega
  have cK := Lib.hid (refAllV_any t _ w2 hc0 (HT.out.low HB2.out))
  have HC0 := Lib.hid hc0
  have HLEN : Hid ((allT t []).length = cntT t) := allT_length t []
  have HPOS : Hid (1 ≤ cntT t) := cntT_pos t
  have HALL : Hid (∀ r ∈ allT t [], r.length ≤ 1000000 ∧ ∃ q : List Nat, r = q.map (fun i : Nat => (i : Int)) ∧ HasAt t q ∧ getT t r = some (subT t q)) := fun r hr => ⟨by
    have h1 := all_short18 t [] r hr
    simp only [List.length_nil] at h1
    omega, all_subs hr⟩
  obtain ⟨P, hP⟩ : ∃ P, P = allT t [] := ⟨_, rfl⟩
  rw [← hP] at cK HALL HLEN
  clear hsm hc0 HSM hP
  have v0 : w2.cell? ⟨w.heap.size, 0, none⟩ = some c0 := by rw [block_cell G2.out]; rfl
  have v1 : w2.cell? ⟨w.heap.size, 1, none⟩ = some c1 := by rw [block_cell G2.out]; rfl
  have v2 : w2.cell? ⟨w.heap.size, 2, none⟩ = some c2 := by rw [block_cell G2.out]; rfl
  have v3 : w2.cell? ⟨w.heap.size, 3, none⟩ = some c3 := by rw [block_cell G2.out]; rfl
  have v4 : w2.cell? ⟨w.heap.size, 4, none⟩ = some c4 := by rw [block_cell G2.out]; rfl
  have v5 : w2.cell? ⟨w.heap.size, 5, none⟩ = some c5 := by rw [block_cell G2.out]; rfl
  have v6 : w2.cell? ⟨w.heap.size, 6, none⟩ = some c6 := by rw [block_cell G2.out]; rfl
  have v7 : w2.cell? ⟨w.heap.size, 7, none⟩ = some c7 := by rw [block_cell G2.out]; rfl
  have v8 : w2.cell? ⟨w.heap.size, 8, none⟩ = some c8 := by rw [block_cell G2.out]; rfl
  go_wp2_with fail
  refine (cK.out).mono ?_
  rintro e w3 hans
  obtain ⟨L, lc, rfl, hL3, B3⟩ := paths_ans hans
  have HB3 := Lib.hid (low17 HB2.out B3)
  have G3 := Lib.hid ((B3.block _ (block_lt G2.out)).trans G2.out)
  have L3 := Lib.hid hL3
  have hlen := HLEN.out
  have hcn := HCN.out
  have hpos := HPOS.out
  have cP := Lib.hid (place_any kk P.length w3 (by omega) (by omega))
  clear hans hL3 B3 HB2 G2 v0 v1 v2 v3 v4 v5 v6 v7 v8 cK hlen hcn hpos HLEN HPOS
  go_wp2_with fail
  refine (cP.out).mono ?_
  rintro e w4 ⟨⟨j, hj, rfl⟩, rfl⟩
  obtain ⟨lb, lo, A2, n2, h2, rfl, hlb, hl1, hn2, hI⟩ := L3.out.get j hj hj
  have hall := HALL.out P[j] (List.getElem_mem hj)
  generalize P[j] = r at *
  obtain ⟨hrl, q, hq, hH, hg⟩ := hall
  obtain ⟨N, hN⟩ : ∃ N, N = P.length := ⟨_, rfl⟩
  rw [← hN] at hj ⊢
  have i0 : (0 : Int) ≤ (j : Int) := by omega
  have i1 : (j : Int) < (N : Int) := by omega
  obtain ⟨u, hu⟩ : ∃ u, u = subT t q := ⟨_, rfl⟩
  obtain ⟨o, l⟩ := u
  rw [← hu] at hg
  have HI3 := Lib.hid hI
  have HRL := Lib.hid hrl
  have HN2 := Lib.hid hn2
  have HQ := Lib.hid hq
  have HH := Lib.hid hH
  have HU := Lib.hid hu.symm
  have HN2L := Lib.hid hI.1
  have cG := Lib.hid (refGetC_any r t _ A2 n2 h2 w4 (HTC.out.low HB3.out) hI (by have := hI.1; omega))
  have HG := Lib.hid hg
  have HCU := Lib.hid (get_cnt r t _ hg)
  clear cP L3 HALL hlb hn2 hI hrl hq hH hg hu hN
  have v0 : w4.cell? ⟨w.heap.size, 0, none⟩ = some c0 := by rw [block_cell G3.out]; rfl
  have v1 : w4.cell? ⟨w.heap.size, 1, none⟩ = some c1 := by rw [block_cell G3.out]; rfl
  have v2 : w4.cell? ⟨w.heap.size, 2, none⟩ = some c2 := by rw [block_cell G3.out]; rfl
  have v3 : w4.cell? ⟨w.heap.size, 3, none⟩ = some c3 := by rw [block_cell G3.out]; rfl
  have v4 : w4.cell? ⟨w.heap.size, 4, none⟩ = some c4 := by rw [block_cell G3.out]; rfl
  have v5 : w4.cell? ⟨w.heap.size, 5, none⟩ = some c5 := by rw [block_cell G3.out]; rfl
  have v6 : w4.cell? ⟨w.heap.size, 6, none⟩ = some c6 := by rw [block_cell G3.out]; rfl
  have v7 : w4.cell? ⟨w.heap.size, 7, none⟩ = some c7 := by rw [block_cell G3.out]; rfl
  have v8 : w4.cell? ⟨w.heap.size, 8, none⟩ = some c8 := by rw [block_cell G3.out]; rfl
  go_upto_region 7 with fail
  clear hl1 i0 i1 hj
  go_wp2_with fail
  refine (cG.out).mono ?_
  rintro e w5 hans
  obtain ⟨Ab, cb, Ak, nl, ck, rfl, T5, B5⟩ := got_own HG.out hans
  have B6 : Below w5.heap.size w5 (w5.alloc (.cells #[(.int .i64 o.kind), (.int .u64 (o.bits : Int)), (.int .u64 (o.high : Int)), (.int .u64 (o.low : Int)), (.string ⟨o.text.toArray⟩), (.string ⟨o.more.toArray⟩), (.int .i64 o.sub), (.slice Ab o.bytes.length cb), (.slice Ak nl ck)] 26)) := (Below.refl _ _).alloc (Nat.le_refl _) _
  have B56 := low17 B5 B6
  have HB6 := Lib.hid (low17 HB3.out B56)
  have G6 := Lib.hid ((B56.block _ (block_lt G3.out)).trans G3.out)
  have X6 := Lib.hid (heap_alloc_new w5 (.cells #[(.int .i64 o.kind), (.int .u64 (o.bits : Int)), (.int .u64 (o.high : Int)), (.int .u64 (o.low : Int)), (.string ⟨o.text.toArray⟩), (.string ⟨o.more.toArray⟩), (.int .i64 o.sub), (.slice Ab o.bytes.length cb), (.slice Ak nl ck)] 26))
  have HI6 := Lib.hid (HI3.out.on B56)
  have T6 := Lib.hid (T5.up B6)
  clear hans T5 B5 B6 B56 HB3 G3 v0 v1 v2 v3 v4 v5 v6 v7 v8 HI3 cG HG
  go_upto_region 8 with fail
  generalize hsz5 : w5.heap.size = bx at *
  generalize w5.alloc (.cells #[(.int .i64 o.kind), (.int .u64 (o.bits : Int)), (.int .u64 (o.high : Int)), (.int .u64 (o.low : Int)), (.string ⟨o.text.toArray⟩), (.string ⟨o.more.toArray⟩), (.int .i64 o.sub), (.slice Ab o.bytes.length cb), (.slice Ak nl ck)] 26) = W6 at *
  clear hsz5
  have x0 : W6.cell? ⟨bx, 0, none⟩ = some (.int .i64 o.kind) := by rw [block_cell X6.out]; rfl
  have x1 : W6.cell? ⟨bx, 1, none⟩ = some (.int .u64 (o.bits : Int)) := by rw [block_cell X6.out]; rfl
  have x2 : W6.cell? ⟨bx, 2, none⟩ = some (.int .u64 (o.high : Int)) := by rw [block_cell X6.out]; rfl
  have x3 : W6.cell? ⟨bx, 3, none⟩ = some (.int .u64 (o.low : Int)) := by rw [block_cell X6.out]; rfl
  have x4 : W6.cell? ⟨bx, 4, none⟩ = some (.string ⟨o.text.toArray⟩) := by rw [block_cell X6.out]; rfl
  have x5 : W6.cell? ⟨bx, 5, none⟩ = some (.string ⟨o.more.toArray⟩) := by rw [block_cell X6.out]; rfl
  have x6 : W6.cell? ⟨bx, 6, none⟩ = some (.int .i64 o.sub) := by rw [block_cell X6.out]; rfl
  have x7 : W6.cell? ⟨bx, 7, none⟩ = some (.slice Ab o.bytes.length cb) := by rw [block_cell X6.out]; rfl
  have x8 : W6.cell? ⟨bx, 8, none⟩ = some (.slice Ak nl ck) := by rw [block_cell X6.out]; rfl
  have hxo : bits BinOp.xor IntKind.u64 (o.bits : Int) 1 = ((o.bits ^^^ 1 : Nat) : Int) := bits_xor_u64_nat o.bits 1 T6.out.1.bits (by decide)
  go_upto_region 10 with fail
  have B7 : Below W6.heap.size W6 (W6.alloc (.cells #[(.int .i64 o.kind), (.int .u64 ((o.bits ^^^ 1 : Nat) : Int)), (.int .u64 (o.high : Int)), (.int .u64 (o.low : Int)), (.string ⟨o.text.toArray⟩), (.string ⟨o.more.toArray⟩), (.int .i64 o.sub), (.slice Ab o.bytes.length cb), (.slice Ak nl ck)] 26)) := (Below.refl _ _).alloc (Nat.le_refl _) _
  have HB7 := Lib.hid (low17 HB6.out B7)
  have G7 := Lib.hid ((B7.block _ (block_lt G6.out)).trans G6.out)
  have X7 := Lib.hid ((B7.block _ (block_lt X6.out)).trans X6.out)
  have Y7 := Lib.hid (heap_alloc_new W6 (.cells #[(.int .i64 o.kind), (.int .u64 ((o.bits ^^^ 1 : Nat) : Int)), (.int .u64 (o.high : Int)), (.int .u64 (o.low : Int)), (.string ⟨o.text.toArray⟩), (.string ⟨o.more.toArray⟩), (.int .i64 o.sub), (.slice Ab o.bytes.length cb), (.slice Ak nl ck)] 26))
  have HI7 := Lib.hid (HI6.out.on B7)
  have T7 := Lib.hid (T6.out.up B7)
  clear B7 HB6 G6 X6 HI6 T6 x0 x1 x2 x3 x4 x5 x6 x7 x8 hxo
  generalize hsz6 : W6.heap.size = by_ at *
  generalize W6.alloc (.cells #[(.int .i64 o.kind), (.int .u64 ((o.bits ^^^ 1 : Nat) : Int)), (.int .u64 (o.high : Int)), (.int .u64 (o.low : Int)), (.string ⟨o.text.toArray⟩), (.string ⟨o.more.toArray⟩), (.int .i64 o.sub), (.slice Ab o.bytes.length cb), (.slice Ak nl ck)] 26) = W7 at *
  clear hsz6
  have cW : Hid (∀ V : World, Below W7.heap.size W7 V → Calls Try.prog 21 #[.agg #[c0, c1, c2, c3, c4, c5, c6, c7, c8], .slice A2 n2 h2, .agg #[(.int .i64 o.kind), (.int .u64 ((o.bits ^^^ 1 : Nat) : Int)), (.int .u64 (o.high : Int)), (.int .u64 (o.low : Int)), (.string ⟨o.text.toArray⟩), (.string ⟨o.more.toArray⟩), (.int .i64 o.sub), (.slice Ab o.bytes.length cb), (.slice Ak nl ck)]] V (AnsW V (· < V.heap.size) (withT t q (.node (turnO o) l)))) := fun V hV => with_any q t _ A2 n2 h2 (.node (turnO o) l) _ V (· < V.heap.size) (fun _ h => h) HC0.out (HT.out.low (low17 HB7.out hV)) (by have := HI7.out.on hV; rw [HQ.out] at this; exact this) HN2.out ((fun V hV => own_tree (o := o) (turnO o) rfl (turn_fits T7.out.1) (T7.out.up hV)) V hV) HH.out
  have cF : Hid (∀ V : World, Below W7.heap.size W7 V → ∀ ds : List Value, TreeAt V (· < V.heap.size) (withT t q (.node (turnO o) l)) ds → Calls Try.prog 18 #[.agg #[c0, c1, c2, c3, c4, c5, c6, c7, c8], .agg ds.toArray] V fun e w' => (∃ A c, e = .returned (.tuple #[.slice A 1 c, .bool true]) ∧ PathsAt w' A 1 [r]) ∧ Below V.heap.size V w') := fun V hV ds hU => diff_ans1 (diffV_any t (withT t q (.node (turnO o) l)) _ ds V HC0.out (HT.out.low (low17 HB7.out hV)) hU) (by rw [HQ.out]; exact one_own HH.out HU.out)
  have v0 : W7.cell? ⟨w.heap.size, 0, none⟩ = some c0 := by rw [block_cell G7.out]; rfl
  have v1 : W7.cell? ⟨w.heap.size, 1, none⟩ = some c1 := by rw [block_cell G7.out]; rfl
  have v2 : W7.cell? ⟨w.heap.size, 2, none⟩ = some c2 := by rw [block_cell G7.out]; rfl
  have v3 : W7.cell? ⟨w.heap.size, 3, none⟩ = some c3 := by rw [block_cell G7.out]; rfl
  have v4 : W7.cell? ⟨w.heap.size, 4, none⟩ = some c4 := by rw [block_cell G7.out]; rfl
  have v5 : W7.cell? ⟨w.heap.size, 5, none⟩ = some c5 := by rw [block_cell G7.out]; rfl
  have v6 : W7.cell? ⟨w.heap.size, 6, none⟩ = some c6 := by rw [block_cell G7.out]; rfl
  have v7 : W7.cell? ⟨w.heap.size, 7, none⟩ = some c7 := by rw [block_cell G7.out]; rfl
  have v8 : W7.cell? ⟨w.heap.size, 8, none⟩ = some c8 := by rw [block_cell G7.out]; rfl
  have y0 : W7.cell? ⟨by_, 0, none⟩ = some (.int .i64 o.kind) := by rw [block_cell Y7.out]; rfl
  have y1 : W7.cell? ⟨by_, 1, none⟩ = some (.int .u64 ((o.bits ^^^ 1 : Nat) : Int)) := by rw [block_cell Y7.out]; rfl
  have y2 : W7.cell? ⟨by_, 2, none⟩ = some (.int .u64 (o.high : Int)) := by rw [block_cell Y7.out]; rfl
  have y3 : W7.cell? ⟨by_, 3, none⟩ = some (.int .u64 (o.low : Int)) := by rw [block_cell Y7.out]; rfl
  have y4 : W7.cell? ⟨by_, 4, none⟩ = some (.string ⟨o.text.toArray⟩) := by rw [block_cell Y7.out]; rfl
  have y5 : W7.cell? ⟨by_, 5, none⟩ = some (.string ⟨o.more.toArray⟩) := by rw [block_cell Y7.out]; rfl
  have y6 : W7.cell? ⟨by_, 6, none⟩ = some (.int .i64 o.sub) := by rw [block_cell Y7.out]; rfl
  have y7 : W7.cell? ⟨by_, 7, none⟩ = some (.slice Ab o.bytes.length cb) := by rw [block_cell Y7.out]; rfl
  have y8 : W7.cell? ⟨by_, 8, none⟩ = some (.slice Ak nl ck) := by rw [block_cell Y7.out]; rfl
  go_region_held3 (fun V : World => V.cell? ⟨w.heap.size, 0, none⟩ = some c0 ∧ V.cell? ⟨w.heap.size, 1, none⟩ = some c1 ∧ V.cell? ⟨w.heap.size, 2, none⟩ = some c2 ∧ V.cell? ⟨w.heap.size, 3, none⟩ = some c3 ∧ V.cell? ⟨w.heap.size, 4, none⟩ = some c4 ∧ V.cell? ⟨w.heap.size, 5, none⟩ = some c5 ∧ V.cell? ⟨w.heap.size, 6, none⟩ = some c6 ∧ V.cell? ⟨w.heap.size, 7, none⟩ = some c7 ∧ V.cell? ⟨w.heap.size, 8, none⟩ = some c8 ∧ V.cell? ⟨by_, 0, none⟩ = some (.int .i64 o.kind) ∧ V.cell? ⟨by_, 1, none⟩ = some (.int .u64 ((o.bits ^^^ 1 : Nat) : Int)) ∧ V.cell? ⟨by_, 2, none⟩ = some (.int .u64 (o.high : Int)) ∧ V.cell? ⟨by_, 3, none⟩ = some (.int .u64 (o.low : Int)) ∧ V.cell? ⟨by_, 4, none⟩ = some (.string ⟨o.text.toArray⟩) ∧ V.cell? ⟨by_, 5, none⟩ = some (.string ⟨o.more.toArray⟩) ∧ V.cell? ⟨by_, 6, none⟩ = some (.int .i64 o.sub) ∧ V.cell? ⟨by_, 7, none⟩ = some (.slice Ab o.bytes.length cb) ∧ V.cell? ⟨by_, 8, none⟩ = some (.slice Ak nl ck))
    ((refine ⟨?_, ?_, ?_, ?_, ?_, ?_, ?_, ?_, ?_, ?_, ?_, ?_, ?_, ?_, ?_, ?_, ?_, ?_⟩ <;> (repeat (first | with_reducible refine cell_drew ?_ | with_reducible refine cell_low BB ?_ | with_reducible refine cell_low BA ?_)) <;> (first | with_reducible exact v0 | with_reducible exact v1 | with_reducible exact v2 | with_reducible exact v3 | with_reducible exact v4 | with_reducible exact v5 | with_reducible exact v6 | with_reducible exact v7 | with_reducible exact v8 | with_reducible exact y0 | with_reducible exact y1 | with_reducible exact y2 | with_reducible exact y3 | with_reducible exact y4 | with_reducible exact y5 | with_reducible exact y6 | with_reducible exact y7 | with_reducible exact y8)))
    (first | (go_at_call 21; (with_reducible refine (cW.out _ (Below.refl _ _).drew).mono ?_); rintro e wA ⟨⟨p1, E1, d1, E2, m1, d2, rfl, TA⟩, BA⟩; have TB := with_low TA BA) | (go_at_call 18; (with_reducible refine (cF.out _ (low17 (Below.refl W7.heap.size W7).drew BA) _ TB).mono ?_); rintro e wB ⟨⟨A9, c9, rfl, p9⟩, BB⟩))
  have BQ := low17 (low17 (Below.refl W7.heap.size W7).drew BA) BB
  clear BA BB TA TB cW cF v0 v1 v2 v3 v4 v5 v6 v7 v8 y0 y1 y2 y3 y4 y5 y6 y7 y8
  have HB9 := Lib.hid (low17 HB7.out BQ)
  have G9 := Lib.hid ((BQ.block _ (block_lt G7.out)).trans G7.out)
  have X9 := Lib.hid ((BQ.block _ (block_lt X7.out)).trans X7.out)
  have HI9 := Lib.hid (HI7.out.on BQ)
  have T9 := Lib.hid (T7.out.up BQ)
  have P9 := Lib.hid p9
  clear BQ HB7 G7 X7 Y7 HI7 T7 p9
  have BA : Below wB.heap.size wB (wB.alloc (.cells #[.slice A2 n2 h2] 27)) := (Below.refl _ _).alloc (Nat.le_refl _) _
  have cS := Lib.hid (samePaths_any A9 1 c9 [r] (some ⟨wB.heap.size, 0, none⟩) 1 1 [r] _ (P9.out.up BA) (paths_one HI9.out HN2.out) (by decide) (fun z hz => by rw [List.mem_singleton.1 hz]; exact HRL.out) (fun z hz => by rw [List.mem_singleton.1 hz]; exact HRL.out))
  rw [show decide ([r] = [r]) = true from decide_eq_true rfl] at cS
  have HBA := Lib.hid BA
  clear BA P9
  go_wp2_with fail
  refine (cS.out).mono ?_
  rintro e w11 ⟨rfl, B11⟩
  have BQ := low17 HBA.out B11
  have HB11 := Lib.hid (low17 HB9.out BQ)
  have G11 := Lib.hid ((BQ.block _ (block_lt G9.out)).trans G9.out)
  have X11 := Lib.hid ((BQ.block _ (block_lt X9.out)).trans X9.out)
  have HI11 := Lib.hid (HI9.out.on BQ)
  have T11 := Lib.hid (T9.out.up BQ)
  clear BQ B11 cS HBA HB9 G9 X9 HI9 T9
  have x0 : w11.cell? ⟨bx, 0, none⟩ = some (.int .i64 o.kind) := by rw [block_cell X11.out]; rfl
  have x1 : w11.cell? ⟨bx, 1, none⟩ = some (.int .u64 (o.bits : Int)) := by rw [block_cell X11.out]; rfl
  have x2 : w11.cell? ⟨bx, 2, none⟩ = some (.int .u64 (o.high : Int)) := by rw [block_cell X11.out]; rfl
  have x3 : w11.cell? ⟨bx, 3, none⟩ = some (.int .u64 (o.low : Int)) := by rw [block_cell X11.out]; rfl
  have x4 : w11.cell? ⟨bx, 4, none⟩ = some (.string ⟨o.text.toArray⟩) := by rw [block_cell X11.out]; rfl
  have x5 : w11.cell? ⟨bx, 5, none⟩ = some (.string ⟨o.more.toArray⟩) := by rw [block_cell X11.out]; rfl
  have x6 : w11.cell? ⟨bx, 6, none⟩ = some (.int .i64 o.sub) := by rw [block_cell X11.out]; rfl
  have x7 : w11.cell? ⟨bx, 7, none⟩ = some (.slice Ab o.bytes.length cb) := by rw [block_cell X11.out]; rfl
  have x8 : w11.cell? ⟨bx, 8, none⟩ = some (.slice Ak nl ck) := by rw [block_cell X11.out]; rfl
  by_cases hnl : nl = 0
  · have e1 : ((nl : Int) == 0) = true := by rw [hnl]; rfl
    have e1n : (nl == 0) = true := by rw [hnl]; rfl
    go_wp2_with fail
    go_ret
    exact ⟨rfl, HB11.out⟩
  have e1 : ((nl : Int) == 0) = false := beq_eq_false_iff_ne.2 (by omega)
  have e1n : (nl == 0) = false := beq_eq_false_iff_ne.2 hnl
  have HNL : Hid (0 < nl) := show _ < _ by omega
  go_upto_region 15 with fail
  clear e1 e1n
  go_upto_region 16 with fail
  have hnlb : nl ≤ 600 := by
    have h1 := HCU.out
    have h2 := HCN.out
    have h3 := len_le_cnt l
    have h4 := T11.out.2.1.1
    rw [cntT] at h1
    omega
  obtain ⟨nm, ch, rest, hlr⟩ : ∃ (nm : List UInt8) (ch : Tree) (rest : List Kid), l = (nm, ch) :: rest := by
    cases l with
    | nil => exact absurd T11.out.2.1.1 (fun e => hnl e.symm)
    | cons y rest => exact ⟨y.1, y.2, rest, rfl⟩
  obtain ⟨kb, ko, rfl, hkb, hK⟩ := T11.out.2.2.2 (by rw [hlr]; simp)
  obtain ⟨xs, xl, xc, xo⟩ := kids_flat hK
  rw [T11.out.2.1.1] at xl
  have hnmL : nm.length ≤ 1000000 := by
    have h1 := short_sub q t HH.out HSHT.out
    rw [HU.out, shortT, hlr, shortK] at h1
    exact h1.1
  have hx0 : xs[0]? = some (.string ⟨nm.toArray⟩) := by
    have h1 := xc 0 _ (List.getElem?_eq_getElem (by omega))
    have h2 := hK
    rw [hlr, kids_cons] at h2
    have h3 := h2.1.1
    rw [Nat.add_zero] at h1
    rw [List.getElem?_eq_getElem (show 0 < xs.length by omega), ← h1, h3]
  have B12 : Below w11.heap.size w11 (w11.alloc (.cells #[(.int .i64 o.kind), (.int .u64 (o.bits : Int)), (.int .u64 (o.high : Int)), (.int .u64 (o.low : Int)), (.string ⟨o.text.toArray⟩), (.string ⟨o.more.toArray⟩), (.int .i64 o.sub), (.slice Ab o.bytes.length cb), (.slice (some ⟨kb, ko, none⟩) nl ck)] 26)) := (Below.refl _ _).alloc (Nat.le_refl _) _
  have HB12 := Lib.hid B12
  have Z12 := Lib.hid (heap_alloc_new w11 (.cells #[(.int .i64 o.kind), (.int .u64 (o.bits : Int)), (.int .u64 (o.high : Int)), (.int .u64 (o.low : Int)), (.string ⟨o.text.toArray⟩), (.string ⟨o.more.toArray⟩), (.int .i64 o.sub), (.slice Ab o.bytes.length cb), (.slice (some ⟨kb, ko, none⟩) nl ck)] 26))
  have S12 : Hid ((w11.alloc (.cells #[(.int .i64 o.kind), (.int .u64 (o.bits : Int)), (.int .u64 (o.high : Int)), (.int .u64 (o.low : Int)), (.string ⟨o.text.toArray⟩), (.string ⟨o.more.toArray⟩), (.int .i64 o.sub), (.slice Ab o.bytes.length cb), (.slice (some ⟨kb, ko, none⟩) nl ck)] 26)).heap.size = w11.heap.size + 1) := show _ = _ by simp
  have X12 := Lib.hid ((B12.block _ (block_lt X11.out)).trans X11.out)
  have HNLB := Lib.hid hnlb
  have HLR := Lib.hid hlr
  have HKB := Lib.hid hkb
  have HKK := Lib.hid hK
  have HXL := Lib.hid xl
  have HXC := Lib.hid xc
  have HXO := Lib.hid xo
  have HX0 := Lib.hid hx0
  have HNM := Lib.hid hnmL
  clear B12 hnlb hlr hkb hK xl xc xo hx0 hnmL x0 x1 x2 x3 x4 x5 x6 x7 x8 hnl
  generalize w11.alloc (.cells #[(.int .i64 o.kind), (.int .u64 (o.bits : Int)), (.int .u64 (o.high : Int)), (.int .u64 (o.low : Int)), (.string ⟨o.text.toArray⟩), (.string ⟨o.more.toArray⟩), (.int .i64 o.sub), (.slice Ab o.bytes.length cb), (.slice (some ⟨kb, ko, none⟩) nl ck)] 26) = w12 at *
  obtain ⟨i0, z0, hi0, hz0, hz1, hz2, hz3⟩ := field_parts
  have HZ0 := Lib.hid hz0; have HI0 := Lib.hid hi0; have HZ1 := Lib.hid hz1; have HZ2 := Lib.hid hz2; have HZ3 := Lib.hid hz3
  clear hi0 hz0 hz1 hz2 hz3
  have HO1 : Hid ((w12.alloc (.cells #[] 46)).ownsRow w12.heap.size 46 10 (.slice (some ⟨w12.heap.size, 0, none⟩) 0 0) 0 []) := World.ownsRow_lit w12 #[] 0 (Nat.le_refl _) (Nat.zero_le _) rfl
  have HN1 : Hid (0 < nl → ∃ ad, some (⟨kb, ko, none⟩ : Addr) = some ad ∧ ∀ j u, xs[j]? = some u → (w12.alloc (.cells #[] 46)).cell? (ad.add j) = some u) := fun _ => ⟨_, rfl, fun j u hj => by
    rw [Addr.add_lit]
    exact (Below.cell (HB12.out.alloc HB12.out.size (.cells #[] 46)) (p := ⟨kb, ko + j, none⟩) HKB.out).trans (HXC.out j u hj)⟩
  have M2 : 0 + nl ≤ maxLen := by have := HNLB.out; simp only [maxLen]; omega
  have M3 : (0 + nl) * 136 ≤ 140737488355328 := by have := HNLB.out; omega
  have M4 : w12.heap.size ≤ (w12.alloc (.cells #[] 46)).heap.size := by simp
  have x8 : (w12.alloc (.cells #[] 46)).cell? ⟨bx, 8, none⟩ = some (.slice (some ⟨kb, ko, none⟩) nl ck) := by
    rw [block_cell ((Below.heap_alloc w12 _ _ (block_lt X12.out)).trans X12.out)]; rfl
  go_wp2_with (first | (at_builtin; refine wpList_append_rows _ rfl (.tmp 66) (.tmp 68) 24 rfl w12.heap.size 46 i0 z0 10 136 Try.underlying24 HI0.out HZ0.out HZ1.out HZ2.out HZ3.out (by decide) _ 0 [] rfl HO1.out (some ⟨kb, ko, none⟩) nl ck xs rfl HXL.out HN1.out HXO.out M2 M3 M4 ?_))
  intro A4 cg w16 ho4 hg4 _
  have B16 := ((Below.refl w12.heap.size w12).alloc (Nat.le_refl _) (.cells #[] 46)).grown hg4 M4 (fun k hk => (HO1.out.lt k hk).1)
  have ho4 : w16.ownsRow w12.heap.size 46 10 (.slice A4 nl cg) nl xs := by
    have := ho4.out
    simpa using this
  obtain ⟨g, rfl, hbg, hlg, _, _, _, hcg⟩ := own_rows ho4 HNL.out
  have hfz : ∀ j, w16.frozen? ⟨g, j, none⟩ = false := fun j => World.ownsRow.frozenAt ho4 j
  have hs12 := S12.out
  have Z16 := (B16.block _ (by omega)).trans Z12.out
  have k8 : w16.cell? ⟨w11.heap.size, 8, none⟩ = some (.slice (some ⟨kb, ko, none⟩) nl ck) := by rw [block_cell Z16]; rfl
  have f8 : w16.frozen? ⟨w11.heap.size, 8, none⟩ = false := block_frozen Z16 8
  have ng : ¬ w11.heap.size = g := by omega
  have BQ17 : Hid (Below w11.heap.size w11 (w16.setCell ⟨w11.heap.size, 8, none⟩ (.slice (some ⟨g, 0, none⟩) nl cg))) := show Below _ _ _ from (HB12.out.trans (B16.mono HB12.out.size)).setCell (p := ⟨w11.heap.size, 8, none⟩) (Nat.le_refl _) _
  have Z17 : Hid ((w16.setCell ⟨w11.heap.size, 8, none⟩ (.slice (some ⟨g, 0, none⟩) nl cg)).heap[w11.heap.size]? = some (.cells #[(.int .i64 o.kind), (.int .u64 (o.bits : Int)), (.int .u64 (o.high : Int)), (.int .u64 (o.low : Int)), (.string ⟨o.text.toArray⟩), (.string ⟨o.more.toArray⟩), (.int .i64 o.sub), (.slice Ab o.bytes.length cb), (.slice (some ⟨g, 0, none⟩) nl cg)] 26)) := block_set Z16 8 _
  have HCG : Hid (∀ j u, xs[j]? = some u → (w16.setCell ⟨w11.heap.size, 8, none⟩ (.slice (some ⟨g, 0, none⟩) nl cg)).cell? ⟨g, j, none⟩ = some u) := fun j u hj => by
    rw [World.cell?_of_block (block_keep ng 8 _)]
    exact hcg j u hj
  have HFG : Hid (∀ j, (w16.setCell ⟨w11.heap.size, 8, none⟩ (.slice (some ⟨g, 0, none⟩) nl cg)).frozen? ⟨g, j, none⟩ = false) := fun j => by
    rw [frozen_of_block (block_keep ng 8 _)]
    exact hfz j
  have HLG : Hid (g < (w16.setCell ⟨w11.heap.size, 8, none⟩ (.slice (some ⟨g, 0, none⟩) nl cg)).heap.size) := show _ < _ by simpa [World.setCell] using hlg
  have HBG : Hid (w11.heap.size < g) := show _ < _ by omega
  clear ho4 hg4 B16 hbg hlg hcg hfz Z16 hs12 ng HO1 HN1 M2 M3 M4 x8 Z12 S12 X12 HB12
  go_upto_region 17 with fail
  clear k8 f8
  generalize w16.setCell ⟨w11.heap.size, 8, none⟩ (.slice (some ⟨g, 0, none⟩) nl cg) = W17 at *
  have z8 : W17.cell? ⟨w11.heap.size, 8, none⟩ = some (.slice (some ⟨g, 0, none⟩) nl cg) := by rw [block_cell Z17.out]; rfl
  have n0 : W17.cell? ⟨g, 0, none⟩ = some (.string ⟨nm.toArray⟩) := HCG.out 0 _ HX0.out
  have f0 : W17.frozen? ⟨g, 0, none⟩ = false := HFG.out 0
  have hpos := HNL.out
  have hnmL := HNM.out
  have s0 : (0 : Int) < (nl : Int) := by omega
  have a1 : ¬ 9223372036854775807 < nm.length + 1 := by omega
  have a2 : ¬ 9223372036854775807 < nm.length + ([43] : List UInt8).length := by simp; omega
  clear hnmL
  go_still_tail 10, (by kernel_rfl)
  change wpList _ _ _ _ _ W17.drew
  go_upto_region 18 with fail
  have hbg := HBG.out
  have BQ18 : Hid (Below w11.heap.size w11 ((W17.setCell ⟨g, 0, none⟩ (.string (⟨nm.toArray⟩ ++ ⟨#[43]⟩))).drew)) := show Below _ _ _ from (BQ17.out.setCell (p := ⟨g, 0, none⟩) (Nat.le_of_lt hbg) _).drew
  have k18 : ∀ b, ¬ g = b → ((W17.setCell ⟨g, 0, none⟩ (.string (⟨nm.toArray⟩ ++ ⟨#[43]⟩))).drew).heap[b]? = W17.heap[b]? := fun b hb => block_keep hb 0 _
  have Y18 : Hid (((W17.setCell ⟨g, 0, none⟩ (.string (⟨nm.toArray⟩ ++ ⟨#[43]⟩))).drew).heap[w11.heap.size]? = some (.cells #[(.int .i64 o.kind), (.int .u64 (o.bits : Int)), (.int .u64 (o.high : Int)), (.int .u64 (o.low : Int)), (.string ⟨o.text.toArray⟩), (.string ⟨o.more.toArray⟩), (.int .i64 o.sub), (.slice Ab o.bytes.length cb), (.slice (some ⟨g, 0, none⟩) nl cg)] 26)) := (k18 _ (by omega)).trans Z17.out
  have G18 := Lib.hid ((BQ18.out.block _ (block_lt G11.out)).trans G11.out)
  have X18 := Lib.hid ((BQ18.out.block _ (block_lt X11.out)).trans X11.out)
  have HB18 := Lib.hid (low17 HB11.out BQ18.out)
  have HI18 := Lib.hid (HI11.out.on BQ18.out)
  have T18 := Lib.hid (T11.out.up BQ18.out)
  have HTZ : Hid (TreeAt ((W17.setCell ⟨g, 0, none⟩ (.string (⟨nm.toArray⟩ ++ ⟨#[43]⟩))).drew) (· < ((W17.setCell ⟨g, 0, none⟩ (.string (⟨nm.toArray⟩ ++ ⟨#[43]⟩))).drew).heap.size) (.node o ((nm ++ [43], ch) :: rest)) (cellsV o Ab cb (some ⟨g, 0, none⟩) nl cg)) := show TreeAt _ _ _ _ from by
    have hlen : ((nm, ch) :: rest).length = nl := by rw [← HLR.out]; exact T11.out.2.1.1
    have hlen' : ((nm ++ [43], ch) :: rest).length = nl := hlen
    rw [TreeAt]
    refine ⟨Ab, cb, some ⟨g, 0, none⟩, cg, by rw [hlen'], T11.out.1, by rw [hlen']; exact T11.out.2.1.2.1, T18.out.2.2.1, fun _ => ⟨g, 0, rfl, Nat.lt_of_lt_of_le HLG.out (by simp [World.setCell, World.drew]), ?_⟩⟩
    have hK := HKK.out
    rw [HLR.out] at hK
    refine kids_named (n' := nm ++ [43]) hK ?_ (by have := HNM.out; simp [maxLen]; omega) (fun j hj hjl => ?_) (fun k hk => BQ18.out.block k hk) (fun k hk => Nat.lt_of_lt_of_le hk BQ18.out.size)
    · have q1 : ((W17.setCell ⟨g, 0, none⟩ (.string (⟨nm.toArray⟩ ++ ⟨#[43]⟩))).drew).cell? ⟨g, 0, none⟩ = some (.string (⟨nm.toArray⟩ ++ ⟨#[43]⟩)) := cell_put n0
      rw [q1, cat43]
    · have hx : j < xs.length := by have := HXL.out; omega
      have q1 := HCG.out j _ (List.getElem?_eq_getElem hx)
      have q2 := HXC.out j _ (List.getElem?_eq_getElem hx)
      rw [q2, ← q1]
      exact cell_put_other (by omega) _
  have HCK := Lib.hid T11.out.2.1.2.2
  have HNE := Lib.hid T11.out.2.1.1
  have HWX : Hid (w11.heap.size ≤ ((W17.setCell ⟨g, 0, none⟩ (.string (⟨nm.toArray⟩ ++ ⟨#[43]⟩))).drew).heap.size) := BQ18.out.size
  clear k18 BQ17 Z17 HCG HFG z8 n0 f0 a1 a2 s0 hpos hbg BQ18 HB11 G11 X11 HI11 T11 HLG HBG HX0 HXL HXC HXO HNM
  generalize ((W17.setCell ⟨g, 0, none⟩ (.string (⟨nm.toArray⟩ ++ ⟨#[43]⟩))).drew) = W18 at *
  generalize hszz : w11.heap.size = zb at *
  have cW : Hid (∀ V : World, Below W18.heap.size W18 V → Calls Try.prog 21 #[.agg #[c0, c1, c2, c3, c4, c5, c6, c7, c8], .slice A2 n2 h2, .agg #[(.int .i64 o.kind), (.int .u64 (o.bits : Int)), (.int .u64 (o.high : Int)), (.int .u64 (o.low : Int)), (.string ⟨o.text.toArray⟩), (.string ⟨o.more.toArray⟩), (.int .i64 o.sub), (.slice Ab o.bytes.length cb), (.slice (some ⟨g, 0, none⟩) nl cg)]] V (AnsW V (· < V.heap.size) (withT t q (.node o ((nm ++ [43], ch) :: rest))))) := fun V hV => with_any q t _ A2 n2 h2 (.node o ((nm ++ [43], ch) :: rest)) _ V (· < V.heap.size) (fun _ h => h) HC0.out (HT.out.low (low17 HB18.out hV)) (by have := HI18.out.on hV; rw [HQ.out] at this; exact this) HN2.out ((fun V hV => TreeAt.low HTZ.out hV) V hV) HH.out
  have cF : Hid (∀ V : World, Below W18.heap.size W18 V → ∀ ds : List Value, TreeAt V (· < V.heap.size) (withT t q (.node o ((nm ++ [43], ch) :: rest))) ds → Calls Try.prog 18 #[.agg #[c0, c1, c2, c3, c4, c5, c6, c7, c8], .agg ds.toArray] V fun e w' => (∃ A c, e = .returned (.tuple #[.slice A 0 c, .bool false])) ∧ Below V.heap.size V w') := fun V hV ds hU => diff_ans0 (diffV_any t (withT t q (.node o ((nm ++ [43], ch) :: rest))) _ ds V HC0.out (HT.out.low (low17 HB18.out hV)) hU) (one_name HH.out (by rw [HU.out, HLR.out]))
  have v0 : W18.cell? ⟨w.heap.size, 0, none⟩ = some c0 := by rw [block_cell G18.out]; rfl
  have v1 : W18.cell? ⟨w.heap.size, 1, none⟩ = some c1 := by rw [block_cell G18.out]; rfl
  have v2 : W18.cell? ⟨w.heap.size, 2, none⟩ = some c2 := by rw [block_cell G18.out]; rfl
  have v3 : W18.cell? ⟨w.heap.size, 3, none⟩ = some c3 := by rw [block_cell G18.out]; rfl
  have v4 : W18.cell? ⟨w.heap.size, 4, none⟩ = some c4 := by rw [block_cell G18.out]; rfl
  have v5 : W18.cell? ⟨w.heap.size, 5, none⟩ = some c5 := by rw [block_cell G18.out]; rfl
  have v6 : W18.cell? ⟨w.heap.size, 6, none⟩ = some c6 := by rw [block_cell G18.out]; rfl
  have v7 : W18.cell? ⟨w.heap.size, 7, none⟩ = some c7 := by rw [block_cell G18.out]; rfl
  have v8 : W18.cell? ⟨w.heap.size, 8, none⟩ = some c8 := by rw [block_cell G18.out]; rfl
  have y0 : W18.cell? ⟨zb, 0, none⟩ = some (.int .i64 o.kind) := by rw [block_cell Y18.out]; rfl
  have y1 : W18.cell? ⟨zb, 1, none⟩ = some (.int .u64 (o.bits : Int)) := by rw [block_cell Y18.out]; rfl
  have y2 : W18.cell? ⟨zb, 2, none⟩ = some (.int .u64 (o.high : Int)) := by rw [block_cell Y18.out]; rfl
  have y3 : W18.cell? ⟨zb, 3, none⟩ = some (.int .u64 (o.low : Int)) := by rw [block_cell Y18.out]; rfl
  have y4 : W18.cell? ⟨zb, 4, none⟩ = some (.string ⟨o.text.toArray⟩) := by rw [block_cell Y18.out]; rfl
  have y5 : W18.cell? ⟨zb, 5, none⟩ = some (.string ⟨o.more.toArray⟩) := by rw [block_cell Y18.out]; rfl
  have y6 : W18.cell? ⟨zb, 6, none⟩ = some (.int .i64 o.sub) := by rw [block_cell Y18.out]; rfl
  have y7 : W18.cell? ⟨zb, 7, none⟩ = some (.slice Ab o.bytes.length cb) := by rw [block_cell Y18.out]; rfl
  have y8 : W18.cell? ⟨zb, 8, none⟩ = some (.slice (some ⟨g, 0, none⟩) nl cg) := by rw [block_cell Y18.out]; rfl
  go_region_held3 (fun V : World => V.cell? ⟨w.heap.size, 0, none⟩ = some c0 ∧ V.cell? ⟨w.heap.size, 1, none⟩ = some c1 ∧ V.cell? ⟨w.heap.size, 2, none⟩ = some c2 ∧ V.cell? ⟨w.heap.size, 3, none⟩ = some c3 ∧ V.cell? ⟨w.heap.size, 4, none⟩ = some c4 ∧ V.cell? ⟨w.heap.size, 5, none⟩ = some c5 ∧ V.cell? ⟨w.heap.size, 6, none⟩ = some c6 ∧ V.cell? ⟨w.heap.size, 7, none⟩ = some c7 ∧ V.cell? ⟨w.heap.size, 8, none⟩ = some c8 ∧ V.cell? ⟨zb, 0, none⟩ = some (.int .i64 o.kind) ∧ V.cell? ⟨zb, 1, none⟩ = some (.int .u64 (o.bits : Int)) ∧ V.cell? ⟨zb, 2, none⟩ = some (.int .u64 (o.high : Int)) ∧ V.cell? ⟨zb, 3, none⟩ = some (.int .u64 (o.low : Int)) ∧ V.cell? ⟨zb, 4, none⟩ = some (.string ⟨o.text.toArray⟩) ∧ V.cell? ⟨zb, 5, none⟩ = some (.string ⟨o.more.toArray⟩) ∧ V.cell? ⟨zb, 6, none⟩ = some (.int .i64 o.sub) ∧ V.cell? ⟨zb, 7, none⟩ = some (.slice Ab o.bytes.length cb) ∧ V.cell? ⟨zb, 8, none⟩ = some (.slice (some ⟨g, 0, none⟩) nl cg))
    ((refine ⟨?_, ?_, ?_, ?_, ?_, ?_, ?_, ?_, ?_, ?_, ?_, ?_, ?_, ?_, ?_, ?_, ?_, ?_⟩ <;> (repeat (first | with_reducible refine cell_drew ?_ | with_reducible refine cell_low BB ?_ | with_reducible refine cell_low BA ?_)) <;> (first | with_reducible exact v0 | with_reducible exact v1 | with_reducible exact v2 | with_reducible exact v3 | with_reducible exact v4 | with_reducible exact v5 | with_reducible exact v6 | with_reducible exact v7 | with_reducible exact v8 | with_reducible exact y0 | with_reducible exact y1 | with_reducible exact y2 | with_reducible exact y3 | with_reducible exact y4 | with_reducible exact y5 | with_reducible exact y6 | with_reducible exact y7 | with_reducible exact y8)))
    (first | (go_at_call 21; (with_reducible refine (cW.out _ (Below.refl _ _).drew).mono ?_); rintro e wA ⟨⟨p1, E1, d1, E2, m1, d2, rfl, TA⟩, BA⟩; have TB := with_low TA BA) | (go_at_call 18; (with_reducible refine (cF.out _ (low17 (Below.refl W18.heap.size W18).drew BA) _ TB).mono ?_); rintro e w19 ⟨⟨B9, b9, rfl⟩, BB⟩))
  have BQ := low17 (low17 (Below.refl W18.heap.size W18).drew BA) BB
  clear BA BB TA TB cW cF v0 v1 v2 v3 v4 v5 v6 v7 v8 y0 y1 y2 y3 y4 y5 y6 y7 y8
  have HB19 := Lib.hid (low17 HB18.out BQ)
  have G19 := Lib.hid ((BQ.block _ (block_lt G18.out)).trans G18.out)
  have X19 := Lib.hid ((BQ.block _ (block_lt X18.out)).trans X18.out)
  have HI19 := Lib.hid (HI18.out.on BQ)
  have T19 := Lib.hid (T18.out.up BQ)
  clear BQ HB18 G18 X18 HI18 T18 Y18 HTZ
  have hnl0 := HNL.out
  have hck := HCK.out
  have x0 : w19.cell? ⟨bx, 0, none⟩ = some (.int .i64 o.kind) := by rw [block_cell X19.out]; rfl
  have x1 : w19.cell? ⟨bx, 1, none⟩ = some (.int .u64 (o.bits : Int)) := by rw [block_cell X19.out]; rfl
  have x2 : w19.cell? ⟨bx, 2, none⟩ = some (.int .u64 (o.high : Int)) := by rw [block_cell X19.out]; rfl
  have x3 : w19.cell? ⟨bx, 3, none⟩ = some (.int .u64 (o.low : Int)) := by rw [block_cell X19.out]; rfl
  have x4 : w19.cell? ⟨bx, 4, none⟩ = some (.string ⟨o.text.toArray⟩) := by rw [block_cell X19.out]; rfl
  have x5 : w19.cell? ⟨bx, 5, none⟩ = some (.string ⟨o.more.toArray⟩) := by rw [block_cell X19.out]; rfl
  have x6 : w19.cell? ⟨bx, 6, none⟩ = some (.int .i64 o.sub) := by rw [block_cell X19.out]; rfl
  have x7 : w19.cell? ⟨bx, 7, none⟩ = some (.slice Ab o.bytes.length cb) := by rw [block_cell X19.out]; rfl
  have x8 : w19.cell? ⟨bx, 8, none⟩ = some (.slice (some ⟨kb, ko, none⟩) nl ck) := by rw [block_cell X19.out]; rfl
  have r1 : (1 : Int) ≤ (nl : Int) := by omega
  have r2 : 1 ≤ nl := hnl0
  have r3 : (0 : Int) < (nl : Int) := by omega
  clear hnl0 hck
  go_upto_region 20 with fail
  have x9 := cell_past (.cells #[(.int .i64 o.kind), (.int .u64 (o.bits : Int)), (.int .u64 (o.high : Int)), (.int .u64 (o.low : Int)), (.string ⟨o.text.toArray⟩), (.string ⟨o.more.toArray⟩), (.int .i64 o.sub), (.slice Ab o.bytes.length cb), (.slice (some ⟨kb, ko, none⟩) nl ck)] 26) x8
  by_cases hc1 : ck = 1
  · subst hc1
    go_upto_region 21 with fail
    have B20 : Below w19.heap.size w19 (w19.alloc (.cells #[(.int .i64 o.kind), (.int .u64 (o.bits : Int)), (.int .u64 (o.high : Int)), (.int .u64 (o.low : Int)), (.string ⟨o.text.toArray⟩), (.string ⟨o.more.toArray⟩), (.int .i64 o.sub), (.slice Ab o.bytes.length cb), (.slice (some ⟨kb, ko, none⟩) (nl - 1) 0)] 26)) := (Below.refl _ _).alloc (Nat.le_refl _) _
    have HB20 := Lib.hid (low17 HB19.out B20)
    have G20 := Lib.hid ((B20.block _ (block_lt G19.out)).trans G19.out)
    have Y20 := Lib.hid (heap_alloc_new w19 (.cells #[(.int .i64 o.kind), (.int .u64 (o.bits : Int)), (.int .u64 (o.high : Int)), (.int .u64 (o.low : Int)), (.string ⟨o.text.toArray⟩), (.string ⟨o.more.toArray⟩), (.int .i64 o.sub), (.slice Ab o.bytes.length cb), (.slice (some ⟨kb, ko, none⟩) (nl - 1) 0)] 26))
    have HI20 := Lib.hid (HI19.out.on B20)
    have T20 := T19.out.up B20
    have HTW : Hid (TreeAt (w19.alloc (.cells #[(.int .i64 o.kind), (.int .u64 (o.bits : Int)), (.int .u64 (o.high : Int)), (.int .u64 (o.low : Int)), (.string ⟨o.text.toArray⟩), (.string ⟨o.more.toArray⟩), (.int .i64 o.sub), (.slice Ab o.bytes.length cb), (.slice (some ⟨kb, ko, none⟩) (nl - 1) 0)] 26)) (· < (w19.alloc (.cells #[(.int .i64 o.kind), (.int .u64 (o.bits : Int)), (.int .u64 (o.high : Int)), (.int .u64 (o.low : Int)), (.string ⟨o.text.toArray⟩), (.string ⟨o.more.toArray⟩), (.int .i64 o.sub), (.slice Ab o.bytes.length cb), (.slice (some ⟨kb, ko, none⟩) (nl - 1) 0)] 26)).heap.size) (.node o rest) (cellsV o Ab cb (some ⟨kb, ko, none⟩) (nl - 1) 0)) := show TreeAt _ _ _ _ from by
      have hlen : rest.length = nl - 1 := by have h1 := T20.2.1.1; rw [HLR.out, List.length_cons] at h1; omega
      rw [TreeAt]
      refine ⟨Ab, cb, some ⟨kb, ko, none⟩, 0, by rw [hlen], T20.1, by rw [hlen]; exact Nat.le_trans (Nat.sub_le _ _) T20.2.1.2.1, T20.2.2.1, fun hne => ?_⟩
      have hck := HCK.out
      rw [List.length_eq_zero_iff.1 (show rest.length = 0 by omega)] at hne
      exact absurd rfl hne
    clear B20 HB19 G19 X19 HI19 T19 T20 x0 x1 x2 x3 x4 x5 x6 x7 x8 x9 r1 r2 r3
    generalize hsz19 : w19.heap.size = zc at *
    generalize w19.alloc (.cells #[(.int .i64 o.kind), (.int .u64 (o.bits : Int)), (.int .u64 (o.high : Int)), (.int .u64 (o.low : Int)), (.string ⟨o.text.toArray⟩), (.string ⟨o.more.toArray⟩), (.int .i64 o.sub), (.slice Ab o.bytes.length cb), (.slice (some ⟨kb, ko, none⟩) (nl - 1) 0)] 26) = W20 at *
    clear hsz19
    have cW : Hid (∀ V : World, Below W20.heap.size W20 V → Calls Try.prog 21 #[.agg #[c0, c1, c2, c3, c4, c5, c6, c7, c8], .slice A2 n2 h2, .agg #[(.int .i64 o.kind), (.int .u64 (o.bits : Int)), (.int .u64 (o.high : Int)), (.int .u64 (o.low : Int)), (.string ⟨o.text.toArray⟩), (.string ⟨o.more.toArray⟩), (.int .i64 o.sub), (.slice Ab o.bytes.length cb), (.slice (some ⟨kb, ko, none⟩) (nl - 1) 0)]] V (AnsW V (· < V.heap.size) (withT t q (.node o rest)))) := fun V hV => with_any q t _ A2 n2 h2 (.node o rest) _ V (· < V.heap.size) (fun _ h => h) HC0.out (HT.out.low (low17 HB20.out hV)) (by have := HI20.out.on hV; rw [HQ.out] at this; exact this) HN2.out ((fun V hV => TreeAt.low HTW.out hV) V hV) HH.out
    have cF : Hid (∀ V : World, Below W20.heap.size W20 V → ∀ ds : List Value, TreeAt V (· < V.heap.size) (withT t q (.node o rest)) ds → Calls Try.prog 18 #[.agg #[c0, c1, c2, c3, c4, c5, c6, c7, c8], .agg ds.toArray] V fun e w' => (∃ A c, e = .returned (.tuple #[.slice A 0 c, .bool false])) ∧ Below V.heap.size V w') := fun V hV ds hU => diff_ans0 (diffV_any t (withT t q (.node o rest)) _ ds V HC0.out (HT.out.low (low17 HB20.out hV)) hU) (one_less HH.out (by rw [HU.out, HLR.out]))
    have v0 : W20.cell? ⟨w.heap.size, 0, none⟩ = some c0 := by rw [block_cell G20.out]; rfl
    have v1 : W20.cell? ⟨w.heap.size, 1, none⟩ = some c1 := by rw [block_cell G20.out]; rfl
    have v2 : W20.cell? ⟨w.heap.size, 2, none⟩ = some c2 := by rw [block_cell G20.out]; rfl
    have v3 : W20.cell? ⟨w.heap.size, 3, none⟩ = some c3 := by rw [block_cell G20.out]; rfl
    have v4 : W20.cell? ⟨w.heap.size, 4, none⟩ = some c4 := by rw [block_cell G20.out]; rfl
    have v5 : W20.cell? ⟨w.heap.size, 5, none⟩ = some c5 := by rw [block_cell G20.out]; rfl
    have v6 : W20.cell? ⟨w.heap.size, 6, none⟩ = some c6 := by rw [block_cell G20.out]; rfl
    have v7 : W20.cell? ⟨w.heap.size, 7, none⟩ = some c7 := by rw [block_cell G20.out]; rfl
    have v8 : W20.cell? ⟨w.heap.size, 8, none⟩ = some c8 := by rw [block_cell G20.out]; rfl
    have y0 : W20.cell? ⟨zc, 0, none⟩ = some (.int .i64 o.kind) := by rw [block_cell Y20.out]; rfl
    have y1 : W20.cell? ⟨zc, 1, none⟩ = some (.int .u64 (o.bits : Int)) := by rw [block_cell Y20.out]; rfl
    have y2 : W20.cell? ⟨zc, 2, none⟩ = some (.int .u64 (o.high : Int)) := by rw [block_cell Y20.out]; rfl
    have y3 : W20.cell? ⟨zc, 3, none⟩ = some (.int .u64 (o.low : Int)) := by rw [block_cell Y20.out]; rfl
    have y4 : W20.cell? ⟨zc, 4, none⟩ = some (.string ⟨o.text.toArray⟩) := by rw [block_cell Y20.out]; rfl
    have y5 : W20.cell? ⟨zc, 5, none⟩ = some (.string ⟨o.more.toArray⟩) := by rw [block_cell Y20.out]; rfl
    have y6 : W20.cell? ⟨zc, 6, none⟩ = some (.int .i64 o.sub) := by rw [block_cell Y20.out]; rfl
    have y7 : W20.cell? ⟨zc, 7, none⟩ = some (.slice Ab o.bytes.length cb) := by rw [block_cell Y20.out]; rfl
    have y8 : W20.cell? ⟨zc, 8, none⟩ = some (.slice (some ⟨kb, ko, none⟩) (nl - 1) 0) := by rw [block_cell Y20.out]; rfl
    go_region_held3 (fun V : World => V.cell? ⟨w.heap.size, 0, none⟩ = some c0 ∧ V.cell? ⟨w.heap.size, 1, none⟩ = some c1 ∧ V.cell? ⟨w.heap.size, 2, none⟩ = some c2 ∧ V.cell? ⟨w.heap.size, 3, none⟩ = some c3 ∧ V.cell? ⟨w.heap.size, 4, none⟩ = some c4 ∧ V.cell? ⟨w.heap.size, 5, none⟩ = some c5 ∧ V.cell? ⟨w.heap.size, 6, none⟩ = some c6 ∧ V.cell? ⟨w.heap.size, 7, none⟩ = some c7 ∧ V.cell? ⟨w.heap.size, 8, none⟩ = some c8 ∧ V.cell? ⟨zc, 0, none⟩ = some (.int .i64 o.kind) ∧ V.cell? ⟨zc, 1, none⟩ = some (.int .u64 (o.bits : Int)) ∧ V.cell? ⟨zc, 2, none⟩ = some (.int .u64 (o.high : Int)) ∧ V.cell? ⟨zc, 3, none⟩ = some (.int .u64 (o.low : Int)) ∧ V.cell? ⟨zc, 4, none⟩ = some (.string ⟨o.text.toArray⟩) ∧ V.cell? ⟨zc, 5, none⟩ = some (.string ⟨o.more.toArray⟩) ∧ V.cell? ⟨zc, 6, none⟩ = some (.int .i64 o.sub) ∧ V.cell? ⟨zc, 7, none⟩ = some (.slice Ab o.bytes.length cb) ∧ V.cell? ⟨zc, 8, none⟩ = some (.slice (some ⟨kb, ko, none⟩) (nl - 1) 0))
      ((refine ⟨?_, ?_, ?_, ?_, ?_, ?_, ?_, ?_, ?_, ?_, ?_, ?_, ?_, ?_, ?_, ?_, ?_, ?_⟩ <;> (repeat (first | with_reducible refine cell_drew ?_ | with_reducible refine cell_low BB ?_ | with_reducible refine cell_low BA ?_)) <;> (first | with_reducible exact v0 | with_reducible exact v1 | with_reducible exact v2 | with_reducible exact v3 | with_reducible exact v4 | with_reducible exact v5 | with_reducible exact v6 | with_reducible exact v7 | with_reducible exact v8 | with_reducible exact y0 | with_reducible exact y1 | with_reducible exact y2 | with_reducible exact y3 | with_reducible exact y4 | with_reducible exact y5 | with_reducible exact y6 | with_reducible exact y7 | with_reducible exact y8)))
      (first | (go_at_call 21; (with_reducible refine (cW.out _ (Below.refl _ _).drew).mono ?_); rintro e wA ⟨⟨p1, E1, d1, E2, m1, d2, rfl, TA⟩, BA⟩; have TB := with_low TA BA) | (go_at_call 18; (with_reducible refine (cF.out _ (low17 (Below.refl W20.heap.size W20).drew BA) _ TB).mono ?_); rintro e w21 ⟨⟨D9, d9, rfl⟩, BB⟩))
    have BQ := low17 (low17 (Below.refl W20.heap.size W20).drew BA) BB
    clear BA BB TA TB cW cF v0 v1 v2 v3 v4 v5 v6 v7 v8 y0 y1 y2 y3 y4 y5 y6 y7 y8
    have HB21 := Lib.hid (low17 HB20.out BQ)
    clear BQ
    go_wp2_with fail
    go_ret
    exact ⟨rfl, HB21.out⟩
  · skip
    go_upto_region 21 with fail
    have B20 : Below w19.heap.size w19 (w19.alloc (.cells #[(.int .i64 o.kind), (.int .u64 (o.bits : Int)), (.int .u64 (o.high : Int)), (.int .u64 (o.low : Int)), (.string ⟨o.text.toArray⟩), (.string ⟨o.more.toArray⟩), (.int .i64 o.sub), (.slice Ab o.bytes.length cb), (.slice (some ⟨kb, ko + 10, none⟩) (nl - 1) (ck - 1))] 26)) := (Below.refl _ _).alloc (Nat.le_refl _) _
    have HB20 := Lib.hid (low17 HB19.out B20)
    have G20 := Lib.hid ((B20.block _ (block_lt G19.out)).trans G19.out)
    have Y20 := Lib.hid (heap_alloc_new w19 (.cells #[(.int .i64 o.kind), (.int .u64 (o.bits : Int)), (.int .u64 (o.high : Int)), (.int .u64 (o.low : Int)), (.string ⟨o.text.toArray⟩), (.string ⟨o.more.toArray⟩), (.int .i64 o.sub), (.slice Ab o.bytes.length cb), (.slice (some ⟨kb, ko + 10, none⟩) (nl - 1) (ck - 1))] 26))
    have HI20 := Lib.hid (HI19.out.on B20)
    have T20 := T19.out.up B20
    have HTW : Hid (TreeAt (w19.alloc (.cells #[(.int .i64 o.kind), (.int .u64 (o.bits : Int)), (.int .u64 (o.high : Int)), (.int .u64 (o.low : Int)), (.string ⟨o.text.toArray⟩), (.string ⟨o.more.toArray⟩), (.int .i64 o.sub), (.slice Ab o.bytes.length cb), (.slice (some ⟨kb, ko + 10, none⟩) (nl - 1) (ck - 1))] 26)) (· < (w19.alloc (.cells #[(.int .i64 o.kind), (.int .u64 (o.bits : Int)), (.int .u64 (o.high : Int)), (.int .u64 (o.low : Int)), (.string ⟨o.text.toArray⟩), (.string ⟨o.more.toArray⟩), (.int .i64 o.sub), (.slice Ab o.bytes.length cb), (.slice (some ⟨kb, ko + 10, none⟩) (nl - 1) (ck - 1))] 26)).heap.size) (.node o rest) (cellsV o Ab cb (some ⟨kb, ko + 10, none⟩) (nl - 1) (ck - 1))) := show TreeAt _ _ _ _ from by
      have hlen : rest.length = nl - 1 := by have h1 := T20.2.1.1; rw [HLR.out, List.length_cons] at h1; omega
      rw [TreeAt]
      refine ⟨Ab, cb, some ⟨kb, ko + 10, none⟩, (ck - 1), by rw [hlen], T20.1, by rw [hlen]; exact Nat.le_trans (Nat.sub_le _ _) T20.2.1.2.1, T20.2.2.1, fun hne => ?_⟩
      obtain ⟨b, off, e, h1, h2⟩ := T20.2.2.2 (by rw [HLR.out]; simp)
      injection e with e
      injection e with e1 e2
      subst e1
      subst e2
      rw [HLR.out, kids_cons] at h2
      exact ⟨kb, ko + 10, rfl, h1, h2.2⟩
    clear B20 HB19 G19 X19 HI19 T19 T20 x0 x1 x2 x3 x4 x5 x6 x7 x8 x9 r1 r2 r3
    generalize hsz19 : w19.heap.size = zc at *
    generalize w19.alloc (.cells #[(.int .i64 o.kind), (.int .u64 (o.bits : Int)), (.int .u64 (o.high : Int)), (.int .u64 (o.low : Int)), (.string ⟨o.text.toArray⟩), (.string ⟨o.more.toArray⟩), (.int .i64 o.sub), (.slice Ab o.bytes.length cb), (.slice (some ⟨kb, ko + 10, none⟩) (nl - 1) (ck - 1))] 26) = W20 at *
    clear hsz19
    have cW : Hid (∀ V : World, Below W20.heap.size W20 V → Calls Try.prog 21 #[.agg #[c0, c1, c2, c3, c4, c5, c6, c7, c8], .slice A2 n2 h2, .agg #[(.int .i64 o.kind), (.int .u64 (o.bits : Int)), (.int .u64 (o.high : Int)), (.int .u64 (o.low : Int)), (.string ⟨o.text.toArray⟩), (.string ⟨o.more.toArray⟩), (.int .i64 o.sub), (.slice Ab o.bytes.length cb), (.slice (some ⟨kb, ko + 10, none⟩) (nl - 1) (ck - 1))]] V (AnsW V (· < V.heap.size) (withT t q (.node o rest)))) := fun V hV => with_any q t _ A2 n2 h2 (.node o rest) _ V (· < V.heap.size) (fun _ h => h) HC0.out (HT.out.low (low17 HB20.out hV)) (by have := HI20.out.on hV; rw [HQ.out] at this; exact this) HN2.out ((fun V hV => TreeAt.low HTW.out hV) V hV) HH.out
    have cF : Hid (∀ V : World, Below W20.heap.size W20 V → ∀ ds : List Value, TreeAt V (· < V.heap.size) (withT t q (.node o rest)) ds → Calls Try.prog 18 #[.agg #[c0, c1, c2, c3, c4, c5, c6, c7, c8], .agg ds.toArray] V fun e w' => (∃ A c, e = .returned (.tuple #[.slice A 0 c, .bool false])) ∧ Below V.heap.size V w') := fun V hV ds hU => diff_ans0 (diffV_any t (withT t q (.node o rest)) _ ds V HC0.out (HT.out.low (low17 HB20.out hV)) hU) (one_less HH.out (by rw [HU.out, HLR.out]))
    have v0 : W20.cell? ⟨w.heap.size, 0, none⟩ = some c0 := by rw [block_cell G20.out]; rfl
    have v1 : W20.cell? ⟨w.heap.size, 1, none⟩ = some c1 := by rw [block_cell G20.out]; rfl
    have v2 : W20.cell? ⟨w.heap.size, 2, none⟩ = some c2 := by rw [block_cell G20.out]; rfl
    have v3 : W20.cell? ⟨w.heap.size, 3, none⟩ = some c3 := by rw [block_cell G20.out]; rfl
    have v4 : W20.cell? ⟨w.heap.size, 4, none⟩ = some c4 := by rw [block_cell G20.out]; rfl
    have v5 : W20.cell? ⟨w.heap.size, 5, none⟩ = some c5 := by rw [block_cell G20.out]; rfl
    have v6 : W20.cell? ⟨w.heap.size, 6, none⟩ = some c6 := by rw [block_cell G20.out]; rfl
    have v7 : W20.cell? ⟨w.heap.size, 7, none⟩ = some c7 := by rw [block_cell G20.out]; rfl
    have v8 : W20.cell? ⟨w.heap.size, 8, none⟩ = some c8 := by rw [block_cell G20.out]; rfl
    have y0 : W20.cell? ⟨zc, 0, none⟩ = some (.int .i64 o.kind) := by rw [block_cell Y20.out]; rfl
    have y1 : W20.cell? ⟨zc, 1, none⟩ = some (.int .u64 (o.bits : Int)) := by rw [block_cell Y20.out]; rfl
    have y2 : W20.cell? ⟨zc, 2, none⟩ = some (.int .u64 (o.high : Int)) := by rw [block_cell Y20.out]; rfl
    have y3 : W20.cell? ⟨zc, 3, none⟩ = some (.int .u64 (o.low : Int)) := by rw [block_cell Y20.out]; rfl
    have y4 : W20.cell? ⟨zc, 4, none⟩ = some (.string ⟨o.text.toArray⟩) := by rw [block_cell Y20.out]; rfl
    have y5 : W20.cell? ⟨zc, 5, none⟩ = some (.string ⟨o.more.toArray⟩) := by rw [block_cell Y20.out]; rfl
    have y6 : W20.cell? ⟨zc, 6, none⟩ = some (.int .i64 o.sub) := by rw [block_cell Y20.out]; rfl
    have y7 : W20.cell? ⟨zc, 7, none⟩ = some (.slice Ab o.bytes.length cb) := by rw [block_cell Y20.out]; rfl
    have y8 : W20.cell? ⟨zc, 8, none⟩ = some (.slice (some ⟨kb, ko + 10, none⟩) (nl - 1) (ck - 1)) := by rw [block_cell Y20.out]; rfl
    go_region_held3 (fun V : World => V.cell? ⟨w.heap.size, 0, none⟩ = some c0 ∧ V.cell? ⟨w.heap.size, 1, none⟩ = some c1 ∧ V.cell? ⟨w.heap.size, 2, none⟩ = some c2 ∧ V.cell? ⟨w.heap.size, 3, none⟩ = some c3 ∧ V.cell? ⟨w.heap.size, 4, none⟩ = some c4 ∧ V.cell? ⟨w.heap.size, 5, none⟩ = some c5 ∧ V.cell? ⟨w.heap.size, 6, none⟩ = some c6 ∧ V.cell? ⟨w.heap.size, 7, none⟩ = some c7 ∧ V.cell? ⟨w.heap.size, 8, none⟩ = some c8 ∧ V.cell? ⟨zc, 0, none⟩ = some (.int .i64 o.kind) ∧ V.cell? ⟨zc, 1, none⟩ = some (.int .u64 (o.bits : Int)) ∧ V.cell? ⟨zc, 2, none⟩ = some (.int .u64 (o.high : Int)) ∧ V.cell? ⟨zc, 3, none⟩ = some (.int .u64 (o.low : Int)) ∧ V.cell? ⟨zc, 4, none⟩ = some (.string ⟨o.text.toArray⟩) ∧ V.cell? ⟨zc, 5, none⟩ = some (.string ⟨o.more.toArray⟩) ∧ V.cell? ⟨zc, 6, none⟩ = some (.int .i64 o.sub) ∧ V.cell? ⟨zc, 7, none⟩ = some (.slice Ab o.bytes.length cb) ∧ V.cell? ⟨zc, 8, none⟩ = some (.slice (some ⟨kb, ko + 10, none⟩) (nl - 1) (ck - 1)))
      ((refine ⟨?_, ?_, ?_, ?_, ?_, ?_, ?_, ?_, ?_, ?_, ?_, ?_, ?_, ?_, ?_, ?_, ?_, ?_⟩ <;> (repeat (first | with_reducible refine cell_drew ?_ | with_reducible refine cell_low BB ?_ | with_reducible refine cell_low BA ?_)) <;> (first | with_reducible exact v0 | with_reducible exact v1 | with_reducible exact v2 | with_reducible exact v3 | with_reducible exact v4 | with_reducible exact v5 | with_reducible exact v6 | with_reducible exact v7 | with_reducible exact v8 | with_reducible exact y0 | with_reducible exact y1 | with_reducible exact y2 | with_reducible exact y3 | with_reducible exact y4 | with_reducible exact y5 | with_reducible exact y6 | with_reducible exact y7 | with_reducible exact y8)))
      (first | (go_at_call 21; (with_reducible refine (cW.out _ (Below.refl _ _).drew).mono ?_); rintro e wA ⟨⟨p1, E1, d1, E2, m1, d2, rfl, TA⟩, BA⟩; have TB := with_low TA BA) | (go_at_call 18; (with_reducible refine (cF.out _ (low17 (Below.refl W20.heap.size W20).drew BA) _ TB).mono ?_); rintro e w21 ⟨⟨D9, d9, rfl⟩, BB⟩))
    have BQ := low17 (low17 (Below.refl W20.heap.size W20).drew BA) BB
    clear BA BB TA TB cW cF v0 v1 v2 v3 v4 v5 v6 v7 v8 y0 y1 y2 y3 y4 y5 y6 y7 y8
    have HB21 := Lib.hid (low17 HB20.out BQ)
    clear BQ
    go_wp2_with fail
    go_ret
    exact ⟨rfl, HB21.out⟩
end Go.Proofs.Ytmkgcifcfgfegaa
