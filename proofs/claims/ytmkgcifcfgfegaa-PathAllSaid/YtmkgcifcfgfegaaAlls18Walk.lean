/-
  The law PathAll (chapter 18) at any tree; no condition.
-/
import Derived.Test.YtmkgcifcfgfegaaAwake18
import Derived.Test.YtmkgcifcfgfegaaPaths18
import Derived.Test.YtmkgcifcfgfegaaGets18Walk
namespace Go.Proofs.Ytmkgcifcfgfegaa
set_option maxRecDepth 100000
open Go.RowKit

theorem all_short : ∀ (t : Tree) (p r : List Int), r ∈ allT t p → r.length + 1 ≤ p.length + cntT t := by
  refine Tree.ind ?_
  intro o l ih p r hr
  have q : ∀ (m : List Kid) (j : Nat), (∀ x ∈ m, x ∈ l) → r ∈ allK m j p → r.length + 1 ≤ p.length + 1 + cntK m := fun m => by
    induction m with
    | nil => intro j _ h; rw [allK] at h; cases h
    | cons x m ihm =>
      intro j hm h
      obtain ⟨n, t⟩ := x
      rw [allK] at h
      rw [cntK]
      rcases List.mem_append.1 h with h | h
      · have := ih (n, t) (hm _ (.head _)) _ _ h
        simp only [List.length_append, List.length_cons, List.length_nil] at this
        omega
      · have := ihm (j + 1) (fun y hy => hm y (.tail _ hy)) h
        omega
  rw [allT] at hr
  rw [cntT]
  rcases List.mem_cons.1 hr with rfl | hr
  · omega
  · have := q l 0 (fun _ h => h) hr
    omega
theorem all_gets {t : Tree} {r : List Int} (h : r ∈ allT t []) : ∃ u : Tree, getT t r = some u ∧ getT t (r ++ [(u.kids.length : Int)]) = none := by
  obtain ⟨q, e, hq⟩ := all_has t [] r h
  rw [List.nil_append] at e
  subst e
  exact ⟨subT t q, get_sub q t hq, get_past q t hq⟩
theorem below_new (wr : World) (o : Obj) : Below wr.heap.size wr (wr.alloc o).drew := ((Below.refl wr.heap.size wr).alloc (Nat.le_refl _) o).drew
theorem new_kept {wr w7 : World} {o : Obj} (B : Below (wr.alloc o).drew.heap.size (wr.alloc o).drew w7) : w7.heap[wr.heap.size]? = some o :=
  (B.block wr.heap.size (show wr.heap.size < (wr.alloc o).heap.size by simp)).trans (heap_alloc_new wr o)
/-- What a Get with a value gives. -/
theorem got_form {w w' : World} {r : Option Tree} {u : Tree} {e : Ending} (hr : r = some u) (h : AnsG w r e w') : ∃ (p : OwnV) (l2 : List Kid) (Db : Option Addr) (d : Nat) (Dk : Option Addr) (dk : Nat), u.kids = l2 ∧ e = .returned (.tuple #[.agg #[.int .i64 p.kind, .int .u64 (p.bits : Int), .int .u64 (p.high : Int), .int .u64 (p.low : Int), .string ⟨p.text.toArray⟩, .string ⟨p.more.toArray⟩, .int .i64 p.sub, .slice Db p.bytes.length d, .slice Dk l2.length dk], .bool true]) ∧ TreeAt w' (· < w'.heap.size) u (cellsV p Db d Dk l2.length dk) ∧ Below w.heap.size w w' := by
  subst hr
  obtain ⟨⟨p, Db, d, Dk, m, dk, h1, h3⟩, h2⟩ := h
  obtain ⟨o, l⟩ := u
  have hm : m = l.length := by
    obtain ⟨_, _, _, _, e, _⟩ := h3.open_
    have e8 := congrArg (fun z : List Value => z[8]?) e
    unfold cellsV at e8
    simp only [List.getElem?_cons_succ, List.getElem?_cons_zero, Option.some.injEq, Value.slice.injEq] at e8
    exact e8.2.1
  subst hm
  exact ⟨p, l, Db, d, Dk, dk, rfl, h1, h3, h2⟩
theorem getV_none {p : Program} {f : FuncId} {args : Array Value} {w : World} {r : Option Tree} (h : Calls p f args w (AnsG w r)) (hr : r = none) :
    Calls p f args w fun e w' => e = .returned (.tuple #[.agg #[.int .i64 0, .int .u64 0, .int .u64 0, .int .u64 0, .string ⟨#[]⟩, .string ⟨#[]⟩, .int .i64 0, .slice none 0 0, .slice none 0 0], .bool false]) ∧ Below w.heap.size w w' := by
  subst hr
  exact h
theorem row_ne {A B : Option Addr} {n n' c m d q : Nat} {w : World} (hat : (Value.slice A n' c).ownBlock = (Value.slice B m d).ownBlock ∨ (Value.slice A n' c).ownBlock = some w.heap.size) (hne : (Value.slice B m d).ownBlock ≠ some q) (hq : q < w.heap.size) : (Value.slice A n c).ownBlock ≠ some q := fun e => by
  have e2 : (Value.slice A n c).ownBlock = (Value.slice A n' c).ownBlock := by cases A <;> rfl
  rw [e2] at e
  rcases hat with h | h
  · exact hne (h ▸ e)
  · rw [h] at e; cases e; omega
theorem cell_set_other {w : World} {g b i j : Nat} {u v : Value} (h : w.cell? ⟨b, j, none⟩ = some v) (hne : ¬ g = b) : (w.setCell ⟨g, i, none⟩ u).cell? ⟨b, j, none⟩ = some v := by
  rw [World.cell?_of_block (block_keep1 hne i u)]; exact h
/-- Behind the Get: the value lies in a block of its own. -/
def Got (wr : World) (u : Tree) (v5 v6 : Value) (wx : World) : Prop :=
  ∃ (bx : Nat) (Dk : Option Addr) (dk : Nat), v5 = .pointer (some ⟨bx, 0, none⟩) ∧ v6 = .bool true ∧ wx.cell? ⟨bx, 8, none⟩ = some (.slice Dk u.kids.length dk) ∧ Below wr.heap.size wr wx
set_option maxHeartbeats 16000000 in
theorem alls18 (t : Tree) (cs : List Value) (w : World) (hT : TreeAt w (· < w.heap.size) t cs) :
    Calls Try.prog 4 #[.agg cs.toArray] w fun e w' => e = .returned (.bool true) ∧ Below w.heap.size w w' := by
  obtain ⟨c0, c1, c2, c3, c4, c5, c6, c7, c8, rfl⟩ := nine hT.len9
  have B0 : Below w.heap.size w (w.alloc (.cells #[c0, c1, c2, c3, c4, c5, c6, c7, c8] 26)) := (Below.refl _ _).alloc (Nat.le_refl _) _
  have g0 : (w.alloc (.cells #[c0, c1, c2, c3, c4, c5, c6, c7, c8] 26)).heap[w.heap.size]? = some (.cells #[c0, c1, c2, c3, c4, c5, c6, c7, c8] 26) := heap_alloc_new w _
  have cX := Lib.hid fun (V : World) (hV : Below w.heap.size w V) => small_any t _ _ _ _ _ _ _ _ _ V (hT.low hV)
  have HSM : Hid (smallB t = true → cntT t ≤ 600 ∧ briefT t) := fun h => ⟨small_cnt h, small_brief h⟩
  have HT := Lib.hid hT
  generalize hx : smallB t = x at *
  have HB0 := Lib.hid B0
  have G0 := Lib.hid g0
  have cA := Lib.hid fun (V : World) => awake_any V
  clear hT B0 g0 hx
  go_enter Try.func4, Try.ntmps4
  go_upto_region 1 with fail
  generalize w.alloc (.cells #[c0, c1, c2, c3, c4, c5, c6, c7, c8] 26) = W at *
  go_wp2_with fail
  refine (cA.out _).mono ?_
  rintro e w1 ⟨rfl, B1⟩
  have HB1 := Lib.hid (low17 HB0.out B1)
  have G1 := Lib.hid ((B1.block _ (block_lt G0.out)).trans G0.out)
  clear B1 HB0 G0 cA
  have v0 : w1.cell? ⟨w.heap.size, 0, none⟩ = some c0 := by rw [block_cell G1.out]; rfl
  have v1 : w1.cell? ⟨w.heap.size, 1, none⟩ = some c1 := by rw [block_cell G1.out]; rfl
  have v2 : w1.cell? ⟨w.heap.size, 2, none⟩ = some c2 := by rw [block_cell G1.out]; rfl
  have v3 : w1.cell? ⟨w.heap.size, 3, none⟩ = some c3 := by rw [block_cell G1.out]; rfl
  have v4 : w1.cell? ⟨w.heap.size, 4, none⟩ = some c4 := by rw [block_cell G1.out]; rfl
  have v5 : w1.cell? ⟨w.heap.size, 5, none⟩ = some c5 := by rw [block_cell G1.out]; rfl
  have v6 : w1.cell? ⟨w.heap.size, 6, none⟩ = some c6 := by rw [block_cell G1.out]; rfl
  have v7 : w1.cell? ⟨w.heap.size, 7, none⟩ = some c7 := by rw [block_cell G1.out]; rfl
  have v8 : w1.cell? ⟨w.heap.size, 8, none⟩ = some c8 := by rw [block_cell G1.out]; rfl
  go_wp2_with fail
  refine (cX.out _ HB1.out).mono ?_
  rintro e w2 ⟨rfl, B2⟩
  have HB2 := Lib.hid (low17 HB1.out B2)
  have G2 := Lib.hid ((B2.block _ (block_lt G1.out)).trans G1.out)
  clear B2 HB1 G1 cX v0 v1 v2 v3 v4 v5 v6 v7 v8
  cases x with
  | false =>
    go_wp2_with fail
    go_ret
    exact ⟨rfl, HB2.out⟩
  | true =>
  have hsm := HSM.out (by trivial)
  have HCN := Lib.hid hsm.1
  have HBF := Lib.hid hsm.2
  have c0' : cntT t ≤ 1000000 := by omega
  have cL := Lib.hid (allV_any t _ w2 c0' (HT.out.low HB2.out))
  have cK := Lib.hid fun (V : World) (hV : Below w.heap.size w V) => refAllV_any t _ V c0' (HT.out.low hV)
  have cC := Lib.hid fun (V : World) (hV : Below w.heap.size w V) => refCount_any t _ V c0' (HT.out.low hV)
  have HALL : Hid (∀ r ∈ allT t [], r.length ≤ 999999 ∧ ∃ u : Tree, getT t r = some u ∧ getT t (r ++ [(u.kids.length : Int)]) = none) := fun r hr => ⟨by
    have h1 := all_short t [] r hr
    simp only [List.length_nil] at h1
    omega, all_gets hr⟩
  have HLEN : Hid ((allT t []).length = cntT t) := allT_length t []
  obtain ⟨P, hP⟩ : ∃ P, P = allT t [] := ⟨_, rfl⟩
  rw [← hP] at cL cK HALL HLEN
  clear hsm c0' HSM hP
  have v0 : w2.cell? ⟨w.heap.size, 0, none⟩ = some c0 := by rw [block_cell G2.out]; rfl
  have v1 : w2.cell? ⟨w.heap.size, 1, none⟩ = some c1 := by rw [block_cell G2.out]; rfl
  have v2 : w2.cell? ⟨w.heap.size, 2, none⟩ = some c2 := by rw [block_cell G2.out]; rfl
  have v3 : w2.cell? ⟨w.heap.size, 3, none⟩ = some c3 := by rw [block_cell G2.out]; rfl
  have v4 : w2.cell? ⟨w.heap.size, 4, none⟩ = some c4 := by rw [block_cell G2.out]; rfl
  have v5 : w2.cell? ⟨w.heap.size, 5, none⟩ = some c5 := by rw [block_cell G2.out]; rfl
  have v6 : w2.cell? ⟨w.heap.size, 6, none⟩ = some c6 := by rw [block_cell G2.out]; rfl
  have v7 : w2.cell? ⟨w.heap.size, 7, none⟩ = some c7 := by rw [block_cell G2.out]; rfl
  have v8 : w2.cell? ⟨w.heap.size, 8, none⟩ = some c8 := by rw [block_cell G2.out]; rfl
  go_wp2_with fail
  refine (cL.out).mono ?_
  rintro e w3 hans
  obtain ⟨L, lc, rfl, hL3, B3⟩ := paths_ans hans
  have HB3 := Lib.hid (low17 HB2.out B3)
  have G3 := Lib.hid ((B3.block _ (block_lt G2.out)).trans G2.out)
  have L3 := Lib.hid hL3
  clear hans hL3 B3 HB2 G2 v0 v1 v2 v3 v4 v5 v6 v7 v8 cL
  have v0 : w3.cell? ⟨w.heap.size, 0, none⟩ = some c0 := by rw [block_cell G3.out]; rfl
  have v1 : w3.cell? ⟨w.heap.size, 1, none⟩ = some c1 := by rw [block_cell G3.out]; rfl
  have v2 : w3.cell? ⟨w.heap.size, 2, none⟩ = some c2 := by rw [block_cell G3.out]; rfl
  have v3 : w3.cell? ⟨w.heap.size, 3, none⟩ = some c3 := by rw [block_cell G3.out]; rfl
  have v4 : w3.cell? ⟨w.heap.size, 4, none⟩ = some c4 := by rw [block_cell G3.out]; rfl
  have v5 : w3.cell? ⟨w.heap.size, 5, none⟩ = some c5 := by rw [block_cell G3.out]; rfl
  have v6 : w3.cell? ⟨w.heap.size, 6, none⟩ = some c6 := by rw [block_cell G3.out]; rfl
  have v7 : w3.cell? ⟨w.heap.size, 7, none⟩ = some c7 := by rw [block_cell G3.out]; rfl
  have v8 : w3.cell? ⟨w.heap.size, 8, none⟩ = some c8 := by rw [block_cell G3.out]; rfl
  go_wp2_with fail
  refine (cK.out _ HB3.out).mono ?_
  rintro e w4 hans
  obtain ⟨K, kc, rfl, hK4, B4⟩ := paths_ans hans
  have HB4 := Lib.hid (low17 HB3.out B4)
  have G4 := Lib.hid ((B4.block _ (block_lt G3.out)).trans G3.out)
  have L4 := Lib.hid (L3.out.up B4)
  have hlen := HLEN.out
  have hcn := HCN.out
  have cS := Lib.hid (samePaths_any L P.length lc P K P.length kc P w4 L4.out hK4 (by omega) (fun r hr => Nat.le_succ_of_le (HALL.out r hr).1) (fun r hr => Nat.le_succ_of_le (HALL.out r hr).1))
  rw [show decide (P = P) = true from decide_eq_true rfl] at cS
  clear hans hK4 B4 HB3 G3 v0 v1 v2 v3 v4 v5 v6 v7 v8 cK L3 hlen hcn
  go_wp2_with fail
  refine (cS.out).mono ?_
  rintro e w5 ⟨rfl, B5⟩
  have HB5 := Lib.hid (low17 HB4.out B5)
  have G5 := Lib.hid ((B5.block _ (block_lt G4.out)).trans G4.out)
  have L5 := Lib.hid (L4.out.up B5)
  clear B5 HB4 G4 cS L4
  have cC5 := Lib.hid (cC.out _ HB5.out)
  rw [← HLEN.out] at cC5
  have v0 : w5.cell? ⟨w.heap.size, 0, none⟩ = some c0 := by rw [block_cell G5.out]; rfl
  have v1 : w5.cell? ⟨w.heap.size, 1, none⟩ = some c1 := by rw [block_cell G5.out]; rfl
  have v2 : w5.cell? ⟨w.heap.size, 2, none⟩ = some c2 := by rw [block_cell G5.out]; rfl
  have v3 : w5.cell? ⟨w.heap.size, 3, none⟩ = some c3 := by rw [block_cell G5.out]; rfl
  have v4 : w5.cell? ⟨w.heap.size, 4, none⟩ = some c4 := by rw [block_cell G5.out]; rfl
  have v5 : w5.cell? ⟨w.heap.size, 5, none⟩ = some c5 := by rw [block_cell G5.out]; rfl
  have v6 : w5.cell? ⟨w.heap.size, 6, none⟩ = some c6 := by rw [block_cell G5.out]; rfl
  have v7 : w5.cell? ⟨w.heap.size, 7, none⟩ = some c7 := by rw [block_cell G5.out]; rfl
  have v8 : w5.cell? ⟨w.heap.size, 8, none⟩ = some c8 := by rw [block_cell G5.out]; rfl
  go_wp2_with fail
  refine (cC5.out).mono ?_
  rintro e w6 ⟨rfl, B6⟩
  have HB6 := Lib.hid (low17 HB5.out B6)
  have G6 := Lib.hid ((B6.block _ (block_lt G5.out)).trans G5.out)
  have L6 := Lib.hid (L5.out.up B6)
  have hlen := HLEN.out
  have hcn := HCN.out
  have HPN : Hid (P.length ≤ 600) := show _ ≤ _ by omega
  clear B6 HB5 G5 cC cC5 L5 v0 v1 v2 v3 v4 v5 v6 v7 v8 hlen hcn
  have dd : ((P.length : Int) != (P.length : Int)) = false := by simp
  have ddn : (P.length != P.length) = false := by simp
  obtain ⟨N, hN⟩ : ∃ N, N = P.length := ⟨_, rfl⟩
  rw [← hN] at L6 HPN dd ddn ⊢
  have HNE := Lib.hid hN
  clear hN
  go_wp2_with fail
  clear dd ddn
  go_loopw [4] (fun i wr => Below w6.heap.size w6 wr ∧ ∃ k : Nat, k ≤ N ∧ i = .int .i64 (k : Int)) (fun i _ => N - natV i)
  case atStart => exact ⟨Below.refl _ _, 0, Nat.zero_le _, rfl⟩
  case round =>
    obtain ⟨hB, k, hk, rfl⟩ := hrel
    have HB := Lib.hid (low17 HB6.out hB)
    have HBB := Lib.hid hB
    have hN := HPN.out
    by_cases hlt : k < N
    · have d1 : decide ((k : Int) < (N : Int)) = true := decide_eq_true (by omega)
      have d1n : decide (k < N) = true := decide_eq_true hlt
      have hkP : k < P.length := by rw [← HNE.out]; exact hlt
      obtain ⟨lb, lo, A2, n2, h2, rfl, hlb, hl1, hn2, hI⟩ := L6.out.get k hlt hkP
      have hall := HALL.out P[k] (List.getElem_mem hkP)
      generalize P[k] = r at *
      obtain ⟨hrl, u, hu, hno⟩ := hall
      have g6 := (hB.block _ (block_lt G6.out)).trans G6.out
      have l1 : wr.cell? ⟨lb, lo + k, none⟩ = some (.slice A2 n2 h2) := (hB.cell (p := ⟨lb, lo + k, none⟩) hlb).trans hl1
      have i0 : (0 : Int) ≤ (k : Int) := by omega
      have i1 : (k : Int) < (N : Int) := by omega
      have hn2l := hI.1
      have hI2 := (hI.on hB)
      have HK1 : Hid (k + 1 ≤ N) := hlt
      have u2 : Hid (wrap64 ((k : Int) + 1) = ((k + 1 : Nat) : Int)) := show _ = _ from w64 (by omega) (by omega)
      have HI2 := Lib.hid hI2
      have HRL : Hid (n2 ≤ 1000000) := show _ ≤ _ by omega
      have HRL0 : Hid (n2 ≤ 999999) := show _ ≤ _ by omega
      have HN2 := Lib.hid hn2
      have HU := Lib.hid hu
      have HNO := Lib.hid hno
      have HN2L := Lib.hid hn2l
      have G7 := Lib.hid g6
      have L1 := Lib.hid l1
      have cG := Lib.hid fun (V : World) (hV : Below wr.heap.size wr V) => getV_any r t _ A2 n2 h2 V HBF.out (HT.out.low (low17 HB.out hV)) (hI2.on hV) HRL.out
      clear hB hlb hl1 hn2 hI hrl hu hno g6 hn2l hI2 hk hlt hkP hN
      have v0 : wr.cell? ⟨w.heap.size, 0, none⟩ = some c0 := by rw [block_cell G7.out]; rfl
      have v1 : wr.cell? ⟨w.heap.size, 1, none⟩ = some c1 := by rw [block_cell G7.out]; rfl
      have v2 : wr.cell? ⟨w.heap.size, 2, none⟩ = some c2 := by rw [block_cell G7.out]; rfl
      have v3 : wr.cell? ⟨w.heap.size, 3, none⟩ = some c3 := by rw [block_cell G7.out]; rfl
      have v4 : wr.cell? ⟨w.heap.size, 4, none⟩ = some c4 := by rw [block_cell G7.out]; rfl
      have v5 : wr.cell? ⟨w.heap.size, 5, none⟩ = some c5 := by rw [block_cell G7.out]; rfl
      have v6 : wr.cell? ⟨w.heap.size, 6, none⟩ = some c6 := by rw [block_cell G7.out]; rfl
      have v7 : wr.cell? ⟨w.heap.size, 7, none⟩ = some c7 := by rw [block_cell G7.out]; rfl
      have v8 : wr.cell? ⟨w.heap.size, 8, none⟩ = some c8 := by rw [block_cell G7.out]; rfl
      go_upto_region 11 with fail
      have ng1 : ¬ wr.heap.size = w.heap.size := by have := block_lt G7.out; omega
      have HLB : Hid (lb < wr.heap.size) := show _ < _ by have := World.block_lt_of_cell? _ _ L1.out; simp at this; exact this
      have ng2 : ¬ wr.heap.size = lb := by have := World.block_lt_of_cell? _ _ L1.out; simp at this; omega
      go_cut [5, 6] (fun v5 v6 wx => Got wr u v5 v6 wx)
      case first =>
        refine wp_region_held_drew (S := (fun V : World => V.cell? ⟨w.heap.size, 0, none⟩ = some c0 ∧ V.cell? ⟨w.heap.size, 1, none⟩ = some c1 ∧ V.cell? ⟨w.heap.size, 2, none⟩ = some c2 ∧ V.cell? ⟨w.heap.size, 3, none⟩ = some c3 ∧ V.cell? ⟨w.heap.size, 4, none⟩ = some c4 ∧ V.cell? ⟨w.heap.size, 5, none⟩ = some c5 ∧ V.cell? ⟨w.heap.size, 6, none⟩ = some c6 ∧ V.cell? ⟨w.heap.size, 7, none⟩ = some c7 ∧ V.cell? ⟨w.heap.size, 8, none⟩ = some c8 ∧ V.cell? ⟨lb, lo + k, none⟩ = some (.slice A2 n2 h2))) (by kernel_rfl) ?_ (fun hHeld => ?_)
        · exact ⟨cell_drew v0, cell_drew v1, cell_drew v2, cell_drew v3, cell_drew v4, cell_drew v5, cell_drew v6, cell_drew v7, cell_drew v8, cell_drew l1⟩
        refine wpAnyH_take (i := 0) (v := ?_) rfl (by kernel_rfl) (by kernel_rfl) (by kernel_rfl) (fun _ _ _ h => h) (Or.inl ⟨by rfl, ?_⟩) (by assumption) ?_
        rotate_left 1
        · intro V hSw
          (try dsimp only at hSw)
          go_simp
          (try with_reducible rfl)
        (try simp only [Act.put, List.setIfInBounds_toArray])
        refine wpAnyH_take (i := 1) (v := ?_) rfl (by kernel_rfl) (by kernel_rfl) (by kernel_rfl) (fun _ _ _ h => h) (Or.inl ⟨by rfl, ?_⟩) (by assumption) ?_
        rotate_left 1
        · intro V hSw
          (try dsimp only at hSw)
          go_simp
          (try with_reducible rfl)
        (try simp only [Act.put])
        refine wpAnyH_take (i := 2) (v := ?_) rfl (by kernel_rfl) (by kernel_rfl) (by kernel_rfl) (fun _ _ _ h => h) (Or.inl ⟨by rfl, ?_⟩) (by assumption) ?_
        rotate_left 1
        · intro V hSw
          (try dsimp only at hSw)
          go_simp
          (try with_reducible rfl)
        (try simp only [Act.put])
        refine wpAnyH_take (i := 3) (v := ?_) rfl (by kernel_rfl) (by kernel_rfl) (by kernel_rfl) (fun _ _ _ h => h) (Or.inl ⟨by rfl, ?_⟩) (by assumption) ?_
        rotate_left 1
        · intro V hSw
          (try dsimp only at hSw)
          go_simp
          (try with_reducible rfl)
        (try simp only [Act.put])
        refine wpAnyH_take (i := 4) (v := ?_) rfl (by kernel_rfl) (by kernel_rfl) (by kernel_rfl) (fun _ _ _ h => h) (Or.inl ⟨by rfl, ?_⟩) (by assumption) ?_
        rotate_left 1
        · intro V hSw
          (try dsimp only at hSw)
          go_simp
          (try with_reducible rfl)
        (try simp only [Act.put])
        refine wpAnyH_ready (rs := [5, 9]) (by kernel_rfl) (by simp) ?_
        refine AllReadyH.cons rfl (fun K hK => ?_) (AllReadyH.cons rfl (fun K hK => ?_) AllReadyH.nil)
        · go_simp
          go_at_call 9
          (with_reducible refine (cG.out _ (Below.refl _ _).drew).mono ?_)
          rintro e w7 hans
          obtain ⟨o2, l2, Db, d, Dk, dk, eu, rfl, T7, B7⟩ := got_form HU.out hans
          go_wp2_with fail
          refine hK.out _ _ ⟨cell_low B7 (cell_drew v0), cell_low B7 (cell_drew v1), cell_low B7 (cell_drew v2), cell_low B7 (cell_drew v3), cell_low B7 (cell_drew v4), cell_low B7 (cell_drew v5), cell_low B7 (cell_drew v6), cell_low B7 (cell_drew v7), cell_low B7 (cell_drew v8), cell_low B7 (cell_drew l1)⟩ (fun hHeld => ?_)
          clear hK K
          (try simp only [Act.put, List.setIfInBounds_toArray, List.set_cons_zero, List.set_cons_succ])
          refine wpAnyH_take (i := 6) (v := ?_) rfl (by kernel_rfl) (by kernel_rfl) (by kernel_rfl) (fun _ _ _ h => h) (Or.inl ⟨by rfl, ?_⟩) (by assumption) ?_
          rotate_left 1
          · intro V hSw
            (try dsimp only at hSw)
            go_simp
            (try with_reducible rfl)
          (try simp only [Act.put, List.setIfInBounds_toArray])
          refine wpAnyH_take (i := 7) (v := ?_) rfl (by kernel_rfl) (by kernel_rfl) (by kernel_rfl) (fun _ _ _ h => h) (Or.inl ⟨by rfl, ?_⟩) (by assumption) ?_
          rotate_left 1
          · intro V hSw
            (try dsimp only at hSw)
            go_simp
            (try with_reducible rfl)
          (try simp only [Act.put])
          refine wpAnyH_take (i := 8) (v := ?_) rfl (by kernel_rfl) (by kernel_rfl) (by kernel_rfl) (fun _ _ _ h => h) (Or.inl ⟨by rfl, ?_⟩) (by assumption) ?_
          rotate_left 1
          · intro V hSw
            (try dsimp only at hSw)
            go_simp
            (try with_reducible rfl)
          (try simp only [Act.put])
          refine wpAnyH_ready (rs := [9]) (by kernel_rfl) (by simp) ?_
          refine AllReadyH.cons rfl (fun K hK => ?_) ?_
          rotate_left 1
          · exact AllReadyH.nil
          go_simp
          refine hK.out _ _ ⟨cell_past _ (cell_low B7 (cell_drew v0)), cell_past _ (cell_low B7 (cell_drew v1)), cell_past _ (cell_low B7 (cell_drew v2)), cell_past _ (cell_low B7 (cell_drew v3)), cell_past _ (cell_low B7 (cell_drew v4)), cell_past _ (cell_low B7 (cell_drew v5)), cell_past _ (cell_low B7 (cell_drew v6)), cell_past _ (cell_low B7 (cell_drew v7)), cell_past _ (cell_low B7 (cell_drew v8)), cell_past _ (cell_low B7 (cell_drew l1))⟩ (fun hHeld => ?_)
          clear hK K
          (try simp only [Act.put, List.setIfInBounds_toArray, List.set_cons_zero, List.set_cons_succ])
          refine wpAnyH_ready (rs := [10]) (by kernel_rfl) (by simp) ?_
          refine AllReadyH.cons rfl (fun K hK => ?_) ?_
          rotate_left 1
          · exact AllReadyH.nil
          go_simp
          refine hK.out _ _ ⟨cell_past _ (cell_low B7 (cell_drew v0)), cell_past _ (cell_low B7 (cell_drew v1)), cell_past _ (cell_low B7 (cell_drew v2)), cell_past _ (cell_low B7 (cell_drew v3)), cell_past _ (cell_low B7 (cell_drew v4)), cell_past _ (cell_low B7 (cell_drew v5)), cell_past _ (cell_low B7 (cell_drew v6)), cell_past _ (cell_low B7 (cell_drew v7)), cell_past _ (cell_low B7 (cell_drew v8)), cell_past _ (cell_low B7 (cell_drew l1))⟩ (fun hHeld => ?_)
          clear hK K
          (try simp only [Act.put, List.setIfInBounds_toArray, List.set_cons_zero, List.set_cons_succ])
          refine wpAnyH_ready (rs := [11]) (by kernel_rfl) (by simp) ?_
          refine AllReadyH.cons rfl (fun K hK => ?_) ?_
          rotate_left 1
          · exact AllReadyH.nil
          go_simp
          refine hK.out _ _ hHeld (fun _ => ?_)
          clear hK K
          (try simp only [Act.put, List.setIfInBounds_toArray, List.set_cons_zero, List.set_cons_succ])
          refine wpAnyH_done (by kernel_rfl) ?_ _
          go_wp2_with fail
          go_meet
          exact ⟨w7.heap.size, Dk, dk, rfl, rfl, by rw [eu, block_cell (heap_alloc_new w7 _)]; rfl, ((low17 (Below.refl wr.heap.size wr).drew B7).alloc (by have := B7.size; exact this) _)⟩
        · go_simp
          refine hK.out _ _ ⟨cell_drew (cell_past _ v0), cell_drew (cell_past _ v1), cell_drew (cell_past _ v2), cell_drew (cell_past _ v3), cell_drew (cell_past _ v4), cell_drew (cell_past _ v5), cell_drew (cell_past _ v6), cell_drew (cell_past _ v7), cell_drew (cell_past _ v8), cell_drew (cell_past _ l1)⟩ (fun hHeld => ?_)
          clear hK K
          (try simp only [Act.put, List.setIfInBounds_toArray, List.set_cons_zero, List.set_cons_succ])
          refine wpAnyH_ready (rs := [5]) (by kernel_rfl) (by simp) ?_
          refine AllReadyH.cons rfl (fun K hK => ?_) ?_
          rotate_left 1
          · exact AllReadyH.nil
          go_simp
          go_at_call 9
          (with_reducible refine (cG.out (wr.alloc (.cells #[.int .i64 0, .int .u64 0, .int .u64 0, .int .u64 0, .string ⟨#[]⟩, .string ⟨#[]⟩, .int .i64 0, .slice none 0 0, .slice none 0 0] 26)).drew (below_new wr _)).mono ?_)
          rintro e w7 hans
          obtain ⟨o2, l2, Db, d, Dk, dk, eu, rfl, T7, B7⟩ := got_form HU.out hans
          go_wp2_with fail
          refine hK.out _ _ ⟨cell_low B7 (cell_drew (cell_past _ v0)), cell_low B7 (cell_drew (cell_past _ v1)), cell_low B7 (cell_drew (cell_past _ v2)), cell_low B7 (cell_drew (cell_past _ v3)), cell_low B7 (cell_drew (cell_past _ v4)), cell_low B7 (cell_drew (cell_past _ v5)), cell_low B7 (cell_drew (cell_past _ v6)), cell_low B7 (cell_drew (cell_past _ v7)), cell_low B7 (cell_drew (cell_past _ v8)), cell_low B7 (cell_drew (cell_past _ l1))⟩ (fun hHeld => ?_)
          clear hK K
          (try simp only [Act.put, List.setIfInBounds_toArray, List.set_cons_zero, List.set_cons_succ])
          refine wpAnyH_take (i := 6) (v := ?_) rfl (by kernel_rfl) (by kernel_rfl) (by kernel_rfl) (fun _ _ _ h => h) (Or.inl ⟨by rfl, ?_⟩) (by assumption) ?_
          rotate_left 1
          · intro V hSw
            (try dsimp only at hSw)
            go_simp
            (try with_reducible rfl)
          (try simp only [Act.put, List.setIfInBounds_toArray])
          refine wpAnyH_take (i := 7) (v := ?_) rfl (by kernel_rfl) (by kernel_rfl) (by kernel_rfl) (fun _ _ _ h => h) (Or.inl ⟨by rfl, ?_⟩) (by assumption) ?_
          rotate_left 1
          · intro V hSw
            (try dsimp only at hSw)
            go_simp
            (try with_reducible rfl)
          (try simp only [Act.put])
          refine wpAnyH_take (i := 8) (v := ?_) rfl (by kernel_rfl) (by kernel_rfl) (by kernel_rfl) (fun _ _ _ h => h) (Or.inl ⟨by rfl, ?_⟩) (by assumption) ?_
          rotate_left 1
          · intro V hSw
            (try dsimp only at hSw)
            go_simp
            (try with_reducible rfl)
          (try simp only [Act.put])
          have G9 := new_kept B7
          have z0 : w7.cell? ⟨wr.heap.size, 0, none⟩ = some (.int .i64 0) := (block_cell G9 _).trans rfl
          have f0 : w7.frozen? ⟨wr.heap.size, 0, none⟩ = false := block_frozen G9 0
          have z1 : w7.cell? ⟨wr.heap.size, 1, none⟩ = some (.int .u64 0) := (block_cell G9 _).trans rfl
          have f1 : w7.frozen? ⟨wr.heap.size, 1, none⟩ = false := block_frozen G9 1
          have z2 : w7.cell? ⟨wr.heap.size, 2, none⟩ = some (.int .u64 0) := (block_cell G9 _).trans rfl
          have f2 : w7.frozen? ⟨wr.heap.size, 2, none⟩ = false := block_frozen G9 2
          have z3 : w7.cell? ⟨wr.heap.size, 3, none⟩ = some (.int .u64 0) := (block_cell G9 _).trans rfl
          have f3 : w7.frozen? ⟨wr.heap.size, 3, none⟩ = false := block_frozen G9 3
          have z4 : w7.cell? ⟨wr.heap.size, 4, none⟩ = some (.string ⟨#[]⟩) := (block_cell G9 _).trans rfl
          have f4 : w7.frozen? ⟨wr.heap.size, 4, none⟩ = false := block_frozen G9 4
          have z5 : w7.cell? ⟨wr.heap.size, 5, none⟩ = some (.string ⟨#[]⟩) := (block_cell G9 _).trans rfl
          have f5 : w7.frozen? ⟨wr.heap.size, 5, none⟩ = false := block_frozen G9 5
          have z6 : w7.cell? ⟨wr.heap.size, 6, none⟩ = some (.int .i64 0) := (block_cell G9 _).trans rfl
          have f6 : w7.frozen? ⟨wr.heap.size, 6, none⟩ = false := block_frozen G9 6
          have z7 : w7.cell? ⟨wr.heap.size, 7, none⟩ = some (.slice none 0 0) := (block_cell G9 _).trans rfl
          have f7 : w7.frozen? ⟨wr.heap.size, 7, none⟩ = false := block_frozen G9 7
          have z8 : w7.cell? ⟨wr.heap.size, 8, none⟩ = some (.slice none 0 0) := (block_cell G9 _).trans rfl
          have f8 : w7.frozen? ⟨wr.heap.size, 8, none⟩ = false := block_frozen G9 8
          refine wpAnyH_ready (rs := [10]) (by kernel_rfl) (by simp) ?_
          refine AllReadyH.cons rfl (fun K hK => ?_) ?_
          rotate_left 1
          · exact AllReadyH.nil
          go_simp
          rw [← chain9z]
          refine hK.out _ _ ⟨cell_oth9 ng1 _ _ _ _ _ _ (cell_low B7 (cell_drew (cell_past _ v0))), cell_oth9 ng1 _ _ _ _ _ _ (cell_low B7 (cell_drew (cell_past _ v1))), cell_oth9 ng1 _ _ _ _ _ _ (cell_low B7 (cell_drew (cell_past _ v2))), cell_oth9 ng1 _ _ _ _ _ _ (cell_low B7 (cell_drew (cell_past _ v3))), cell_oth9 ng1 _ _ _ _ _ _ (cell_low B7 (cell_drew (cell_past _ v4))), cell_oth9 ng1 _ _ _ _ _ _ (cell_low B7 (cell_drew (cell_past _ v5))), cell_oth9 ng1 _ _ _ _ _ _ (cell_low B7 (cell_drew (cell_past _ v6))), cell_oth9 ng1 _ _ _ _ _ _ (cell_low B7 (cell_drew (cell_past _ v7))), cell_oth9 ng1 _ _ _ _ _ _ (cell_low B7 (cell_drew (cell_past _ v8))), cell_oth9 ng2 _ _ _ _ _ _ (cell_low B7 (cell_drew (cell_past _ l1)))⟩ (fun hHeld => ?_)
          clear hK K
          (try simp only [Act.put, List.setIfInBounds_toArray, List.set_cons_zero, List.set_cons_succ])
          refine wpAnyH_ready (rs := [11]) (by kernel_rfl) (by simp) ?_
          refine AllReadyH.cons rfl (fun K hK => ?_) ?_
          rotate_left 1
          · exact AllReadyH.nil
          go_simp
          refine hK.out _ _ hHeld (fun _ => ?_)
          clear hK K
          (try simp only [Act.put, List.setIfInBounds_toArray, List.set_cons_zero, List.set_cons_succ])
          refine wpAnyH_done (by kernel_rfl) ?_ _
          go_wp2_with fail
          go_meet
          exact ⟨wr.heap.size, Dk, dk, rfl, rfl, by rw [eu, block_cell (set9 G9 o2 Db d Dk l2.length dk)]; rfl, below_cells (Nat.le_refl _) _ _ _ (low17 (below_new wr _) B7)⟩
      case rest =>
        obtain ⟨bx, Dk, dk, rfl, rfl, x8, BC⟩ := hcut
        have HBC := Lib.hid (low17 HB.out BC)
        have HBC6 := Lib.hid (low17 HBB.out BC)
        have G8 := Lib.hid ((BC.block _ (block_lt G7.out)).trans G7.out)
        have l2 := (BC.cell (p := ⟨lb, lo + k, none⟩) HLB.out).trans L1.out
        have HI3 := Lib.hid (HI2.out.on BC)
        obtain ⟨ln, hln⟩ : ∃ ln, ln = u.kids.length := ⟨_, rfl⟩
        rw [← hln] at x8
        have HLN := Lib.hid hln
        have cG2 := Lib.hid fun (V : World) (hV : Below wc.heap.size wc V) (A' : Option Addr) (c' : Nat) (hI : Ints V (· < V.heap.size) A' (n2 + 1) (r ++ [(ln : Int)])) => getV_none (getV_any (r ++ [(ln : Int)]) t _ A' (n2 + 1) c' V HBF.out (HT.out.low (low17 HBC.out hV)) hI (by have := HI3.out.1; have := HRL0.out; omega)) (by rw [HLN.out]; exact HNO.out)
        have hlbc : lb < wc.heap.size := Nat.lt_of_lt_of_le HLB.out BC.size
        have hvb : w.heap.size < wc.heap.size := block_lt G8.out
        have hxb : bx < wc.heap.size := World.block_lt_of_cell? _ _ x8
        obtain ⟨i0', hi0, hz0, hz1, hz2⟩ := info_parts info_int
        have HZ := Lib.hid hz0; have HI0 := Lib.hid hi0; have H1 := Lib.hid hz1; have H2 := Lib.hid hz2
        have M2a : 0 + n2 ≤ maxLen := by have := HRL0.out; simp only [maxLen]; omega
        have M3a : (0 + n2) * 8 ≤ 140737488355328 := by have := HRL0.out; omega
        have M2b : n2 + 1 ≤ maxLen := by have := HRL0.out; simp only [maxLen]; omega
        have M3b : (n2 + 1) * 8 ≤ 140737488355328 := by have := HRL0.out; omega
        have LR : Hid ((intCells r).length = n2) := show _ = _ by simp [intCells, HI3.out.1]
        have O1 : ∀ x : Value, x = .int .i64 (ln : Int) → ∀ u ∈ ([x] : List Value), u.oneCell' = true := fun x hx u hu => by
          rw [List.mem_singleton.1 hu, hx]; rfl
        clear hz0 hi0 hz1 hz2 hln cG v0 v1 v2 v3 v4 v5 v6 v7 v8 l1 BC ng1 ng2
        have v0 : wc.cell? ⟨w.heap.size, 0, none⟩ = some c0 := by rw [block_cell G8.out]; rfl
        have v1 : wc.cell? ⟨w.heap.size, 1, none⟩ = some c1 := by rw [block_cell G8.out]; rfl
        have v2 : wc.cell? ⟨w.heap.size, 2, none⟩ = some c2 := by rw [block_cell G8.out]; rfl
        have v3 : wc.cell? ⟨w.heap.size, 3, none⟩ = some c3 := by rw [block_cell G8.out]; rfl
        have v4 : wc.cell? ⟨w.heap.size, 4, none⟩ = some c4 := by rw [block_cell G8.out]; rfl
        have v5 : wc.cell? ⟨w.heap.size, 5, none⟩ = some c5 := by rw [block_cell G8.out]; rfl
        have v6 : wc.cell? ⟨w.heap.size, 6, none⟩ = some c6 := by rw [block_cell G8.out]; rfl
        have v7 : wc.cell? ⟨w.heap.size, 7, none⟩ = some c7 := by rw [block_cell G8.out]; rfl
        have v8 : wc.cell? ⟨w.heap.size, 8, none⟩ = some c8 := by rw [block_cell G8.out]; rfl
        go_upto_region 12 with fail
        go_cut [8] (fun v8 wx => v8 = .bool false ∧ Below wc.heap.size wc wx)
        case first =>
          refine wp_region_held_drew (S := fun V : World => Below wc.heap.size wc V) (by kernel_rfl) ?_ (fun hHeld => ?_)
          · exact (Below.refl _ _).drew
          have HSS : Hid (Below wc.heap.size wc wc.drew) := (Below.refl _ _).drew
          refine wpAnyH_take (i := 0) (v := ?_) rfl (by kernel_rfl) (by kernel_rfl) (by kernel_rfl) (fun _ _ _ h => h) (Or.inl ⟨by rfl, ?_⟩) (by assumption) ?_
          rotate_left 1
          · intro V hSw
            (try dsimp only at hSw)
            have q0 := below_cell hSw hvb v0
            have q1 := below_cell hSw hvb v1
            have q2 := below_cell hSw hvb v2
            have q3 := below_cell hSw hvb v3
            have q4 := below_cell hSw hvb v4
            have q5 := below_cell hSw hvb v5
            have q6 := below_cell hSw hvb v6
            have q7 := below_cell hSw hvb v7
            have q8 := below_cell hSw hvb v8
            go_simp
            (try with_reducible rfl)
          (try simp only [Act.put, List.setIfInBounds_toArray])
          refine wpAnyH_take (i := 2) (v := ?_) rfl (by kernel_rfl) (by kernel_rfl) (by kernel_rfl) (fun _ _ _ h => h) (Or.inl ⟨by rfl, ?_⟩) (by assumption) ?_
          rotate_left 1
          · intro V hSw
            (try dsimp only at hSw)
            go_simp
            (try with_reducible rfl)
          (try simp only [Act.put])
          refine wpAnyH_take (i := 3) (v := ?_) rfl (by kernel_rfl) (by kernel_rfl) (by kernel_rfl) (fun _ _ _ h => h) (Or.inl ⟨by rfl, ?_⟩) (by assumption) ?_
          rotate_left 1
          · intro V hSw
            (try dsimp only at hSw)
            go_simp
            (try with_reducible rfl)
          (try simp only [Act.put])
          refine wpAnyH_take (i := 4) (v := ?_) rfl (by kernel_rfl) (by kernel_rfl) (by kernel_rfl) (fun _ _ _ h => h) (Or.inl ⟨by rfl, ?_⟩) (by assumption) ?_
          rotate_left 1
          · intro V hSw
            (try dsimp only at hSw)
            go_simp
            (try with_reducible rfl)
          (try simp only [Act.put])
          refine wpAnyH_take (i := 5) (v := ?_) rfl (by kernel_rfl) (by kernel_rfl) (by kernel_rfl) (fun _ _ _ h => h) (Or.inl ⟨by rfl, ?_⟩) (by assumption) ?_
          rotate_left 1
          · intro V hSw
            (try dsimp only at hSw)
            have q0 := below_cell hSw hlbc l2
            go_simp
            (try with_reducible rfl)
          (try simp only [Act.put])
          refine wpAnyH_take (i := 7) (v := ?_) rfl (by kernel_rfl) (by kernel_rfl) (by kernel_rfl) (fun _ _ _ h => h) (Or.inl ⟨by rfl, ?_⟩) (by assumption) ?_
          rotate_left 1
          · intro V hSw
            (try dsimp only at hSw)
            go_simp
            (try with_reducible rfl)
          (try simp only [Act.put])
          refine wpAnyH_take (i := 8) (v := ?_) rfl (by kernel_rfl) (by kernel_rfl) (by kernel_rfl) (fun _ _ _ h => h) (Or.inl ⟨by rfl, ?_⟩) (by assumption) ?_
          rotate_left 1
          · intro V hSw
            (try dsimp only at hSw)
            have q0 := below_cell hSw hxb x8
            go_simp
            (try with_reducible rfl)
          (try simp only [Act.put])
          refine wpAnyH_take (i := 9) (v := ?_) rfl (by kernel_rfl) (by kernel_rfl) (by kernel_rfl) (fun _ _ _ h => h) (Or.inl ⟨by rfl, ?_⟩) (by assumption) ?_
          rotate_left 1
          · intro V hSw
            (try dsimp only at hSw)
            go_simp
            (try with_reducible rfl)
          (try simp only [Act.put])
          generalize wc.drew = wd at *
          refine wpAnyH_ready (rs := [1, 10, 16]) (by kernel_rfl) (by simp) ?_
          refine (AllReadyH.cons rfl (fun K hK => ?_) (AllReadyH.cons rfl (fun K hK => ?_) (AllReadyH.cons rfl (fun K hK => ?_) AllReadyH.nil)))
          · go_simp
            refine hK.out _ _ (HSS.out.alloc HSS.out.size _) (fun hHeld => ?_)
            clear hK K
            (try simp only [Act.put, List.setIfInBounds_toArray, List.set_cons_zero, List.set_cons_succ])
            have HSS2 := Lib.hid (HSS.out.alloc HSS.out.size (.cells #[] 3))
            have HQ45 := Lib.hid HSS.out.size
            have HROW : Hid ((wd.alloc (.cells #[] 3)).ownsRow wc.heap.size 3 1 (.slice (some ⟨wd.heap.size, 0, none⟩) 0 0) 0 []) := World.ownsRow_lit wd #[] 0 HSS.out.size (Nat.zero_le _) rfl
            clear HSS
            generalize wd.alloc (.cells #[] 3) = W1_1 at *
            generalize wd.heap.size = q45 at *
            have HSS := HSS2
            clear HSS2
            refine wpAnyH_ready (rs := [6, 10, 16]) (by kernel_rfl) (by simp) ?_
            refine (AllReadyH.cons rfl (fun K hK => ?_) (AllReadyH.cons rfl (fun K hK => ?_) (AllReadyH.cons rfl (fun K hK => ?_) AllReadyH.nil)))
            · refine step_append_held rfl (.tmp 45) (.tmp 49) 27 rfl wc.heap.size 3 i0' _ 8 Try.underlying27 HI0.out HZ.out H1.out H2.out rfl _ 0 [] rfl HROW.out A2 n2 h2 (intCells r) rfl LR.out (HI3.out.on HSS.out).cellsAt (intCells_one r) M2a M3a HSS.out.size ?_
              intro A50 c50 W2_6 ho hg hat
              have HSS2 := Lib.hid (HSS.out.grown hg HSS.out.size (fun z hz => (HROW.out.lt z hz).1))
              refine hK.out _ _ HSS2.out (fun hHeld => ?_)
              clear hK K
              (try simp only [Act.put, List.setIfInBounds_toArray])
              have HROW2 : Hid (W2_6.ownsRow wc.heap.size 3 1 (.slice A50 n2 c50) n2 (intCells r)) := show World.ownsRow _ _ _ _ _ _ _ from by
                have := ho.out
                simpa using this
              clear HSS HROW hg hat ho
              have HSS := HSS2
              have HROW := HROW2
              clear HSS2 HROW2
              (try simp only [Nat.zero_add])
              refine wpAnyH_ready (rs := [10, 16]) (by kernel_rfl) (by simp) ?_
              refine (AllReadyH.cons rfl (fun K hK => ?_) (AllReadyH.cons rfl (fun K hK => ?_) AllReadyH.nil))
              · go_simp
                refine hK.out _ _ (HSS.out.alloc HSS.out.size _) (fun hHeld => ?_)
                clear hK K
                (try simp only [Act.put, List.setIfInBounds_toArray, List.set_cons_zero, List.set_cons_succ])
                have HSS2 := Lib.hid (HSS.out.alloc HSS.out.size (.cells #[.int .i64 (ln : Int)] 3))
                have HQ54 := Lib.hid HSS.out.size
                have HROW2 := Lib.hid (HROW.out.alloc (.cells #[.int .i64 (ln : Int)] 3))
                have NE54 : Hid ((Value.slice A50 n2 c50).ownBlock ≠ some W2_6.heap.size) := fun e => by have := (HROW.out.lt _ e).2; omega
                have C54 := Lib.hid (heap_alloc_new W2_6 (.cells #[.int .i64 (ln : Int)] 3))
                clear HSS HROW
                generalize W2_6.alloc (.cells #[.int .i64 (ln : Int)] 3) = W3_10 at *
                generalize W2_6.heap.size = q54 at *
                have HSS := HSS2
                have HROW := HROW2
                clear HSS2 HROW2
                refine wpAnyH_ready (rs := [11, 16]) (by kernel_rfl) (by simp) ?_
                refine (AllReadyH.cons rfl (fun K hK => ?_) (AllReadyH.cons rfl (fun K hK => ?_) AllReadyH.nil))
                · refine step_append_held rfl (.tmp 50) (.tmp 54) 27 rfl wc.heap.size 3 i0' _ 8 Try.underlying27 HI0.out HZ.out H1.out H2.out rfl _ n2 (intCells r) rfl HROW.out (some ⟨q54, 0, none⟩) 1 1 [.int .i64 (ln : Int)] rfl rfl (fun _ => ⟨_, rfl, World.news_of_block (cs := #[.int .i64 (ln : Int)]) (t := 3) (fr := (0, 0)) C54.out⟩) (O1 _ rfl) M2b M3b HSS.out.size ?_
                  intro A55 c55 W4_11 ho hg hat
                  have HSS2 := Lib.hid (HSS.out.grown hg HSS.out.size (fun z hz => (HROW.out.lt z hz).1))
                  refine hK.out _ _ HSS2.out (fun hHeld => ?_)
                  clear hK K
                  (try simp only [Act.put, List.setIfInBounds_toArray])
                  have HII : Hid (Ints W4_11 (· < W4_11.heap.size) A55 (n2 + 1) (r ++ [(ln : Int)])) := own_ints (by unfold intCells; rw [List.map_append]; exact ho.out)
                  clear HSS HROW hg hat C54 NE54 ho
                  have HSS := HSS2
                  clear HSS2
                  refine wpAnyH_ready (rs := [12, 16]) (by kernel_rfl) (by simp) ?_
                  refine (AllReadyH.cons rfl (fun K hK => ?_) (AllReadyH.cons rfl (fun K hK => ?_) AllReadyH.nil))
                  · go_simp
                    go_at_call 9
                    (with_reducible refine (cG2.out _ HSS.out A55 c55 HII.out).mono ?_)
                    rintro e W5_12 ⟨rfl, B7⟩
                    go_wp2_with fail
                    have HSS2 := Lib.hid (low17 HSS.out B7)
                    refine hK.out _ _ HSS2.out (fun hHeld => ?_)
                    clear hK K
                    (try simp only [Act.put, List.setIfInBounds_toArray, List.set_cons_zero, List.set_cons_succ])
                    clear HSS HII B7
                    have HSS := HSS2
                    clear HSS2
                    refine wpAnyH_take (i := 13) (v := ?_) rfl (by kernel_rfl) (by kernel_rfl) (by kernel_rfl) (fun _ _ _ h => h) (Or.inl ⟨by rfl, ?_⟩) (by assumption) ?_
                    rotate_left 1
                    · intro V hSw
                      (try dsimp only at hSw)
                      go_simp
                      (try with_reducible rfl)
                    (try simp only [Act.put, List.setIfInBounds_toArray])
                    refine wpAnyH_take (i := 14) (v := ?_) rfl (by kernel_rfl) (by kernel_rfl) (by kernel_rfl) (fun _ _ _ h => h) (Or.inl ⟨by rfl, ?_⟩) (by assumption) ?_
                    rotate_left 1
                    · intro V hSw
                      (try dsimp only at hSw)
                      go_simp
                      (try with_reducible rfl)
                    (try simp only [Act.put])
                    refine wpAnyH_take (i := 15) (v := ?_) rfl (by kernel_rfl) (by kernel_rfl) (by kernel_rfl) (fun _ _ _ h => h) (Or.inl ⟨by rfl, ?_⟩) (by assumption) ?_
                    rotate_left 1
                    · intro V hSw
                      (try dsimp only at hSw)
                      go_simp
                      (try with_reducible rfl)
                    (try simp only [Act.put])
                    refine wpAnyH_ready (rs := [16]) (by kernel_rfl) (by simp) ?_
                    refine (AllReadyH.cons rfl (fun K hK => ?_) AllReadyH.nil)
                    · go_simp
                      refine hK.out _ _ (HSS.out.alloc HSS.out.size _) (fun hHeld => ?_)
                      clear hK K
                      (try simp only [Act.put, List.setIfInBounds_toArray, List.set_cons_zero, List.set_cons_succ])
                      have HSS2 := Lib.hid (HSS.out.alloc HSS.out.size (.cells #[.int .i64 0, .int .u64 0, .int .u64 0, .int .u64 0, .string ⟨#[]⟩, .string ⟨#[]⟩, .int .i64 0, .slice none 0 0, .slice none 0 0] 26))
                      have HQ16 := Lib.hid HSS.out.size
                      have G16 := Lib.hid (heap_alloc_new W5_12 (.cells #[.int .i64 0, .int .u64 0, .int .u64 0, .int .u64 0, .string ⟨#[]⟩, .string ⟨#[]⟩, .int .i64 0, .slice none 0 0, .slice none 0 0] 26))
                      clear HSS
                      generalize W5_12.alloc (.cells #[.int .i64 0, .int .u64 0, .int .u64 0, .int .u64 0, .string ⟨#[]⟩, .string ⟨#[]⟩, .int .i64 0, .slice none 0 0, .slice none 0 0] 26) = W6_16 at *
                      generalize W5_12.heap.size = q16 at *
                      have HSS := HSS2
                      clear HSS2
                      have z9 := G16.out
                      have z0 : W6_16.cell? ⟨q16, 0, none⟩ = some (.int .i64 0) := (block_cell z9 _).trans rfl
                      have f0 : W6_16.frozen? ⟨q16, 0, none⟩ = false := block_frozen z9 0
                      have z1 : W6_16.cell? ⟨q16, 1, none⟩ = some (.int .u64 0) := (block_cell z9 _).trans rfl
                      have f1 : W6_16.frozen? ⟨q16, 1, none⟩ = false := block_frozen z9 1
                      have z2 : W6_16.cell? ⟨q16, 2, none⟩ = some (.int .u64 0) := (block_cell z9 _).trans rfl
                      have f2 : W6_16.frozen? ⟨q16, 2, none⟩ = false := block_frozen z9 2
                      have z3 : W6_16.cell? ⟨q16, 3, none⟩ = some (.int .u64 0) := (block_cell z9 _).trans rfl
                      have f3 : W6_16.frozen? ⟨q16, 3, none⟩ = false := block_frozen z9 3
                      have z4 : W6_16.cell? ⟨q16, 4, none⟩ = some (.string ⟨#[]⟩) := (block_cell z9 _).trans rfl
                      have f4 : W6_16.frozen? ⟨q16, 4, none⟩ = false := block_frozen z9 4
                      have z5 : W6_16.cell? ⟨q16, 5, none⟩ = some (.string ⟨#[]⟩) := (block_cell z9 _).trans rfl
                      have f5 : W6_16.frozen? ⟨q16, 5, none⟩ = false := block_frozen z9 5
                      have z6 : W6_16.cell? ⟨q16, 6, none⟩ = some (.int .i64 0) := (block_cell z9 _).trans rfl
                      have f6 : W6_16.frozen? ⟨q16, 6, none⟩ = false := block_frozen z9 6
                      have z7 : W6_16.cell? ⟨q16, 7, none⟩ = some (.slice none 0 0) := (block_cell z9 _).trans rfl
                      have f7 : W6_16.frozen? ⟨q16, 7, none⟩ = false := block_frozen z9 7
                      have z8 : W6_16.cell? ⟨q16, 8, none⟩ = some (.slice none 0 0) := (block_cell z9 _).trans rfl
                      have f8 : W6_16.frozen? ⟨q16, 8, none⟩ = false := block_frozen z9 8
                      refine wpAnyH_ready (rs := [17]) (by kernel_rfl) (by simp) ?_
                      refine AllReadyH.cons rfl (fun K hK => ?_) ?_
                      rotate_left 1
                      · exact AllReadyH.nil
                      go_simp
                      refine hK.out _ _ (below_nine HSS.out HQ16.out _ _ _ _ _ _ _ _ _) (fun hHeld => ?_)
                      clear hK K
                      (try simp only [Act.put, List.setIfInBounds_toArray, List.set_cons_zero, List.set_cons_succ])
                      refine wpAnyH_ready (rs := [18]) (by kernel_rfl) (by simp) ?_
                      refine AllReadyH.cons rfl (fun K hK => ?_) ?_
                      rotate_left 1
                      · exact AllReadyH.nil
                      go_simp
                      refine hK.out _ _ hHeld (fun _ => ?_)
                      clear hK K
                      (try simp only [Act.put, List.setIfInBounds_toArray, List.set_cons_zero, List.set_cons_succ])
                      refine wpAnyH_done (by kernel_rfl) ?_ _
                      go_wp2_with fail
                      go_meet
                      exact ⟨rfl, hHeld⟩
                  · go_simp
                    refine hK.out _ _ (HSS.out.alloc HSS.out.size _) (fun hHeld => ?_)
                    clear hK K
                    (try simp only [Act.put, List.setIfInBounds_toArray, List.set_cons_zero, List.set_cons_succ])
                    have HSS2 := Lib.hid (HSS.out.alloc HSS.out.size (.cells #[.int .i64 0, .int .u64 0, .int .u64 0, .int .u64 0, .string ⟨#[]⟩, .string ⟨#[]⟩, .int .i64 0, .slice none 0 0, .slice none 0 0] 26))
                    have HQ16 := Lib.hid HSS.out.size
                    have HII2 := Lib.hid (HII.out.on ((Below.refl _ _).alloc (Nat.le_refl _) (.cells #[.int .i64 0, .int .u64 0, .int .u64 0, .int .u64 0, .string ⟨#[]⟩, .string ⟨#[]⟩, .int .i64 0, .slice none 0 0, .slice none 0 0] 26)))
                    have G16 := Lib.hid (heap_alloc_new W4_11 (.cells #[.int .i64 0, .int .u64 0, .int .u64 0, .int .u64 0, .string ⟨#[]⟩, .string ⟨#[]⟩, .int .i64 0, .slice none 0 0, .slice none 0 0] 26))
                    clear HSS HII
                    generalize W4_11.alloc (.cells #[.int .i64 0, .int .u64 0, .int .u64 0, .int .u64 0, .string ⟨#[]⟩, .string ⟨#[]⟩, .int .i64 0, .slice none 0 0, .slice none 0 0] 26) = W5_16 at *
                    generalize W4_11.heap.size = q16 at *
                    have HSS := HSS2
                    have HII := HII2
                    clear HSS2 HII2
                    refine wpAnyH_ready (rs := [12]) (by kernel_rfl) (by simp) ?_
                    refine (AllReadyH.cons rfl (fun K hK => ?_) AllReadyH.nil)
                    · go_simp
                      go_at_call 9
                      (with_reducible refine (cG2.out _ HSS.out A55 c55 HII.out).mono ?_)
                      rintro e W8_12 ⟨rfl, B7⟩
                      go_wp2_with fail
                      have HSS2 := Lib.hid (low17 HSS.out B7)
                      refine hK.out _ _ HSS2.out (fun hHeld => ?_)
                      clear hK K
                      (try simp only [Act.put, List.setIfInBounds_toArray, List.set_cons_zero, List.set_cons_succ])
                      have G162 := Lib.hid ((B7.block _ (block_lt G16.out)).trans G16.out)
                      clear HSS HII B7 G16
                      have HSS := HSS2
                      have G16 := G162
                      clear HSS2 G162
                      refine wpAnyH_take (i := 13) (v := ?_) rfl (by kernel_rfl) (by kernel_rfl) (by kernel_rfl) (fun _ _ _ h => h) (Or.inl ⟨by rfl, ?_⟩) (by assumption) ?_
                      rotate_left 1
                      · intro V hSw
                        (try dsimp only at hSw)
                        go_simp
                        (try with_reducible rfl)
                      (try simp only [Act.put, List.setIfInBounds_toArray])
                      refine wpAnyH_take (i := 14) (v := ?_) rfl (by kernel_rfl) (by kernel_rfl) (by kernel_rfl) (fun _ _ _ h => h) (Or.inl ⟨by rfl, ?_⟩) (by assumption) ?_
                      rotate_left 1
                      · intro V hSw
                        (try dsimp only at hSw)
                        go_simp
                        (try with_reducible rfl)
                      (try simp only [Act.put])
                      refine wpAnyH_take (i := 15) (v := ?_) rfl (by kernel_rfl) (by kernel_rfl) (by kernel_rfl) (fun _ _ _ h => h) (Or.inl ⟨by rfl, ?_⟩) (by assumption) ?_
                      rotate_left 1
                      · intro V hSw
                        (try dsimp only at hSw)
                        go_simp
                        (try with_reducible rfl)
                      (try simp only [Act.put])
                      have z9 := G16.out
                      have z0 : W8_12.cell? ⟨q16, 0, none⟩ = some (.int .i64 0) := (block_cell z9 _).trans rfl
                      have f0 : W8_12.frozen? ⟨q16, 0, none⟩ = false := block_frozen z9 0
                      have z1 : W8_12.cell? ⟨q16, 1, none⟩ = some (.int .u64 0) := (block_cell z9 _).trans rfl
                      have f1 : W8_12.frozen? ⟨q16, 1, none⟩ = false := block_frozen z9 1
                      have z2 : W8_12.cell? ⟨q16, 2, none⟩ = some (.int .u64 0) := (block_cell z9 _).trans rfl
                      have f2 : W8_12.frozen? ⟨q16, 2, none⟩ = false := block_frozen z9 2
                      have z3 : W8_12.cell? ⟨q16, 3, none⟩ = some (.int .u64 0) := (block_cell z9 _).trans rfl
                      have f3 : W8_12.frozen? ⟨q16, 3, none⟩ = false := block_frozen z9 3
                      have z4 : W8_12.cell? ⟨q16, 4, none⟩ = some (.string ⟨#[]⟩) := (block_cell z9 _).trans rfl
                      have f4 : W8_12.frozen? ⟨q16, 4, none⟩ = false := block_frozen z9 4
                      have z5 : W8_12.cell? ⟨q16, 5, none⟩ = some (.string ⟨#[]⟩) := (block_cell z9 _).trans rfl
                      have f5 : W8_12.frozen? ⟨q16, 5, none⟩ = false := block_frozen z9 5
                      have z6 : W8_12.cell? ⟨q16, 6, none⟩ = some (.int .i64 0) := (block_cell z9 _).trans rfl
                      have f6 : W8_12.frozen? ⟨q16, 6, none⟩ = false := block_frozen z9 6
                      have z7 : W8_12.cell? ⟨q16, 7, none⟩ = some (.slice none 0 0) := (block_cell z9 _).trans rfl
                      have f7 : W8_12.frozen? ⟨q16, 7, none⟩ = false := block_frozen z9 7
                      have z8 : W8_12.cell? ⟨q16, 8, none⟩ = some (.slice none 0 0) := (block_cell z9 _).trans rfl
                      have f8 : W8_12.frozen? ⟨q16, 8, none⟩ = false := block_frozen z9 8
                      refine wpAnyH_ready (rs := [17]) (by kernel_rfl) (by simp) ?_
                      refine AllReadyH.cons rfl (fun K hK => ?_) ?_
                      rotate_left 1
                      · exact AllReadyH.nil
                      go_simp
                      refine hK.out _ _ (below_nine HSS.out HQ16.out _ _ _ _ _ _ _ _ _) (fun hHeld => ?_)
                      clear hK K
                      (try simp only [Act.put, List.setIfInBounds_toArray, List.set_cons_zero, List.set_cons_succ])
                      refine wpAnyH_ready (rs := [18]) (by kernel_rfl) (by simp) ?_
                      refine AllReadyH.cons rfl (fun K hK => ?_) ?_
                      rotate_left 1
                      · exact AllReadyH.nil
                      go_simp
                      refine hK.out _ _ hHeld (fun _ => ?_)
                      clear hK K
                      (try simp only [Act.put, List.setIfInBounds_toArray, List.set_cons_zero, List.set_cons_succ])
                      refine wpAnyH_done (by kernel_rfl) ?_ _
                      go_wp2_with fail
                      go_meet
                      exact ⟨rfl, hHeld⟩
                · go_simp
                  refine hK.out _ _ (HSS.out.alloc HSS.out.size _) (fun hHeld => ?_)
                  clear hK K
                  (try simp only [Act.put, List.setIfInBounds_toArray, List.set_cons_zero, List.set_cons_succ])
                  have HSS2 := Lib.hid (HSS.out.alloc HSS.out.size (.cells #[.int .i64 0, .int .u64 0, .int .u64 0, .int .u64 0, .string ⟨#[]⟩, .string ⟨#[]⟩, .int .i64 0, .slice none 0 0, .slice none 0 0] 26))
                  have HQ16 := Lib.hid HSS.out.size
                  have HROW2 := Lib.hid (HROW.out.alloc (.cells #[.int .i64 0, .int .u64 0, .int .u64 0, .int .u64 0, .string ⟨#[]⟩, .string ⟨#[]⟩, .int .i64 0, .slice none 0 0, .slice none 0 0] 26))
                  have NE16 : Hid ((Value.slice A50 n2 c50).ownBlock ≠ some W3_10.heap.size) := fun e => by have := (HROW.out.lt _ e).2; omega
                  have C542 := Lib.hid ((Below.heap_alloc _ (.cells #[.int .i64 0, .int .u64 0, .int .u64 0, .int .u64 0, .string ⟨#[]⟩, .string ⟨#[]⟩, .int .i64 0, .slice none 0 0, .slice none 0 0] 26) _ (block_lt C54.out)).trans C54.out)
                  have G16 := Lib.hid (heap_alloc_new W3_10 (.cells #[.int .i64 0, .int .u64 0, .int .u64 0, .int .u64 0, .string ⟨#[]⟩, .string ⟨#[]⟩, .int .i64 0, .slice none 0 0, .slice none 0 0] 26))
                  clear HSS HROW C54
                  generalize W3_10.alloc (.cells #[.int .i64 0, .int .u64 0, .int .u64 0, .int .u64 0, .string ⟨#[]⟩, .string ⟨#[]⟩, .int .i64 0, .slice none 0 0, .slice none 0 0] 26) = W4_16 at *
                  generalize W3_10.heap.size = q16 at *
                  have HSS := HSS2
                  have HROW := HROW2
                  have C54 := C542
                  clear HSS2 HROW2 C542
                  refine wpAnyH_ready (rs := [11]) (by kernel_rfl) (by simp) ?_
                  refine (AllReadyH.cons rfl (fun K hK => ?_) AllReadyH.nil)
                  · refine step_append_held rfl (.tmp 50) (.tmp 54) 27 rfl wc.heap.size 3 i0' _ 8 Try.underlying27 HI0.out HZ.out H1.out H2.out rfl _ n2 (intCells r) rfl HROW.out (some ⟨q54, 0, none⟩) 1 1 [.int .i64 (ln : Int)] rfl rfl (fun _ => ⟨_, rfl, World.news_of_block (cs := #[.int .i64 (ln : Int)]) (t := 3) (fr := (0, 0)) C54.out⟩) (O1 _ rfl) M2b M3b HSS.out.size ?_
                    intro A55 c55 W10_11 ho hg hat
                    have HSS2 := Lib.hid (HSS.out.grown hg HSS.out.size (fun z hz => (HROW.out.lt z hz).1))
                    refine hK.out _ _ HSS2.out (fun hHeld => ?_)
                    clear hK K
                    (try simp only [Act.put, List.setIfInBounds_toArray])
                    have HII : Hid (Ints W10_11 (· < W10_11.heap.size) A55 (n2 + 1) (r ++ [(ln : Int)])) := own_ints (by unfold intCells; rw [List.map_append]; exact ho.out)
                    have G162 := Lib.hid ((hg.block q16 (block_lt G16.out) (fun e => NE16.out e.symm)).trans G16.out)
                    clear HSS HROW hg hat C54 NE54 G16 NE16 ho
                    have HSS := HSS2
                    have G16 := G162
                    clear HSS2 G162
                    refine wpAnyH_ready (rs := [12]) (by kernel_rfl) (by simp) ?_
                    refine (AllReadyH.cons rfl (fun K hK => ?_) AllReadyH.nil)
                    · go_simp
                      go_at_call 9
                      (with_reducible refine (cG2.out _ HSS.out A55 c55 HII.out).mono ?_)
                      rintro e W11_12 ⟨rfl, B7⟩
                      go_wp2_with fail
                      have HSS2 := Lib.hid (low17 HSS.out B7)
                      refine hK.out _ _ HSS2.out (fun hHeld => ?_)
                      clear hK K
                      (try simp only [Act.put, List.setIfInBounds_toArray, List.set_cons_zero, List.set_cons_succ])
                      have G162 := Lib.hid ((B7.block _ (block_lt G16.out)).trans G16.out)
                      clear HSS HII B7 G16
                      have HSS := HSS2
                      have G16 := G162
                      clear HSS2 G162
                      refine wpAnyH_take (i := 13) (v := ?_) rfl (by kernel_rfl) (by kernel_rfl) (by kernel_rfl) (fun _ _ _ h => h) (Or.inl ⟨by rfl, ?_⟩) (by assumption) ?_
                      rotate_left 1
                      · intro V hSw
                        (try dsimp only at hSw)
                        go_simp
                        (try with_reducible rfl)
                      (try simp only [Act.put, List.setIfInBounds_toArray])
                      refine wpAnyH_take (i := 14) (v := ?_) rfl (by kernel_rfl) (by kernel_rfl) (by kernel_rfl) (fun _ _ _ h => h) (Or.inl ⟨by rfl, ?_⟩) (by assumption) ?_
                      rotate_left 1
                      · intro V hSw
                        (try dsimp only at hSw)
                        go_simp
                        (try with_reducible rfl)
                      (try simp only [Act.put])
                      refine wpAnyH_take (i := 15) (v := ?_) rfl (by kernel_rfl) (by kernel_rfl) (by kernel_rfl) (fun _ _ _ h => h) (Or.inl ⟨by rfl, ?_⟩) (by assumption) ?_
                      rotate_left 1
                      · intro V hSw
                        (try dsimp only at hSw)
                        go_simp
                        (try with_reducible rfl)
                      (try simp only [Act.put])
                      have z9 := G16.out
                      have z0 : W11_12.cell? ⟨q16, 0, none⟩ = some (.int .i64 0) := (block_cell z9 _).trans rfl
                      have f0 : W11_12.frozen? ⟨q16, 0, none⟩ = false := block_frozen z9 0
                      have z1 : W11_12.cell? ⟨q16, 1, none⟩ = some (.int .u64 0) := (block_cell z9 _).trans rfl
                      have f1 : W11_12.frozen? ⟨q16, 1, none⟩ = false := block_frozen z9 1
                      have z2 : W11_12.cell? ⟨q16, 2, none⟩ = some (.int .u64 0) := (block_cell z9 _).trans rfl
                      have f2 : W11_12.frozen? ⟨q16, 2, none⟩ = false := block_frozen z9 2
                      have z3 : W11_12.cell? ⟨q16, 3, none⟩ = some (.int .u64 0) := (block_cell z9 _).trans rfl
                      have f3 : W11_12.frozen? ⟨q16, 3, none⟩ = false := block_frozen z9 3
                      have z4 : W11_12.cell? ⟨q16, 4, none⟩ = some (.string ⟨#[]⟩) := (block_cell z9 _).trans rfl
                      have f4 : W11_12.frozen? ⟨q16, 4, none⟩ = false := block_frozen z9 4
                      have z5 : W11_12.cell? ⟨q16, 5, none⟩ = some (.string ⟨#[]⟩) := (block_cell z9 _).trans rfl
                      have f5 : W11_12.frozen? ⟨q16, 5, none⟩ = false := block_frozen z9 5
                      have z6 : W11_12.cell? ⟨q16, 6, none⟩ = some (.int .i64 0) := (block_cell z9 _).trans rfl
                      have f6 : W11_12.frozen? ⟨q16, 6, none⟩ = false := block_frozen z9 6
                      have z7 : W11_12.cell? ⟨q16, 7, none⟩ = some (.slice none 0 0) := (block_cell z9 _).trans rfl
                      have f7 : W11_12.frozen? ⟨q16, 7, none⟩ = false := block_frozen z9 7
                      have z8 : W11_12.cell? ⟨q16, 8, none⟩ = some (.slice none 0 0) := (block_cell z9 _).trans rfl
                      have f8 : W11_12.frozen? ⟨q16, 8, none⟩ = false := block_frozen z9 8
                      refine wpAnyH_ready (rs := [17]) (by kernel_rfl) (by simp) ?_
                      refine AllReadyH.cons rfl (fun K hK => ?_) ?_
                      rotate_left 1
                      · exact AllReadyH.nil
                      go_simp
                      refine hK.out _ _ (below_nine HSS.out HQ16.out _ _ _ _ _ _ _ _ _) (fun hHeld => ?_)
                      clear hK K
                      (try simp only [Act.put, List.setIfInBounds_toArray, List.set_cons_zero, List.set_cons_succ])
                      refine wpAnyH_ready (rs := [18]) (by kernel_rfl) (by simp) ?_
                      refine AllReadyH.cons rfl (fun K hK => ?_) ?_
                      rotate_left 1
                      · exact AllReadyH.nil
                      go_simp
                      refine hK.out _ _ hHeld (fun _ => ?_)
                      clear hK K
                      (try simp only [Act.put, List.setIfInBounds_toArray, List.set_cons_zero, List.set_cons_succ])
                      refine wpAnyH_done (by kernel_rfl) ?_ _
                      go_wp2_with fail
                      go_meet
                      exact ⟨rfl, hHeld⟩
              · go_simp
                refine hK.out _ _ (HSS.out.alloc HSS.out.size _) (fun hHeld => ?_)
                clear hK K
                (try simp only [Act.put, List.setIfInBounds_toArray, List.set_cons_zero, List.set_cons_succ])
                have HSS2 := Lib.hid (HSS.out.alloc HSS.out.size (.cells #[.int .i64 0, .int .u64 0, .int .u64 0, .int .u64 0, .string ⟨#[]⟩, .string ⟨#[]⟩, .int .i64 0, .slice none 0 0, .slice none 0 0] 26))
                have HQ16 := Lib.hid HSS.out.size
                have HROW2 := Lib.hid (HROW.out.alloc (.cells #[.int .i64 0, .int .u64 0, .int .u64 0, .int .u64 0, .string ⟨#[]⟩, .string ⟨#[]⟩, .int .i64 0, .slice none 0 0, .slice none 0 0] 26))
                have NE16 : Hid ((Value.slice A50 n2 c50).ownBlock ≠ some W2_6.heap.size) := fun e => by have := (HROW.out.lt _ e).2; omega
                have G16 := Lib.hid (heap_alloc_new W2_6 (.cells #[.int .i64 0, .int .u64 0, .int .u64 0, .int .u64 0, .string ⟨#[]⟩, .string ⟨#[]⟩, .int .i64 0, .slice none 0 0, .slice none 0 0] 26))
                clear HSS HROW
                generalize W2_6.alloc (.cells #[.int .i64 0, .int .u64 0, .int .u64 0, .int .u64 0, .string ⟨#[]⟩, .string ⟨#[]⟩, .int .i64 0, .slice none 0 0, .slice none 0 0] 26) = W3_16 at *
                generalize W2_6.heap.size = q16 at *
                have HSS := HSS2
                have HROW := HROW2
                clear HSS2 HROW2
                refine wpAnyH_ready (rs := [10]) (by kernel_rfl) (by simp) ?_
                refine (AllReadyH.cons rfl (fun K hK => ?_) AllReadyH.nil)
                · go_simp
                  refine hK.out _ _ (HSS.out.alloc HSS.out.size _) (fun hHeld => ?_)
                  clear hK K
                  (try simp only [Act.put, List.setIfInBounds_toArray, List.set_cons_zero, List.set_cons_succ])
                  have HSS2 := Lib.hid (HSS.out.alloc HSS.out.size (.cells #[.int .i64 (ln : Int)] 3))
                  have HQ54 := Lib.hid HSS.out.size
                  have HROW2 := Lib.hid (HROW.out.alloc (.cells #[.int .i64 (ln : Int)] 3))
                  have NE54 : Hid ((Value.slice A50 n2 c50).ownBlock ≠ some W3_16.heap.size) := fun e => by have := (HROW.out.lt _ e).2; omega
                  have G162 := Lib.hid ((Below.heap_alloc _ (.cells #[.int .i64 (ln : Int)] 3) _ (block_lt G16.out)).trans G16.out)
                  have C54 := Lib.hid (heap_alloc_new W3_16 (.cells #[.int .i64 (ln : Int)] 3))
                  clear HSS HROW G16
                  generalize W3_16.alloc (.cells #[.int .i64 (ln : Int)] 3) = W13_10 at *
                  generalize W3_16.heap.size = q54 at *
                  have HSS := HSS2
                  have HROW := HROW2
                  have G16 := G162
                  clear HSS2 HROW2 G162
                  refine wpAnyH_ready (rs := [11]) (by kernel_rfl) (by simp) ?_
                  refine (AllReadyH.cons rfl (fun K hK => ?_) AllReadyH.nil)
                  · refine step_append_held rfl (.tmp 50) (.tmp 54) 27 rfl wc.heap.size 3 i0' _ 8 Try.underlying27 HI0.out HZ.out H1.out H2.out rfl _ n2 (intCells r) rfl HROW.out (some ⟨q54, 0, none⟩) 1 1 [.int .i64 (ln : Int)] rfl rfl (fun _ => ⟨_, rfl, World.news_of_block (cs := #[.int .i64 (ln : Int)]) (t := 3) (fr := (0, 0)) C54.out⟩) (O1 _ rfl) M2b M3b HSS.out.size ?_
                    intro A55 c55 W14_11 ho hg hat
                    have HSS2 := Lib.hid (HSS.out.grown hg HSS.out.size (fun z hz => (HROW.out.lt z hz).1))
                    refine hK.out _ _ HSS2.out (fun hHeld => ?_)
                    clear hK K
                    (try simp only [Act.put, List.setIfInBounds_toArray])
                    have HII : Hid (Ints W14_11 (· < W14_11.heap.size) A55 (n2 + 1) (r ++ [(ln : Int)])) := own_ints (by unfold intCells; rw [List.map_append]; exact ho.out)
                    have G162 := Lib.hid ((hg.block q16 (block_lt G16.out) (fun e => NE16.out e.symm)).trans G16.out)
                    clear HSS HROW hg hat C54 NE54 G16 NE16 ho
                    have HSS := HSS2
                    have G16 := G162
                    clear HSS2 G162
                    refine wpAnyH_ready (rs := [12]) (by kernel_rfl) (by simp) ?_
                    refine (AllReadyH.cons rfl (fun K hK => ?_) AllReadyH.nil)
                    · go_simp
                      go_at_call 9
                      (with_reducible refine (cG2.out _ HSS.out A55 c55 HII.out).mono ?_)
                      rintro e W15_12 ⟨rfl, B7⟩
                      go_wp2_with fail
                      have HSS2 := Lib.hid (low17 HSS.out B7)
                      refine hK.out _ _ HSS2.out (fun hHeld => ?_)
                      clear hK K
                      (try simp only [Act.put, List.setIfInBounds_toArray, List.set_cons_zero, List.set_cons_succ])
                      have G162 := Lib.hid ((B7.block _ (block_lt G16.out)).trans G16.out)
                      clear HSS HII B7 G16
                      have HSS := HSS2
                      have G16 := G162
                      clear HSS2 G162
                      refine wpAnyH_take (i := 13) (v := ?_) rfl (by kernel_rfl) (by kernel_rfl) (by kernel_rfl) (fun _ _ _ h => h) (Or.inl ⟨by rfl, ?_⟩) (by assumption) ?_
                      rotate_left 1
                      · intro V hSw
                        (try dsimp only at hSw)
                        go_simp
                        (try with_reducible rfl)
                      (try simp only [Act.put, List.setIfInBounds_toArray])
                      refine wpAnyH_take (i := 14) (v := ?_) rfl (by kernel_rfl) (by kernel_rfl) (by kernel_rfl) (fun _ _ _ h => h) (Or.inl ⟨by rfl, ?_⟩) (by assumption) ?_
                      rotate_left 1
                      · intro V hSw
                        (try dsimp only at hSw)
                        go_simp
                        (try with_reducible rfl)
                      (try simp only [Act.put])
                      refine wpAnyH_take (i := 15) (v := ?_) rfl (by kernel_rfl) (by kernel_rfl) (by kernel_rfl) (fun _ _ _ h => h) (Or.inl ⟨by rfl, ?_⟩) (by assumption) ?_
                      rotate_left 1
                      · intro V hSw
                        (try dsimp only at hSw)
                        go_simp
                        (try with_reducible rfl)
                      (try simp only [Act.put])
                      have z9 := G16.out
                      have z0 : W15_12.cell? ⟨q16, 0, none⟩ = some (.int .i64 0) := (block_cell z9 _).trans rfl
                      have f0 : W15_12.frozen? ⟨q16, 0, none⟩ = false := block_frozen z9 0
                      have z1 : W15_12.cell? ⟨q16, 1, none⟩ = some (.int .u64 0) := (block_cell z9 _).trans rfl
                      have f1 : W15_12.frozen? ⟨q16, 1, none⟩ = false := block_frozen z9 1
                      have z2 : W15_12.cell? ⟨q16, 2, none⟩ = some (.int .u64 0) := (block_cell z9 _).trans rfl
                      have f2 : W15_12.frozen? ⟨q16, 2, none⟩ = false := block_frozen z9 2
                      have z3 : W15_12.cell? ⟨q16, 3, none⟩ = some (.int .u64 0) := (block_cell z9 _).trans rfl
                      have f3 : W15_12.frozen? ⟨q16, 3, none⟩ = false := block_frozen z9 3
                      have z4 : W15_12.cell? ⟨q16, 4, none⟩ = some (.string ⟨#[]⟩) := (block_cell z9 _).trans rfl
                      have f4 : W15_12.frozen? ⟨q16, 4, none⟩ = false := block_frozen z9 4
                      have z5 : W15_12.cell? ⟨q16, 5, none⟩ = some (.string ⟨#[]⟩) := (block_cell z9 _).trans rfl
                      have f5 : W15_12.frozen? ⟨q16, 5, none⟩ = false := block_frozen z9 5
                      have z6 : W15_12.cell? ⟨q16, 6, none⟩ = some (.int .i64 0) := (block_cell z9 _).trans rfl
                      have f6 : W15_12.frozen? ⟨q16, 6, none⟩ = false := block_frozen z9 6
                      have z7 : W15_12.cell? ⟨q16, 7, none⟩ = some (.slice none 0 0) := (block_cell z9 _).trans rfl
                      have f7 : W15_12.frozen? ⟨q16, 7, none⟩ = false := block_frozen z9 7
                      have z8 : W15_12.cell? ⟨q16, 8, none⟩ = some (.slice none 0 0) := (block_cell z9 _).trans rfl
                      have f8 : W15_12.frozen? ⟨q16, 8, none⟩ = false := block_frozen z9 8
                      refine wpAnyH_ready (rs := [17]) (by kernel_rfl) (by simp) ?_
                      refine AllReadyH.cons rfl (fun K hK => ?_) ?_
                      rotate_left 1
                      · exact AllReadyH.nil
                      go_simp
                      refine hK.out _ _ (below_nine HSS.out HQ16.out _ _ _ _ _ _ _ _ _) (fun hHeld => ?_)
                      clear hK K
                      (try simp only [Act.put, List.setIfInBounds_toArray, List.set_cons_zero, List.set_cons_succ])
                      refine wpAnyH_ready (rs := [18]) (by kernel_rfl) (by simp) ?_
                      refine AllReadyH.cons rfl (fun K hK => ?_) ?_
                      rotate_left 1
                      · exact AllReadyH.nil
                      go_simp
                      refine hK.out _ _ hHeld (fun _ => ?_)
                      clear hK K
                      (try simp only [Act.put, List.setIfInBounds_toArray, List.set_cons_zero, List.set_cons_succ])
                      refine wpAnyH_done (by kernel_rfl) ?_ _
                      go_wp2_with fail
                      go_meet
                      exact ⟨rfl, hHeld⟩
            · go_simp
              refine hK.out _ _ (HSS.out.alloc HSS.out.size _) (fun hHeld => ?_)
              clear hK K
              (try simp only [Act.put, List.setIfInBounds_toArray, List.set_cons_zero, List.set_cons_succ])
              have HSS2 := Lib.hid (HSS.out.alloc HSS.out.size (.cells #[.int .i64 (ln : Int)] 3))
              have HQ54 := Lib.hid HSS.out.size
              have HROW2 := Lib.hid (HROW.out.alloc (.cells #[.int .i64 (ln : Int)] 3))
              have NE54 : Hid ((Value.slice (some ⟨q45, 0, none⟩) 0 0).ownBlock ≠ some W1_1.heap.size) := fun e => by have := (HROW.out.lt _ e).2; omega
              have C54 := Lib.hid (heap_alloc_new W1_1 (.cells #[.int .i64 (ln : Int)] 3))
              clear HSS HROW
              generalize W1_1.alloc (.cells #[.int .i64 (ln : Int)] 3) = W2_10 at *
              generalize W1_1.heap.size = q54 at *
              have HSS := HSS2
              have HROW := HROW2
              clear HSS2 HROW2
              refine wpAnyH_ready (rs := [6, 16]) (by kernel_rfl) (by simp) ?_
              refine (AllReadyH.cons rfl (fun K hK => ?_) (AllReadyH.cons rfl (fun K hK => ?_) AllReadyH.nil))
              · refine step_append_held rfl (.tmp 45) (.tmp 49) 27 rfl wc.heap.size 3 i0' _ 8 Try.underlying27 HI0.out HZ.out H1.out H2.out rfl _ 0 [] rfl HROW.out A2 n2 h2 (intCells r) rfl LR.out (HI3.out.on HSS.out).cellsAt (intCells_one r) M2a M3a HSS.out.size ?_
                intro A50 c50 W17_6 ho hg hat
                have HSS2 := Lib.hid (HSS.out.grown hg HSS.out.size (fun z hz => (HROW.out.lt z hz).1))
                refine hK.out _ _ HSS2.out (fun hHeld => ?_)
                clear hK K
                (try simp only [Act.put, List.setIfInBounds_toArray])
                have HROW2 : Hid (W17_6.ownsRow wc.heap.size 3 1 (.slice A50 n2 c50) n2 (intCells r)) := show World.ownsRow _ _ _ _ _ _ _ from by
                  have := ho.out
                  simpa using this
                have C542 := Lib.hid ((hg.block q54 (block_lt C54.out) (fun e => NE54.out e.symm)).trans C54.out)
                have NE542 : Hid ((Value.slice A50 n2 c50).ownBlock ≠ some q54) := show _ ≠ _ from row_ne hat.out NE54.out (block_lt C54.out)
                clear HSS HROW hg hat C54 NE54 ho
                have HSS := HSS2
                have HROW := HROW2
                have C54 := C542
                have NE54 := NE542
                clear HSS2 HROW2 C542 NE542
                (try simp only [Nat.zero_add])
                refine wpAnyH_ready (rs := [11, 16]) (by kernel_rfl) (by simp) ?_
                refine (AllReadyH.cons rfl (fun K hK => ?_) (AllReadyH.cons rfl (fun K hK => ?_) AllReadyH.nil))
                · refine step_append_held rfl (.tmp 50) (.tmp 54) 27 rfl wc.heap.size 3 i0' _ 8 Try.underlying27 HI0.out HZ.out H1.out H2.out rfl _ n2 (intCells r) rfl HROW.out (some ⟨q54, 0, none⟩) 1 1 [.int .i64 (ln : Int)] rfl rfl (fun _ => ⟨_, rfl, World.news_of_block (cs := #[.int .i64 (ln : Int)]) (t := 3) (fr := (0, 0)) C54.out⟩) (O1 _ rfl) M2b M3b HSS.out.size ?_
                  intro A55 c55 W18_11 ho hg hat
                  have HSS2 := Lib.hid (HSS.out.grown hg HSS.out.size (fun z hz => (HROW.out.lt z hz).1))
                  refine hK.out _ _ HSS2.out (fun hHeld => ?_)
                  clear hK K
                  (try simp only [Act.put])
                  have HII : Hid (Ints W18_11 (· < W18_11.heap.size) A55 (n2 + 1) (r ++ [(ln : Int)])) := own_ints (by unfold intCells; rw [List.map_append]; exact ho.out)
                  clear HSS HROW hg hat C54 NE54 ho
                  have HSS := HSS2
                  clear HSS2
                  refine wpAnyH_ready (rs := [12, 16]) (by kernel_rfl) (by simp) ?_
                  refine (AllReadyH.cons rfl (fun K hK => ?_) (AllReadyH.cons rfl (fun K hK => ?_) AllReadyH.nil))
                  · go_simp
                    go_at_call 9
                    (with_reducible refine (cG2.out _ HSS.out A55 c55 HII.out).mono ?_)
                    rintro e W19_12 ⟨rfl, B7⟩
                    go_wp2_with fail
                    have HSS2 := Lib.hid (low17 HSS.out B7)
                    refine hK.out _ _ HSS2.out (fun hHeld => ?_)
                    clear hK K
                    (try simp only [Act.put, List.setIfInBounds_toArray, List.set_cons_zero, List.set_cons_succ])
                    clear HSS HII B7
                    have HSS := HSS2
                    clear HSS2
                    refine wpAnyH_take (i := 13) (v := ?_) rfl (by kernel_rfl) (by kernel_rfl) (by kernel_rfl) (fun _ _ _ h => h) (Or.inl ⟨by rfl, ?_⟩) (by assumption) ?_
                    rotate_left 1
                    · intro V hSw
                      (try dsimp only at hSw)
                      go_simp
                      (try with_reducible rfl)
                    (try simp only [Act.put, List.setIfInBounds_toArray])
                    refine wpAnyH_take (i := 14) (v := ?_) rfl (by kernel_rfl) (by kernel_rfl) (by kernel_rfl) (fun _ _ _ h => h) (Or.inl ⟨by rfl, ?_⟩) (by assumption) ?_
                    rotate_left 1
                    · intro V hSw
                      (try dsimp only at hSw)
                      go_simp
                      (try with_reducible rfl)
                    (try simp only [Act.put])
                    refine wpAnyH_take (i := 15) (v := ?_) rfl (by kernel_rfl) (by kernel_rfl) (by kernel_rfl) (fun _ _ _ h => h) (Or.inl ⟨by rfl, ?_⟩) (by assumption) ?_
                    rotate_left 1
                    · intro V hSw
                      (try dsimp only at hSw)
                      go_simp
                      (try with_reducible rfl)
                    (try simp only [Act.put])
                    refine wpAnyH_ready (rs := [16]) (by kernel_rfl) (by simp) ?_
                    refine (AllReadyH.cons rfl (fun K hK => ?_) AllReadyH.nil)
                    · go_simp
                      refine hK.out _ _ (HSS.out.alloc HSS.out.size _) (fun hHeld => ?_)
                      clear hK K
                      (try simp only [Act.put, List.setIfInBounds_toArray, List.set_cons_zero, List.set_cons_succ])
                      have HSS2 := Lib.hid (HSS.out.alloc HSS.out.size (.cells #[.int .i64 0, .int .u64 0, .int .u64 0, .int .u64 0, .string ⟨#[]⟩, .string ⟨#[]⟩, .int .i64 0, .slice none 0 0, .slice none 0 0] 26))
                      have HQ16 := Lib.hid HSS.out.size
                      have G16 := Lib.hid (heap_alloc_new W19_12 (.cells #[.int .i64 0, .int .u64 0, .int .u64 0, .int .u64 0, .string ⟨#[]⟩, .string ⟨#[]⟩, .int .i64 0, .slice none 0 0, .slice none 0 0] 26))
                      clear HSS
                      generalize W19_12.alloc (.cells #[.int .i64 0, .int .u64 0, .int .u64 0, .int .u64 0, .string ⟨#[]⟩, .string ⟨#[]⟩, .int .i64 0, .slice none 0 0, .slice none 0 0] 26) = W20_16 at *
                      generalize W19_12.heap.size = q16 at *
                      have HSS := HSS2
                      clear HSS2
                      have z9 := G16.out
                      have z0 : W20_16.cell? ⟨q16, 0, none⟩ = some (.int .i64 0) := (block_cell z9 _).trans rfl
                      have f0 : W20_16.frozen? ⟨q16, 0, none⟩ = false := block_frozen z9 0
                      have z1 : W20_16.cell? ⟨q16, 1, none⟩ = some (.int .u64 0) := (block_cell z9 _).trans rfl
                      have f1 : W20_16.frozen? ⟨q16, 1, none⟩ = false := block_frozen z9 1
                      have z2 : W20_16.cell? ⟨q16, 2, none⟩ = some (.int .u64 0) := (block_cell z9 _).trans rfl
                      have f2 : W20_16.frozen? ⟨q16, 2, none⟩ = false := block_frozen z9 2
                      have z3 : W20_16.cell? ⟨q16, 3, none⟩ = some (.int .u64 0) := (block_cell z9 _).trans rfl
                      have f3 : W20_16.frozen? ⟨q16, 3, none⟩ = false := block_frozen z9 3
                      have z4 : W20_16.cell? ⟨q16, 4, none⟩ = some (.string ⟨#[]⟩) := (block_cell z9 _).trans rfl
                      have f4 : W20_16.frozen? ⟨q16, 4, none⟩ = false := block_frozen z9 4
                      have z5 : W20_16.cell? ⟨q16, 5, none⟩ = some (.string ⟨#[]⟩) := (block_cell z9 _).trans rfl
                      have f5 : W20_16.frozen? ⟨q16, 5, none⟩ = false := block_frozen z9 5
                      have z6 : W20_16.cell? ⟨q16, 6, none⟩ = some (.int .i64 0) := (block_cell z9 _).trans rfl
                      have f6 : W20_16.frozen? ⟨q16, 6, none⟩ = false := block_frozen z9 6
                      have z7 : W20_16.cell? ⟨q16, 7, none⟩ = some (.slice none 0 0) := (block_cell z9 _).trans rfl
                      have f7 : W20_16.frozen? ⟨q16, 7, none⟩ = false := block_frozen z9 7
                      have z8 : W20_16.cell? ⟨q16, 8, none⟩ = some (.slice none 0 0) := (block_cell z9 _).trans rfl
                      have f8 : W20_16.frozen? ⟨q16, 8, none⟩ = false := block_frozen z9 8
                      refine wpAnyH_ready (rs := [17]) (by kernel_rfl) (by simp) ?_
                      refine AllReadyH.cons rfl (fun K hK => ?_) ?_
                      rotate_left 1
                      · exact AllReadyH.nil
                      go_simp
                      refine hK.out _ _ (below_nine HSS.out HQ16.out _ _ _ _ _ _ _ _ _) (fun hHeld => ?_)
                      clear hK K
                      (try simp only [Act.put, List.setIfInBounds_toArray, List.set_cons_zero, List.set_cons_succ])
                      refine wpAnyH_ready (rs := [18]) (by kernel_rfl) (by simp) ?_
                      refine AllReadyH.cons rfl (fun K hK => ?_) ?_
                      rotate_left 1
                      · exact AllReadyH.nil
                      go_simp
                      refine hK.out _ _ hHeld (fun _ => ?_)
                      clear hK K
                      (try simp only [Act.put, List.setIfInBounds_toArray, List.set_cons_zero, List.set_cons_succ])
                      refine wpAnyH_done (by kernel_rfl) ?_ _
                      go_wp2_with fail
                      go_meet
                      exact ⟨rfl, hHeld⟩
                  · go_simp
                    refine hK.out _ _ (HSS.out.alloc HSS.out.size _) (fun hHeld => ?_)
                    clear hK K
                    (try simp only [Act.put, List.setIfInBounds_toArray, List.set_cons_zero, List.set_cons_succ])
                    have HSS2 := Lib.hid (HSS.out.alloc HSS.out.size (.cells #[.int .i64 0, .int .u64 0, .int .u64 0, .int .u64 0, .string ⟨#[]⟩, .string ⟨#[]⟩, .int .i64 0, .slice none 0 0, .slice none 0 0] 26))
                    have HQ16 := Lib.hid HSS.out.size
                    have HII2 := Lib.hid (HII.out.on ((Below.refl _ _).alloc (Nat.le_refl _) (.cells #[.int .i64 0, .int .u64 0, .int .u64 0, .int .u64 0, .string ⟨#[]⟩, .string ⟨#[]⟩, .int .i64 0, .slice none 0 0, .slice none 0 0] 26)))
                    have G16 := Lib.hid (heap_alloc_new W18_11 (.cells #[.int .i64 0, .int .u64 0, .int .u64 0, .int .u64 0, .string ⟨#[]⟩, .string ⟨#[]⟩, .int .i64 0, .slice none 0 0, .slice none 0 0] 26))
                    clear HSS HII
                    generalize W18_11.alloc (.cells #[.int .i64 0, .int .u64 0, .int .u64 0, .int .u64 0, .string ⟨#[]⟩, .string ⟨#[]⟩, .int .i64 0, .slice none 0 0, .slice none 0 0] 26) = W19_16 at *
                    generalize W18_11.heap.size = q16 at *
                    have HSS := HSS2
                    have HII := HII2
                    clear HSS2 HII2
                    refine wpAnyH_ready (rs := [12]) (by kernel_rfl) (by simp) ?_
                    refine (AllReadyH.cons rfl (fun K hK => ?_) AllReadyH.nil)
                    · go_simp
                      go_at_call 9
                      (with_reducible refine (cG2.out _ HSS.out A55 c55 HII.out).mono ?_)
                      rintro e W22_12 ⟨rfl, B7⟩
                      go_wp2_with fail
                      have HSS2 := Lib.hid (low17 HSS.out B7)
                      refine hK.out _ _ HSS2.out (fun hHeld => ?_)
                      clear hK K
                      (try simp only [Act.put, List.setIfInBounds_toArray, List.set_cons_zero, List.set_cons_succ])
                      have G162 := Lib.hid ((B7.block _ (block_lt G16.out)).trans G16.out)
                      clear HSS HII B7 G16
                      have HSS := HSS2
                      have G16 := G162
                      clear HSS2 G162
                      refine wpAnyH_take (i := 13) (v := ?_) rfl (by kernel_rfl) (by kernel_rfl) (by kernel_rfl) (fun _ _ _ h => h) (Or.inl ⟨by rfl, ?_⟩) (by assumption) ?_
                      rotate_left 1
                      · intro V hSw
                        (try dsimp only at hSw)
                        go_simp
                        (try with_reducible rfl)
                      (try simp only [Act.put, List.setIfInBounds_toArray])
                      refine wpAnyH_take (i := 14) (v := ?_) rfl (by kernel_rfl) (by kernel_rfl) (by kernel_rfl) (fun _ _ _ h => h) (Or.inl ⟨by rfl, ?_⟩) (by assumption) ?_
                      rotate_left 1
                      · intro V hSw
                        (try dsimp only at hSw)
                        go_simp
                        (try with_reducible rfl)
                      (try simp only [Act.put])
                      refine wpAnyH_take (i := 15) (v := ?_) rfl (by kernel_rfl) (by kernel_rfl) (by kernel_rfl) (fun _ _ _ h => h) (Or.inl ⟨by rfl, ?_⟩) (by assumption) ?_
                      rotate_left 1
                      · intro V hSw
                        (try dsimp only at hSw)
                        go_simp
                        (try with_reducible rfl)
                      (try simp only [Act.put])
                      have z9 := G16.out
                      have z0 : W22_12.cell? ⟨q16, 0, none⟩ = some (.int .i64 0) := (block_cell z9 _).trans rfl
                      have f0 : W22_12.frozen? ⟨q16, 0, none⟩ = false := block_frozen z9 0
                      have z1 : W22_12.cell? ⟨q16, 1, none⟩ = some (.int .u64 0) := (block_cell z9 _).trans rfl
                      have f1 : W22_12.frozen? ⟨q16, 1, none⟩ = false := block_frozen z9 1
                      have z2 : W22_12.cell? ⟨q16, 2, none⟩ = some (.int .u64 0) := (block_cell z9 _).trans rfl
                      have f2 : W22_12.frozen? ⟨q16, 2, none⟩ = false := block_frozen z9 2
                      have z3 : W22_12.cell? ⟨q16, 3, none⟩ = some (.int .u64 0) := (block_cell z9 _).trans rfl
                      have f3 : W22_12.frozen? ⟨q16, 3, none⟩ = false := block_frozen z9 3
                      have z4 : W22_12.cell? ⟨q16, 4, none⟩ = some (.string ⟨#[]⟩) := (block_cell z9 _).trans rfl
                      have f4 : W22_12.frozen? ⟨q16, 4, none⟩ = false := block_frozen z9 4
                      have z5 : W22_12.cell? ⟨q16, 5, none⟩ = some (.string ⟨#[]⟩) := (block_cell z9 _).trans rfl
                      have f5 : W22_12.frozen? ⟨q16, 5, none⟩ = false := block_frozen z9 5
                      have z6 : W22_12.cell? ⟨q16, 6, none⟩ = some (.int .i64 0) := (block_cell z9 _).trans rfl
                      have f6 : W22_12.frozen? ⟨q16, 6, none⟩ = false := block_frozen z9 6
                      have z7 : W22_12.cell? ⟨q16, 7, none⟩ = some (.slice none 0 0) := (block_cell z9 _).trans rfl
                      have f7 : W22_12.frozen? ⟨q16, 7, none⟩ = false := block_frozen z9 7
                      have z8 : W22_12.cell? ⟨q16, 8, none⟩ = some (.slice none 0 0) := (block_cell z9 _).trans rfl
                      have f8 : W22_12.frozen? ⟨q16, 8, none⟩ = false := block_frozen z9 8
                      refine wpAnyH_ready (rs := [17]) (by kernel_rfl) (by simp) ?_
                      refine AllReadyH.cons rfl (fun K hK => ?_) ?_
                      rotate_left 1
                      · exact AllReadyH.nil
                      go_simp
                      refine hK.out _ _ (below_nine HSS.out HQ16.out _ _ _ _ _ _ _ _ _) (fun hHeld => ?_)
                      clear hK K
                      (try simp only [Act.put, List.setIfInBounds_toArray, List.set_cons_zero, List.set_cons_succ])
                      refine wpAnyH_ready (rs := [18]) (by kernel_rfl) (by simp) ?_
                      refine AllReadyH.cons rfl (fun K hK => ?_) ?_
                      rotate_left 1
                      · exact AllReadyH.nil
                      go_simp
                      refine hK.out _ _ hHeld (fun _ => ?_)
                      clear hK K
                      (try simp only [Act.put, List.setIfInBounds_toArray, List.set_cons_zero, List.set_cons_succ])
                      refine wpAnyH_done (by kernel_rfl) ?_ _
                      go_wp2_with fail
                      go_meet
                      exact ⟨rfl, hHeld⟩
                · go_simp
                  refine hK.out _ _ (HSS.out.alloc HSS.out.size _) (fun hHeld => ?_)
                  clear hK K
                  (try simp only [Act.put, List.setIfInBounds_toArray, List.set_cons_zero, List.set_cons_succ])
                  have HSS2 := Lib.hid (HSS.out.alloc HSS.out.size (.cells #[.int .i64 0, .int .u64 0, .int .u64 0, .int .u64 0, .string ⟨#[]⟩, .string ⟨#[]⟩, .int .i64 0, .slice none 0 0, .slice none 0 0] 26))
                  have HQ16 := Lib.hid HSS.out.size
                  have HROW2 := Lib.hid (HROW.out.alloc (.cells #[.int .i64 0, .int .u64 0, .int .u64 0, .int .u64 0, .string ⟨#[]⟩, .string ⟨#[]⟩, .int .i64 0, .slice none 0 0, .slice none 0 0] 26))
                  have NE16 : Hid ((Value.slice A50 n2 c50).ownBlock ≠ some W17_6.heap.size) := fun e => by have := (HROW.out.lt _ e).2; omega
                  have C542 := Lib.hid ((Below.heap_alloc _ (.cells #[.int .i64 0, .int .u64 0, .int .u64 0, .int .u64 0, .string ⟨#[]⟩, .string ⟨#[]⟩, .int .i64 0, .slice none 0 0, .slice none 0 0] 26) _ (block_lt C54.out)).trans C54.out)
                  have G16 := Lib.hid (heap_alloc_new W17_6 (.cells #[.int .i64 0, .int .u64 0, .int .u64 0, .int .u64 0, .string ⟨#[]⟩, .string ⟨#[]⟩, .int .i64 0, .slice none 0 0, .slice none 0 0] 26))
                  clear HSS HROW C54
                  generalize W17_6.alloc (.cells #[.int .i64 0, .int .u64 0, .int .u64 0, .int .u64 0, .string ⟨#[]⟩, .string ⟨#[]⟩, .int .i64 0, .slice none 0 0, .slice none 0 0] 26) = W18_16 at *
                  generalize W17_6.heap.size = q16 at *
                  have HSS := HSS2
                  have HROW := HROW2
                  have C54 := C542
                  clear HSS2 HROW2 C542
                  refine wpAnyH_ready (rs := [11]) (by kernel_rfl) (by simp) ?_
                  refine (AllReadyH.cons rfl (fun K hK => ?_) AllReadyH.nil)
                  · refine step_append_held rfl (.tmp 50) (.tmp 54) 27 rfl wc.heap.size 3 i0' _ 8 Try.underlying27 HI0.out HZ.out H1.out H2.out rfl _ n2 (intCells r) rfl HROW.out (some ⟨q54, 0, none⟩) 1 1 [.int .i64 (ln : Int)] rfl rfl (fun _ => ⟨_, rfl, World.news_of_block (cs := #[.int .i64 (ln : Int)]) (t := 3) (fr := (0, 0)) C54.out⟩) (O1 _ rfl) M2b M3b HSS.out.size ?_
                    intro A55 c55 W24_11 ho hg hat
                    have HSS2 := Lib.hid (HSS.out.grown hg HSS.out.size (fun z hz => (HROW.out.lt z hz).1))
                    refine hK.out _ _ HSS2.out (fun hHeld => ?_)
                    clear hK K
                    (try simp only [Act.put, List.setIfInBounds_toArray])
                    have HII : Hid (Ints W24_11 (· < W24_11.heap.size) A55 (n2 + 1) (r ++ [(ln : Int)])) := own_ints (by unfold intCells; rw [List.map_append]; exact ho.out)
                    have G162 := Lib.hid ((hg.block q16 (block_lt G16.out) (fun e => NE16.out e.symm)).trans G16.out)
                    clear HSS HROW hg hat C54 NE54 G16 NE16 ho
                    have HSS := HSS2
                    have G16 := G162
                    clear HSS2 G162
                    refine wpAnyH_ready (rs := [12]) (by kernel_rfl) (by simp) ?_
                    refine (AllReadyH.cons rfl (fun K hK => ?_) AllReadyH.nil)
                    · go_simp
                      go_at_call 9
                      (with_reducible refine (cG2.out _ HSS.out A55 c55 HII.out).mono ?_)
                      rintro e W25_12 ⟨rfl, B7⟩
                      go_wp2_with fail
                      have HSS2 := Lib.hid (low17 HSS.out B7)
                      refine hK.out _ _ HSS2.out (fun hHeld => ?_)
                      clear hK K
                      (try simp only [Act.put, List.setIfInBounds_toArray, List.set_cons_zero, List.set_cons_succ])
                      have G162 := Lib.hid ((B7.block _ (block_lt G16.out)).trans G16.out)
                      clear HSS HII B7 G16
                      have HSS := HSS2
                      have G16 := G162
                      clear HSS2 G162
                      refine wpAnyH_take (i := 13) (v := ?_) rfl (by kernel_rfl) (by kernel_rfl) (by kernel_rfl) (fun _ _ _ h => h) (Or.inl ⟨by rfl, ?_⟩) (by assumption) ?_
                      rotate_left 1
                      · intro V hSw
                        (try dsimp only at hSw)
                        go_simp
                        (try with_reducible rfl)
                      (try simp only [Act.put, List.setIfInBounds_toArray])
                      refine wpAnyH_take (i := 14) (v := ?_) rfl (by kernel_rfl) (by kernel_rfl) (by kernel_rfl) (fun _ _ _ h => h) (Or.inl ⟨by rfl, ?_⟩) (by assumption) ?_
                      rotate_left 1
                      · intro V hSw
                        (try dsimp only at hSw)
                        go_simp
                        (try with_reducible rfl)
                      (try simp only [Act.put])
                      refine wpAnyH_take (i := 15) (v := ?_) rfl (by kernel_rfl) (by kernel_rfl) (by kernel_rfl) (fun _ _ _ h => h) (Or.inl ⟨by rfl, ?_⟩) (by assumption) ?_
                      rotate_left 1
                      · intro V hSw
                        (try dsimp only at hSw)
                        go_simp
                        (try with_reducible rfl)
                      (try simp only [Act.put])
                      have z9 := G16.out
                      have z0 : W25_12.cell? ⟨q16, 0, none⟩ = some (.int .i64 0) := (block_cell z9 _).trans rfl
                      have f0 : W25_12.frozen? ⟨q16, 0, none⟩ = false := block_frozen z9 0
                      have z1 : W25_12.cell? ⟨q16, 1, none⟩ = some (.int .u64 0) := (block_cell z9 _).trans rfl
                      have f1 : W25_12.frozen? ⟨q16, 1, none⟩ = false := block_frozen z9 1
                      have z2 : W25_12.cell? ⟨q16, 2, none⟩ = some (.int .u64 0) := (block_cell z9 _).trans rfl
                      have f2 : W25_12.frozen? ⟨q16, 2, none⟩ = false := block_frozen z9 2
                      have z3 : W25_12.cell? ⟨q16, 3, none⟩ = some (.int .u64 0) := (block_cell z9 _).trans rfl
                      have f3 : W25_12.frozen? ⟨q16, 3, none⟩ = false := block_frozen z9 3
                      have z4 : W25_12.cell? ⟨q16, 4, none⟩ = some (.string ⟨#[]⟩) := (block_cell z9 _).trans rfl
                      have f4 : W25_12.frozen? ⟨q16, 4, none⟩ = false := block_frozen z9 4
                      have z5 : W25_12.cell? ⟨q16, 5, none⟩ = some (.string ⟨#[]⟩) := (block_cell z9 _).trans rfl
                      have f5 : W25_12.frozen? ⟨q16, 5, none⟩ = false := block_frozen z9 5
                      have z6 : W25_12.cell? ⟨q16, 6, none⟩ = some (.int .i64 0) := (block_cell z9 _).trans rfl
                      have f6 : W25_12.frozen? ⟨q16, 6, none⟩ = false := block_frozen z9 6
                      have z7 : W25_12.cell? ⟨q16, 7, none⟩ = some (.slice none 0 0) := (block_cell z9 _).trans rfl
                      have f7 : W25_12.frozen? ⟨q16, 7, none⟩ = false := block_frozen z9 7
                      have z8 : W25_12.cell? ⟨q16, 8, none⟩ = some (.slice none 0 0) := (block_cell z9 _).trans rfl
                      have f8 : W25_12.frozen? ⟨q16, 8, none⟩ = false := block_frozen z9 8
                      refine wpAnyH_ready (rs := [17]) (by kernel_rfl) (by simp) ?_
                      refine AllReadyH.cons rfl (fun K hK => ?_) ?_
                      rotate_left 1
                      · exact AllReadyH.nil
                      go_simp
                      refine hK.out _ _ (below_nine HSS.out HQ16.out _ _ _ _ _ _ _ _ _) (fun hHeld => ?_)
                      clear hK K
                      (try simp only [Act.put, List.setIfInBounds_toArray, List.set_cons_zero, List.set_cons_succ])
                      refine wpAnyH_ready (rs := [18]) (by kernel_rfl) (by simp) ?_
                      refine AllReadyH.cons rfl (fun K hK => ?_) ?_
                      rotate_left 1
                      · exact AllReadyH.nil
                      go_simp
                      refine hK.out _ _ hHeld (fun _ => ?_)
                      clear hK K
                      (try simp only [Act.put, List.setIfInBounds_toArray, List.set_cons_zero, List.set_cons_succ])
                      refine wpAnyH_done (by kernel_rfl) ?_ _
                      go_wp2_with fail
                      go_meet
                      exact ⟨rfl, hHeld⟩
              · go_simp
                refine hK.out _ _ (HSS.out.alloc HSS.out.size _) (fun hHeld => ?_)
                clear hK K
                (try simp only [Act.put, List.setIfInBounds_toArray, List.set_cons_zero, List.set_cons_succ])
                have HSS2 := Lib.hid (HSS.out.alloc HSS.out.size (.cells #[.int .i64 0, .int .u64 0, .int .u64 0, .int .u64 0, .string ⟨#[]⟩, .string ⟨#[]⟩, .int .i64 0, .slice none 0 0, .slice none 0 0] 26))
                have HQ16 := Lib.hid HSS.out.size
                have HROW2 := Lib.hid (HROW.out.alloc (.cells #[.int .i64 0, .int .u64 0, .int .u64 0, .int .u64 0, .string ⟨#[]⟩, .string ⟨#[]⟩, .int .i64 0, .slice none 0 0, .slice none 0 0] 26))
                have NE16 : Hid ((Value.slice (some ⟨q45, 0, none⟩) 0 0).ownBlock ≠ some W2_10.heap.size) := fun e => by have := (HROW.out.lt _ e).2; omega
                have C542 := Lib.hid ((Below.heap_alloc _ (.cells #[.int .i64 0, .int .u64 0, .int .u64 0, .int .u64 0, .string ⟨#[]⟩, .string ⟨#[]⟩, .int .i64 0, .slice none 0 0, .slice none 0 0] 26) _ (block_lt C54.out)).trans C54.out)
                have G16 := Lib.hid (heap_alloc_new W2_10 (.cells #[.int .i64 0, .int .u64 0, .int .u64 0, .int .u64 0, .string ⟨#[]⟩, .string ⟨#[]⟩, .int .i64 0, .slice none 0 0, .slice none 0 0] 26))
                clear HSS HROW C54
                generalize W2_10.alloc (.cells #[.int .i64 0, .int .u64 0, .int .u64 0, .int .u64 0, .string ⟨#[]⟩, .string ⟨#[]⟩, .int .i64 0, .slice none 0 0, .slice none 0 0] 26) = W17_16 at *
                generalize W2_10.heap.size = q16 at *
                have HSS := HSS2
                have HROW := HROW2
                have C54 := C542
                clear HSS2 HROW2 C542
                refine wpAnyH_ready (rs := [6]) (by kernel_rfl) (by simp) ?_
                refine (AllReadyH.cons rfl (fun K hK => ?_) AllReadyH.nil)
                · refine step_append_held rfl (.tmp 45) (.tmp 49) 27 rfl wc.heap.size 3 i0' _ 8 Try.underlying27 HI0.out HZ.out H1.out H2.out rfl _ 0 [] rfl HROW.out A2 n2 h2 (intCells r) rfl LR.out (HI3.out.on HSS.out).cellsAt (intCells_one r) M2a M3a HSS.out.size ?_
                  intro A50 c50 W27_6 ho hg hat
                  have HSS2 := Lib.hid (HSS.out.grown hg HSS.out.size (fun z hz => (HROW.out.lt z hz).1))
                  refine hK.out _ _ HSS2.out (fun hHeld => ?_)
                  clear hK K
                  (try simp only [Act.put, List.setIfInBounds_toArray])
                  have HROW2 : Hid (W27_6.ownsRow wc.heap.size 3 1 (.slice A50 n2 c50) n2 (intCells r)) := show World.ownsRow _ _ _ _ _ _ _ from by
                    have := ho.out
                    simpa using this
                  have C542 := Lib.hid ((hg.block q54 (block_lt C54.out) (fun e => NE54.out e.symm)).trans C54.out)
                  have NE542 : Hid ((Value.slice A50 n2 c50).ownBlock ≠ some q54) := show _ ≠ _ from row_ne hat.out NE54.out (block_lt C54.out)
                  have G162 := Lib.hid ((hg.block q16 (block_lt G16.out) (fun e => NE16.out e.symm)).trans G16.out)
                  have NE162 : Hid ((Value.slice A50 n2 c50).ownBlock ≠ some q16) := show _ ≠ _ from row_ne hat.out NE16.out (block_lt G16.out)
                  clear HSS HROW hg hat C54 NE54 G16 NE16 ho
                  have HSS := HSS2
                  have HROW := HROW2
                  have C54 := C542
                  have NE54 := NE542
                  have G16 := G162
                  have NE16 := NE162
                  clear HSS2 HROW2 C542 NE542 G162 NE162
                  (try simp only [Nat.zero_add])
                  refine wpAnyH_ready (rs := [11]) (by kernel_rfl) (by simp) ?_
                  refine (AllReadyH.cons rfl (fun K hK => ?_) AllReadyH.nil)
                  · refine step_append_held rfl (.tmp 50) (.tmp 54) 27 rfl wc.heap.size 3 i0' _ 8 Try.underlying27 HI0.out HZ.out H1.out H2.out rfl _ n2 (intCells r) rfl HROW.out (some ⟨q54, 0, none⟩) 1 1 [.int .i64 (ln : Int)] rfl rfl (fun _ => ⟨_, rfl, World.news_of_block (cs := #[.int .i64 (ln : Int)]) (t := 3) (fr := (0, 0)) C54.out⟩) (O1 _ rfl) M2b M3b HSS.out.size ?_
                    intro A55 c55 W28_11 ho hg hat
                    have HSS2 := Lib.hid (HSS.out.grown hg HSS.out.size (fun z hz => (HROW.out.lt z hz).1))
                    refine hK.out _ _ HSS2.out (fun hHeld => ?_)
                    clear hK K
                    (try simp only [Act.put])
                    have HII : Hid (Ints W28_11 (· < W28_11.heap.size) A55 (n2 + 1) (r ++ [(ln : Int)])) := own_ints (by unfold intCells; rw [List.map_append]; exact ho.out)
                    have G162 := Lib.hid ((hg.block q16 (block_lt G16.out) (fun e => NE16.out e.symm)).trans G16.out)
                    clear HSS HROW hg hat C54 NE54 G16 NE16 ho
                    have HSS := HSS2
                    have G16 := G162
                    clear HSS2 G162
                    refine wpAnyH_ready (rs := [12]) (by kernel_rfl) (by simp) ?_
                    refine (AllReadyH.cons rfl (fun K hK => ?_) AllReadyH.nil)
                    · go_simp
                      go_at_call 9
                      (with_reducible refine (cG2.out _ HSS.out A55 c55 HII.out).mono ?_)
                      rintro e W29_12 ⟨rfl, B7⟩
                      go_wp2_with fail
                      have HSS2 := Lib.hid (low17 HSS.out B7)
                      refine hK.out _ _ HSS2.out (fun hHeld => ?_)
                      clear hK K
                      (try simp only [Act.put, List.setIfInBounds_toArray, List.set_cons_zero, List.set_cons_succ])
                      have G162 := Lib.hid ((B7.block _ (block_lt G16.out)).trans G16.out)
                      clear HSS HII B7 G16
                      have HSS := HSS2
                      have G16 := G162
                      clear HSS2 G162
                      refine wpAnyH_take (i := 13) (v := ?_) rfl (by kernel_rfl) (by kernel_rfl) (by kernel_rfl) (fun _ _ _ h => h) (Or.inl ⟨by rfl, ?_⟩) (by assumption) ?_
                      rotate_left 1
                      · intro V hSw
                        (try dsimp only at hSw)
                        go_simp
                        (try with_reducible rfl)
                      (try simp only [Act.put, List.setIfInBounds_toArray])
                      refine wpAnyH_take (i := 14) (v := ?_) rfl (by kernel_rfl) (by kernel_rfl) (by kernel_rfl) (fun _ _ _ h => h) (Or.inl ⟨by rfl, ?_⟩) (by assumption) ?_
                      rotate_left 1
                      · intro V hSw
                        (try dsimp only at hSw)
                        go_simp
                        (try with_reducible rfl)
                      (try simp only [Act.put])
                      refine wpAnyH_take (i := 15) (v := ?_) rfl (by kernel_rfl) (by kernel_rfl) (by kernel_rfl) (fun _ _ _ h => h) (Or.inl ⟨by rfl, ?_⟩) (by assumption) ?_
                      rotate_left 1
                      · intro V hSw
                        (try dsimp only at hSw)
                        go_simp
                        (try with_reducible rfl)
                      (try simp only [Act.put])
                      have z9 := G16.out
                      have z0 : W29_12.cell? ⟨q16, 0, none⟩ = some (.int .i64 0) := (block_cell z9 _).trans rfl
                      have f0 : W29_12.frozen? ⟨q16, 0, none⟩ = false := block_frozen z9 0
                      have z1 : W29_12.cell? ⟨q16, 1, none⟩ = some (.int .u64 0) := (block_cell z9 _).trans rfl
                      have f1 : W29_12.frozen? ⟨q16, 1, none⟩ = false := block_frozen z9 1
                      have z2 : W29_12.cell? ⟨q16, 2, none⟩ = some (.int .u64 0) := (block_cell z9 _).trans rfl
                      have f2 : W29_12.frozen? ⟨q16, 2, none⟩ = false := block_frozen z9 2
                      have z3 : W29_12.cell? ⟨q16, 3, none⟩ = some (.int .u64 0) := (block_cell z9 _).trans rfl
                      have f3 : W29_12.frozen? ⟨q16, 3, none⟩ = false := block_frozen z9 3
                      have z4 : W29_12.cell? ⟨q16, 4, none⟩ = some (.string ⟨#[]⟩) := (block_cell z9 _).trans rfl
                      have f4 : W29_12.frozen? ⟨q16, 4, none⟩ = false := block_frozen z9 4
                      have z5 : W29_12.cell? ⟨q16, 5, none⟩ = some (.string ⟨#[]⟩) := (block_cell z9 _).trans rfl
                      have f5 : W29_12.frozen? ⟨q16, 5, none⟩ = false := block_frozen z9 5
                      have z6 : W29_12.cell? ⟨q16, 6, none⟩ = some (.int .i64 0) := (block_cell z9 _).trans rfl
                      have f6 : W29_12.frozen? ⟨q16, 6, none⟩ = false := block_frozen z9 6
                      have z7 : W29_12.cell? ⟨q16, 7, none⟩ = some (.slice none 0 0) := (block_cell z9 _).trans rfl
                      have f7 : W29_12.frozen? ⟨q16, 7, none⟩ = false := block_frozen z9 7
                      have z8 : W29_12.cell? ⟨q16, 8, none⟩ = some (.slice none 0 0) := (block_cell z9 _).trans rfl
                      have f8 : W29_12.frozen? ⟨q16, 8, none⟩ = false := block_frozen z9 8
                      refine wpAnyH_ready (rs := [17]) (by kernel_rfl) (by simp) ?_
                      refine AllReadyH.cons rfl (fun K hK => ?_) ?_
                      rotate_left 1
                      · exact AllReadyH.nil
                      go_simp
                      refine hK.out _ _ (below_nine HSS.out HQ16.out _ _ _ _ _ _ _ _ _) (fun hHeld => ?_)
                      clear hK K
                      (try simp only [Act.put, List.setIfInBounds_toArray, List.set_cons_zero, List.set_cons_succ])
                      refine wpAnyH_ready (rs := [18]) (by kernel_rfl) (by simp) ?_
                      refine AllReadyH.cons rfl (fun K hK => ?_) ?_
                      rotate_left 1
                      · exact AllReadyH.nil
                      go_simp
                      refine hK.out _ _ hHeld (fun _ => ?_)
                      clear hK K
                      (try simp only [Act.put, List.setIfInBounds_toArray, List.set_cons_zero, List.set_cons_succ])
                      refine wpAnyH_done (by kernel_rfl) ?_ _
                      go_wp2_with fail
                      go_meet
                      exact ⟨rfl, hHeld⟩
            · go_simp
              refine hK.out _ _ (HSS.out.alloc HSS.out.size _) (fun hHeld => ?_)
              clear hK K
              (try simp only [Act.put, List.setIfInBounds_toArray, List.set_cons_zero, List.set_cons_succ])
              have HSS2 := Lib.hid (HSS.out.alloc HSS.out.size (.cells #[.int .i64 0, .int .u64 0, .int .u64 0, .int .u64 0, .string ⟨#[]⟩, .string ⟨#[]⟩, .int .i64 0, .slice none 0 0, .slice none 0 0] 26))
              have HQ16 := Lib.hid HSS.out.size
              have HROW2 := Lib.hid (HROW.out.alloc (.cells #[.int .i64 0, .int .u64 0, .int .u64 0, .int .u64 0, .string ⟨#[]⟩, .string ⟨#[]⟩, .int .i64 0, .slice none 0 0, .slice none 0 0] 26))
              have NE16 : Hid ((Value.slice (some ⟨q45, 0, none⟩) 0 0).ownBlock ≠ some W1_1.heap.size) := fun e => by have := (HROW.out.lt _ e).2; omega
              have G16 := Lib.hid (heap_alloc_new W1_1 (.cells #[.int .i64 0, .int .u64 0, .int .u64 0, .int .u64 0, .string ⟨#[]⟩, .string ⟨#[]⟩, .int .i64 0, .slice none 0 0, .slice none 0 0] 26))
              clear HSS HROW
              generalize W1_1.alloc (.cells #[.int .i64 0, .int .u64 0, .int .u64 0, .int .u64 0, .string ⟨#[]⟩, .string ⟨#[]⟩, .int .i64 0, .slice none 0 0, .slice none 0 0] 26) = W2_16 at *
              generalize W1_1.heap.size = q16 at *
              have HSS := HSS2
              have HROW := HROW2
              clear HSS2 HROW2
              refine wpAnyH_ready (rs := [6, 10]) (by kernel_rfl) (by simp) ?_
              refine (AllReadyH.cons rfl (fun K hK => ?_) (AllReadyH.cons rfl (fun K hK => ?_) AllReadyH.nil))
              · refine step_append_held rfl (.tmp 45) (.tmp 49) 27 rfl wc.heap.size 3 i0' _ 8 Try.underlying27 HI0.out HZ.out H1.out H2.out rfl _ 0 [] rfl HROW.out A2 n2 h2 (intCells r) rfl LR.out (HI3.out.on HSS.out).cellsAt (intCells_one r) M2a M3a HSS.out.size ?_
                intro A50 c50 W31_6 ho hg hat
                have HSS2 := Lib.hid (HSS.out.grown hg HSS.out.size (fun z hz => (HROW.out.lt z hz).1))
                refine hK.out _ _ HSS2.out (fun hHeld => ?_)
                clear hK K
                (try simp only [Act.put, List.setIfInBounds_toArray])
                have HROW2 : Hid (W31_6.ownsRow wc.heap.size 3 1 (.slice A50 n2 c50) n2 (intCells r)) := show World.ownsRow _ _ _ _ _ _ _ from by
                  have := ho.out
                  simpa using this
                have G162 := Lib.hid ((hg.block q16 (block_lt G16.out) (fun e => NE16.out e.symm)).trans G16.out)
                have NE162 : Hid ((Value.slice A50 n2 c50).ownBlock ≠ some q16) := show _ ≠ _ from row_ne hat.out NE16.out (block_lt G16.out)
                clear HSS HROW hg hat G16 NE16 ho
                have HSS := HSS2
                have HROW := HROW2
                have G16 := G162
                have NE16 := NE162
                clear HSS2 HROW2 G162 NE162
                (try simp only [Nat.zero_add])
                refine wpAnyH_ready (rs := [10]) (by kernel_rfl) (by simp) ?_
                refine (AllReadyH.cons rfl (fun K hK => ?_) AllReadyH.nil)
                · go_simp
                  refine hK.out _ _ (HSS.out.alloc HSS.out.size _) (fun hHeld => ?_)
                  clear hK K
                  (try simp only [Act.put, List.setIfInBounds_toArray, List.set_cons_zero, List.set_cons_succ])
                  have HSS2 := Lib.hid (HSS.out.alloc HSS.out.size (.cells #[.int .i64 (ln : Int)] 3))
                  have HQ54 := Lib.hid HSS.out.size
                  have HROW2 := Lib.hid (HROW.out.alloc (.cells #[.int .i64 (ln : Int)] 3))
                  have NE54 : Hid ((Value.slice A50 n2 c50).ownBlock ≠ some W31_6.heap.size) := fun e => by have := (HROW.out.lt _ e).2; omega
                  have G162 := Lib.hid ((Below.heap_alloc _ (.cells #[.int .i64 (ln : Int)] 3) _ (block_lt G16.out)).trans G16.out)
                  have C54 := Lib.hid (heap_alloc_new W31_6 (.cells #[.int .i64 (ln : Int)] 3))
                  clear HSS HROW G16
                  generalize W31_6.alloc (.cells #[.int .i64 (ln : Int)] 3) = W32_10 at *
                  generalize W31_6.heap.size = q54 at *
                  have HSS := HSS2
                  have HROW := HROW2
                  have G16 := G162
                  clear HSS2 HROW2 G162
                  refine wpAnyH_ready (rs := [11]) (by kernel_rfl) (by simp) ?_
                  refine (AllReadyH.cons rfl (fun K hK => ?_) AllReadyH.nil)
                  · refine step_append_held rfl (.tmp 50) (.tmp 54) 27 rfl wc.heap.size 3 i0' _ 8 Try.underlying27 HI0.out HZ.out H1.out H2.out rfl _ n2 (intCells r) rfl HROW.out (some ⟨q54, 0, none⟩) 1 1 [.int .i64 (ln : Int)] rfl rfl (fun _ => ⟨_, rfl, World.news_of_block (cs := #[.int .i64 (ln : Int)]) (t := 3) (fr := (0, 0)) C54.out⟩) (O1 _ rfl) M2b M3b HSS.out.size ?_
                    intro A55 c55 W33_11 ho hg hat
                    have HSS2 := Lib.hid (HSS.out.grown hg HSS.out.size (fun z hz => (HROW.out.lt z hz).1))
                    refine hK.out _ _ HSS2.out (fun hHeld => ?_)
                    clear hK K
                    (try simp only [Act.put, List.setIfInBounds_toArray])
                    have HII : Hid (Ints W33_11 (· < W33_11.heap.size) A55 (n2 + 1) (r ++ [(ln : Int)])) := own_ints (by unfold intCells; rw [List.map_append]; exact ho.out)
                    have G162 := Lib.hid ((hg.block q16 (block_lt G16.out) (fun e => NE16.out e.symm)).trans G16.out)
                    clear HSS HROW hg hat C54 NE54 G16 NE16 ho
                    have HSS := HSS2
                    have G16 := G162
                    clear HSS2 G162
                    refine wpAnyH_ready (rs := [12]) (by kernel_rfl) (by simp) ?_
                    refine (AllReadyH.cons rfl (fun K hK => ?_) AllReadyH.nil)
                    · go_simp
                      go_at_call 9
                      (with_reducible refine (cG2.out _ HSS.out A55 c55 HII.out).mono ?_)
                      rintro e W34_12 ⟨rfl, B7⟩
                      go_wp2_with fail
                      have HSS2 := Lib.hid (low17 HSS.out B7)
                      refine hK.out _ _ HSS2.out (fun hHeld => ?_)
                      clear hK K
                      (try simp only [Act.put, List.setIfInBounds_toArray, List.set_cons_zero, List.set_cons_succ])
                      have G162 := Lib.hid ((B7.block _ (block_lt G16.out)).trans G16.out)
                      clear HSS HII B7 G16
                      have HSS := HSS2
                      have G16 := G162
                      clear HSS2 G162
                      refine wpAnyH_take (i := 13) (v := ?_) rfl (by kernel_rfl) (by kernel_rfl) (by kernel_rfl) (fun _ _ _ h => h) (Or.inl ⟨by rfl, ?_⟩) (by assumption) ?_
                      rotate_left 1
                      · intro V hSw
                        (try dsimp only at hSw)
                        go_simp
                        (try with_reducible rfl)
                      (try simp only [Act.put, List.setIfInBounds_toArray])
                      refine wpAnyH_take (i := 14) (v := ?_) rfl (by kernel_rfl) (by kernel_rfl) (by kernel_rfl) (fun _ _ _ h => h) (Or.inl ⟨by rfl, ?_⟩) (by assumption) ?_
                      rotate_left 1
                      · intro V hSw
                        (try dsimp only at hSw)
                        go_simp
                        (try with_reducible rfl)
                      (try simp only [Act.put])
                      refine wpAnyH_take (i := 15) (v := ?_) rfl (by kernel_rfl) (by kernel_rfl) (by kernel_rfl) (fun _ _ _ h => h) (Or.inl ⟨by rfl, ?_⟩) (by assumption) ?_
                      rotate_left 1
                      · intro V hSw
                        (try dsimp only at hSw)
                        go_simp
                        (try with_reducible rfl)
                      (try simp only [Act.put])
                      have z9 := G16.out
                      have z0 : W34_12.cell? ⟨q16, 0, none⟩ = some (.int .i64 0) := (block_cell z9 _).trans rfl
                      have f0 : W34_12.frozen? ⟨q16, 0, none⟩ = false := block_frozen z9 0
                      have z1 : W34_12.cell? ⟨q16, 1, none⟩ = some (.int .u64 0) := (block_cell z9 _).trans rfl
                      have f1 : W34_12.frozen? ⟨q16, 1, none⟩ = false := block_frozen z9 1
                      have z2 : W34_12.cell? ⟨q16, 2, none⟩ = some (.int .u64 0) := (block_cell z9 _).trans rfl
                      have f2 : W34_12.frozen? ⟨q16, 2, none⟩ = false := block_frozen z9 2
                      have z3 : W34_12.cell? ⟨q16, 3, none⟩ = some (.int .u64 0) := (block_cell z9 _).trans rfl
                      have f3 : W34_12.frozen? ⟨q16, 3, none⟩ = false := block_frozen z9 3
                      have z4 : W34_12.cell? ⟨q16, 4, none⟩ = some (.string ⟨#[]⟩) := (block_cell z9 _).trans rfl
                      have f4 : W34_12.frozen? ⟨q16, 4, none⟩ = false := block_frozen z9 4
                      have z5 : W34_12.cell? ⟨q16, 5, none⟩ = some (.string ⟨#[]⟩) := (block_cell z9 _).trans rfl
                      have f5 : W34_12.frozen? ⟨q16, 5, none⟩ = false := block_frozen z9 5
                      have z6 : W34_12.cell? ⟨q16, 6, none⟩ = some (.int .i64 0) := (block_cell z9 _).trans rfl
                      have f6 : W34_12.frozen? ⟨q16, 6, none⟩ = false := block_frozen z9 6
                      have z7 : W34_12.cell? ⟨q16, 7, none⟩ = some (.slice none 0 0) := (block_cell z9 _).trans rfl
                      have f7 : W34_12.frozen? ⟨q16, 7, none⟩ = false := block_frozen z9 7
                      have z8 : W34_12.cell? ⟨q16, 8, none⟩ = some (.slice none 0 0) := (block_cell z9 _).trans rfl
                      have f8 : W34_12.frozen? ⟨q16, 8, none⟩ = false := block_frozen z9 8
                      refine wpAnyH_ready (rs := [17]) (by kernel_rfl) (by simp) ?_
                      refine AllReadyH.cons rfl (fun K hK => ?_) ?_
                      rotate_left 1
                      · exact AllReadyH.nil
                      go_simp
                      refine hK.out _ _ (below_nine HSS.out HQ16.out _ _ _ _ _ _ _ _ _) (fun hHeld => ?_)
                      clear hK K
                      (try simp only [Act.put, List.setIfInBounds_toArray, List.set_cons_zero, List.set_cons_succ])
                      refine wpAnyH_ready (rs := [18]) (by kernel_rfl) (by simp) ?_
                      refine AllReadyH.cons rfl (fun K hK => ?_) ?_
                      rotate_left 1
                      · exact AllReadyH.nil
                      go_simp
                      refine hK.out _ _ hHeld (fun _ => ?_)
                      clear hK K
                      (try simp only [Act.put, List.setIfInBounds_toArray, List.set_cons_zero, List.set_cons_succ])
                      refine wpAnyH_done (by kernel_rfl) ?_ _
                      go_wp2_with fail
                      go_meet
                      exact ⟨rfl, hHeld⟩
              · go_simp
                refine hK.out _ _ (HSS.out.alloc HSS.out.size _) (fun hHeld => ?_)
                clear hK K
                (try simp only [Act.put, List.setIfInBounds_toArray, List.set_cons_zero, List.set_cons_succ])
                have HSS2 := Lib.hid (HSS.out.alloc HSS.out.size (.cells #[.int .i64 (ln : Int)] 3))
                have HQ54 := Lib.hid HSS.out.size
                have HROW2 := Lib.hid (HROW.out.alloc (.cells #[.int .i64 (ln : Int)] 3))
                have NE54 : Hid ((Value.slice (some ⟨q45, 0, none⟩) 0 0).ownBlock ≠ some W2_16.heap.size) := fun e => by have := (HROW.out.lt _ e).2; omega
                have G162 := Lib.hid ((Below.heap_alloc _ (.cells #[.int .i64 (ln : Int)] 3) _ (block_lt G16.out)).trans G16.out)
                have C54 := Lib.hid (heap_alloc_new W2_16 (.cells #[.int .i64 (ln : Int)] 3))
                clear HSS HROW G16
                generalize W2_16.alloc (.cells #[.int .i64 (ln : Int)] 3) = W31_10 at *
                generalize W2_16.heap.size = q54 at *
                have HSS := HSS2
                have HROW := HROW2
                have G16 := G162
                clear HSS2 HROW2 G162
                refine wpAnyH_ready (rs := [6]) (by kernel_rfl) (by simp) ?_
                refine (AllReadyH.cons rfl (fun K hK => ?_) AllReadyH.nil)
                · refine step_append_held rfl (.tmp 45) (.tmp 49) 27 rfl wc.heap.size 3 i0' _ 8 Try.underlying27 HI0.out HZ.out H1.out H2.out rfl _ 0 [] rfl HROW.out A2 n2 h2 (intCells r) rfl LR.out (HI3.out.on HSS.out).cellsAt (intCells_one r) M2a M3a HSS.out.size ?_
                  intro A50 c50 W36_6 ho hg hat
                  have HSS2 := Lib.hid (HSS.out.grown hg HSS.out.size (fun z hz => (HROW.out.lt z hz).1))
                  refine hK.out _ _ HSS2.out (fun hHeld => ?_)
                  clear hK K
                  (try simp only [Act.put, List.setIfInBounds_toArray])
                  have HROW2 : Hid (W36_6.ownsRow wc.heap.size 3 1 (.slice A50 n2 c50) n2 (intCells r)) := show World.ownsRow _ _ _ _ _ _ _ from by
                    have := ho.out
                    simpa using this
                  have C542 := Lib.hid ((hg.block q54 (block_lt C54.out) (fun e => NE54.out e.symm)).trans C54.out)
                  have NE542 : Hid ((Value.slice A50 n2 c50).ownBlock ≠ some q54) := show _ ≠ _ from row_ne hat.out NE54.out (block_lt C54.out)
                  have G162 := Lib.hid ((hg.block q16 (block_lt G16.out) (fun e => NE16.out e.symm)).trans G16.out)
                  have NE162 : Hid ((Value.slice A50 n2 c50).ownBlock ≠ some q16) := show _ ≠ _ from row_ne hat.out NE16.out (block_lt G16.out)
                  clear HSS HROW hg hat C54 NE54 G16 NE16 ho
                  have HSS := HSS2
                  have HROW := HROW2
                  have C54 := C542
                  have NE54 := NE542
                  have G16 := G162
                  have NE16 := NE162
                  clear HSS2 HROW2 C542 NE542 G162 NE162
                  (try simp only [Nat.zero_add])
                  refine wpAnyH_ready (rs := [11]) (by kernel_rfl) (by simp) ?_
                  refine (AllReadyH.cons rfl (fun K hK => ?_) AllReadyH.nil)
                  · refine step_append_held rfl (.tmp 50) (.tmp 54) 27 rfl wc.heap.size 3 i0' _ 8 Try.underlying27 HI0.out HZ.out H1.out H2.out rfl _ n2 (intCells r) rfl HROW.out (some ⟨q54, 0, none⟩) 1 1 [.int .i64 (ln : Int)] rfl rfl (fun _ => ⟨_, rfl, World.news_of_block (cs := #[.int .i64 (ln : Int)]) (t := 3) (fr := (0, 0)) C54.out⟩) (O1 _ rfl) M2b M3b HSS.out.size ?_
                    intro A55 c55 W37_11 ho hg hat
                    have HSS2 := Lib.hid (HSS.out.grown hg HSS.out.size (fun z hz => (HROW.out.lt z hz).1))
                    refine hK.out _ _ HSS2.out (fun hHeld => ?_)
                    clear hK K
                    (try simp only [Act.put])
                    have HII : Hid (Ints W37_11 (· < W37_11.heap.size) A55 (n2 + 1) (r ++ [(ln : Int)])) := own_ints (by unfold intCells; rw [List.map_append]; exact ho.out)
                    have G162 := Lib.hid ((hg.block q16 (block_lt G16.out) (fun e => NE16.out e.symm)).trans G16.out)
                    clear HSS HROW hg hat C54 NE54 G16 NE16 ho
                    have HSS := HSS2
                    have G16 := G162
                    clear HSS2 G162
                    refine wpAnyH_ready (rs := [12]) (by kernel_rfl) (by simp) ?_
                    refine (AllReadyH.cons rfl (fun K hK => ?_) AllReadyH.nil)
                    · go_simp
                      go_at_call 9
                      (with_reducible refine (cG2.out _ HSS.out A55 c55 HII.out).mono ?_)
                      rintro e W38_12 ⟨rfl, B7⟩
                      go_wp2_with fail
                      have HSS2 := Lib.hid (low17 HSS.out B7)
                      refine hK.out _ _ HSS2.out (fun hHeld => ?_)
                      clear hK K
                      (try simp only [Act.put, List.setIfInBounds_toArray, List.set_cons_zero, List.set_cons_succ])
                      have G162 := Lib.hid ((B7.block _ (block_lt G16.out)).trans G16.out)
                      clear HSS HII B7 G16
                      have HSS := HSS2
                      have G16 := G162
                      clear HSS2 G162
                      refine wpAnyH_take (i := 13) (v := ?_) rfl (by kernel_rfl) (by kernel_rfl) (by kernel_rfl) (fun _ _ _ h => h) (Or.inl ⟨by rfl, ?_⟩) (by assumption) ?_
                      rotate_left 1
                      · intro V hSw
                        (try dsimp only at hSw)
                        go_simp
                        (try with_reducible rfl)
                      (try simp only [Act.put, List.setIfInBounds_toArray])
                      refine wpAnyH_take (i := 14) (v := ?_) rfl (by kernel_rfl) (by kernel_rfl) (by kernel_rfl) (fun _ _ _ h => h) (Or.inl ⟨by rfl, ?_⟩) (by assumption) ?_
                      rotate_left 1
                      · intro V hSw
                        (try dsimp only at hSw)
                        go_simp
                        (try with_reducible rfl)
                      (try simp only [Act.put])
                      refine wpAnyH_take (i := 15) (v := ?_) rfl (by kernel_rfl) (by kernel_rfl) (by kernel_rfl) (fun _ _ _ h => h) (Or.inl ⟨by rfl, ?_⟩) (by assumption) ?_
                      rotate_left 1
                      · intro V hSw
                        (try dsimp only at hSw)
                        go_simp
                        (try with_reducible rfl)
                      (try simp only [Act.put])
                      have z9 := G16.out
                      have z0 : W38_12.cell? ⟨q16, 0, none⟩ = some (.int .i64 0) := (block_cell z9 _).trans rfl
                      have f0 : W38_12.frozen? ⟨q16, 0, none⟩ = false := block_frozen z9 0
                      have z1 : W38_12.cell? ⟨q16, 1, none⟩ = some (.int .u64 0) := (block_cell z9 _).trans rfl
                      have f1 : W38_12.frozen? ⟨q16, 1, none⟩ = false := block_frozen z9 1
                      have z2 : W38_12.cell? ⟨q16, 2, none⟩ = some (.int .u64 0) := (block_cell z9 _).trans rfl
                      have f2 : W38_12.frozen? ⟨q16, 2, none⟩ = false := block_frozen z9 2
                      have z3 : W38_12.cell? ⟨q16, 3, none⟩ = some (.int .u64 0) := (block_cell z9 _).trans rfl
                      have f3 : W38_12.frozen? ⟨q16, 3, none⟩ = false := block_frozen z9 3
                      have z4 : W38_12.cell? ⟨q16, 4, none⟩ = some (.string ⟨#[]⟩) := (block_cell z9 _).trans rfl
                      have f4 : W38_12.frozen? ⟨q16, 4, none⟩ = false := block_frozen z9 4
                      have z5 : W38_12.cell? ⟨q16, 5, none⟩ = some (.string ⟨#[]⟩) := (block_cell z9 _).trans rfl
                      have f5 : W38_12.frozen? ⟨q16, 5, none⟩ = false := block_frozen z9 5
                      have z6 : W38_12.cell? ⟨q16, 6, none⟩ = some (.int .i64 0) := (block_cell z9 _).trans rfl
                      have f6 : W38_12.frozen? ⟨q16, 6, none⟩ = false := block_frozen z9 6
                      have z7 : W38_12.cell? ⟨q16, 7, none⟩ = some (.slice none 0 0) := (block_cell z9 _).trans rfl
                      have f7 : W38_12.frozen? ⟨q16, 7, none⟩ = false := block_frozen z9 7
                      have z8 : W38_12.cell? ⟨q16, 8, none⟩ = some (.slice none 0 0) := (block_cell z9 _).trans rfl
                      have f8 : W38_12.frozen? ⟨q16, 8, none⟩ = false := block_frozen z9 8
                      refine wpAnyH_ready (rs := [17]) (by kernel_rfl) (by simp) ?_
                      refine AllReadyH.cons rfl (fun K hK => ?_) ?_
                      rotate_left 1
                      · exact AllReadyH.nil
                      go_simp
                      refine hK.out _ _ (below_nine HSS.out HQ16.out _ _ _ _ _ _ _ _ _) (fun hHeld => ?_)
                      clear hK K
                      (try simp only [Act.put, List.setIfInBounds_toArray, List.set_cons_zero, List.set_cons_succ])
                      refine wpAnyH_ready (rs := [18]) (by kernel_rfl) (by simp) ?_
                      refine AllReadyH.cons rfl (fun K hK => ?_) ?_
                      rotate_left 1
                      · exact AllReadyH.nil
                      go_simp
                      refine hK.out _ _ hHeld (fun _ => ?_)
                      clear hK K
                      (try simp only [Act.put, List.setIfInBounds_toArray, List.set_cons_zero, List.set_cons_succ])
                      refine wpAnyH_done (by kernel_rfl) ?_ _
                      go_wp2_with fail
                      go_meet
                      exact ⟨rfl, hHeld⟩
          · go_simp
            refine hK.out _ _ (HSS.out.alloc HSS.out.size _) (fun hHeld => ?_)
            clear hK K
            (try simp only [Act.put, List.setIfInBounds_toArray, List.set_cons_zero, List.set_cons_succ])
            have HSS2 := Lib.hid (HSS.out.alloc HSS.out.size (.cells #[.int .i64 (ln : Int)] 3))
            have HQ54 := Lib.hid HSS.out.size
            have C54 := Lib.hid (heap_alloc_new wd (.cells #[.int .i64 (ln : Int)] 3))
            clear HSS
            generalize wd.alloc (.cells #[.int .i64 (ln : Int)] 3) = W1_10 at *
            generalize wd.heap.size = q54 at *
            have HSS := HSS2
            clear HSS2
            refine wpAnyH_ready (rs := [1, 16]) (by kernel_rfl) (by simp) ?_
            refine (AllReadyH.cons rfl (fun K hK => ?_) (AllReadyH.cons rfl (fun K hK => ?_) AllReadyH.nil))
            · go_simp
              refine hK.out _ _ (HSS.out.alloc HSS.out.size _) (fun hHeld => ?_)
              clear hK K
              (try simp only [Act.put, List.setIfInBounds_toArray, List.set_cons_zero, List.set_cons_succ])
              have HSS2 := Lib.hid (HSS.out.alloc HSS.out.size (.cells #[] 3))
              have HQ45 := Lib.hid HSS.out.size
              have HROW : Hid ((W1_10.alloc (.cells #[] 3)).ownsRow wc.heap.size 3 1 (.slice (some ⟨W1_10.heap.size, 0, none⟩) 0 0) 0 []) := World.ownsRow_lit W1_10 #[] 0 HSS.out.size (Nat.zero_le _) rfl
              have NE54 : Hid ((Value.slice (some ⟨W1_10.heap.size, 0, none⟩) 0 0).ownBlock ≠ some q54) := fun e => by have := block_lt C54.out; have : W1_10.heap.size = q54 := Option.some.inj e; omega
              have C542 := Lib.hid ((Below.heap_alloc _ (.cells #[] 3) _ (block_lt C54.out)).trans C54.out)
              clear HSS C54
              generalize W1_10.alloc (.cells #[] 3) = W40_1 at *
              generalize W1_10.heap.size = q45 at *
              have HSS := HSS2
              have C54 := C542
              clear HSS2 C542
              refine wpAnyH_ready (rs := [6, 16]) (by kernel_rfl) (by simp) ?_
              refine (AllReadyH.cons rfl (fun K hK => ?_) (AllReadyH.cons rfl (fun K hK => ?_) AllReadyH.nil))
              · refine step_append_held rfl (.tmp 45) (.tmp 49) 27 rfl wc.heap.size 3 i0' _ 8 Try.underlying27 HI0.out HZ.out H1.out H2.out rfl _ 0 [] rfl HROW.out A2 n2 h2 (intCells r) rfl LR.out (HI3.out.on HSS.out).cellsAt (intCells_one r) M2a M3a HSS.out.size ?_
                intro A50 c50 W41_6 ho hg hat
                have HSS2 := Lib.hid (HSS.out.grown hg HSS.out.size (fun z hz => (HROW.out.lt z hz).1))
                refine hK.out _ _ HSS2.out (fun hHeld => ?_)
                clear hK K
                (try simp only [Act.put, List.setIfInBounds_toArray])
                have HROW2 : Hid (W41_6.ownsRow wc.heap.size 3 1 (.slice A50 n2 c50) n2 (intCells r)) := show World.ownsRow _ _ _ _ _ _ _ from by
                  have := ho.out
                  simpa using this
                have C542 := Lib.hid ((hg.block q54 (block_lt C54.out) (fun e => NE54.out e.symm)).trans C54.out)
                have NE542 : Hid ((Value.slice A50 n2 c50).ownBlock ≠ some q54) := show _ ≠ _ from row_ne hat.out NE54.out (block_lt C54.out)
                clear HSS HROW hg hat C54 NE54 ho
                have HSS := HSS2
                have HROW := HROW2
                have C54 := C542
                have NE54 := NE542
                clear HSS2 HROW2 C542 NE542
                (try simp only [Nat.zero_add])
                refine wpAnyH_ready (rs := [11, 16]) (by kernel_rfl) (by simp) ?_
                refine (AllReadyH.cons rfl (fun K hK => ?_) (AllReadyH.cons rfl (fun K hK => ?_) AllReadyH.nil))
                · refine step_append_held rfl (.tmp 50) (.tmp 54) 27 rfl wc.heap.size 3 i0' _ 8 Try.underlying27 HI0.out HZ.out H1.out H2.out rfl _ n2 (intCells r) rfl HROW.out (some ⟨q54, 0, none⟩) 1 1 [.int .i64 (ln : Int)] rfl rfl (fun _ => ⟨_, rfl, World.news_of_block (cs := #[.int .i64 (ln : Int)]) (t := 3) (fr := (0, 0)) C54.out⟩) (O1 _ rfl) M2b M3b HSS.out.size ?_
                  intro A55 c55 W42_11 ho hg hat
                  have HSS2 := Lib.hid (HSS.out.grown hg HSS.out.size (fun z hz => (HROW.out.lt z hz).1))
                  refine hK.out _ _ HSS2.out (fun hHeld => ?_)
                  clear hK K
                  (try simp only [Act.put])
                  have HII : Hid (Ints W42_11 (· < W42_11.heap.size) A55 (n2 + 1) (r ++ [(ln : Int)])) := own_ints (by unfold intCells; rw [List.map_append]; exact ho.out)
                  clear HSS HROW hg hat C54 NE54 ho
                  have HSS := HSS2
                  clear HSS2
                  refine wpAnyH_ready (rs := [12, 16]) (by kernel_rfl) (by simp) ?_
                  refine (AllReadyH.cons rfl (fun K hK => ?_) (AllReadyH.cons rfl (fun K hK => ?_) AllReadyH.nil))
                  · go_simp
                    go_at_call 9
                    (with_reducible refine (cG2.out _ HSS.out A55 c55 HII.out).mono ?_)
                    rintro e W43_12 ⟨rfl, B7⟩
                    go_wp2_with fail
                    have HSS2 := Lib.hid (low17 HSS.out B7)
                    refine hK.out _ _ HSS2.out (fun hHeld => ?_)
                    clear hK K
                    (try simp only [Act.put, List.setIfInBounds_toArray, List.set_cons_zero, List.set_cons_succ])
                    clear HSS HII B7
                    have HSS := HSS2
                    clear HSS2
                    refine wpAnyH_take (i := 13) (v := ?_) rfl (by kernel_rfl) (by kernel_rfl) (by kernel_rfl) (fun _ _ _ h => h) (Or.inl ⟨by rfl, ?_⟩) (by assumption) ?_
                    rotate_left 1
                    · intro V hSw
                      (try dsimp only at hSw)
                      go_simp
                      (try with_reducible rfl)
                    (try simp only [Act.put, List.setIfInBounds_toArray])
                    refine wpAnyH_take (i := 14) (v := ?_) rfl (by kernel_rfl) (by kernel_rfl) (by kernel_rfl) (fun _ _ _ h => h) (Or.inl ⟨by rfl, ?_⟩) (by assumption) ?_
                    rotate_left 1
                    · intro V hSw
                      (try dsimp only at hSw)
                      go_simp
                      (try with_reducible rfl)
                    (try simp only [Act.put])
                    refine wpAnyH_take (i := 15) (v := ?_) rfl (by kernel_rfl) (by kernel_rfl) (by kernel_rfl) (fun _ _ _ h => h) (Or.inl ⟨by rfl, ?_⟩) (by assumption) ?_
                    rotate_left 1
                    · intro V hSw
                      (try dsimp only at hSw)
                      go_simp
                      (try with_reducible rfl)
                    (try simp only [Act.put])
                    refine wpAnyH_ready (rs := [16]) (by kernel_rfl) (by simp) ?_
                    refine (AllReadyH.cons rfl (fun K hK => ?_) AllReadyH.nil)
                    · go_simp
                      refine hK.out _ _ (HSS.out.alloc HSS.out.size _) (fun hHeld => ?_)
                      clear hK K
                      (try simp only [Act.put, List.setIfInBounds_toArray, List.set_cons_zero, List.set_cons_succ])
                      have HSS2 := Lib.hid (HSS.out.alloc HSS.out.size (.cells #[.int .i64 0, .int .u64 0, .int .u64 0, .int .u64 0, .string ⟨#[]⟩, .string ⟨#[]⟩, .int .i64 0, .slice none 0 0, .slice none 0 0] 26))
                      have HQ16 := Lib.hid HSS.out.size
                      have G16 := Lib.hid (heap_alloc_new W43_12 (.cells #[.int .i64 0, .int .u64 0, .int .u64 0, .int .u64 0, .string ⟨#[]⟩, .string ⟨#[]⟩, .int .i64 0, .slice none 0 0, .slice none 0 0] 26))
                      clear HSS
                      generalize W43_12.alloc (.cells #[.int .i64 0, .int .u64 0, .int .u64 0, .int .u64 0, .string ⟨#[]⟩, .string ⟨#[]⟩, .int .i64 0, .slice none 0 0, .slice none 0 0] 26) = W44_16 at *
                      generalize W43_12.heap.size = q16 at *
                      have HSS := HSS2
                      clear HSS2
                      have z9 := G16.out
                      have z0 : W44_16.cell? ⟨q16, 0, none⟩ = some (.int .i64 0) := (block_cell z9 _).trans rfl
                      have f0 : W44_16.frozen? ⟨q16, 0, none⟩ = false := block_frozen z9 0
                      have z1 : W44_16.cell? ⟨q16, 1, none⟩ = some (.int .u64 0) := (block_cell z9 _).trans rfl
                      have f1 : W44_16.frozen? ⟨q16, 1, none⟩ = false := block_frozen z9 1
                      have z2 : W44_16.cell? ⟨q16, 2, none⟩ = some (.int .u64 0) := (block_cell z9 _).trans rfl
                      have f2 : W44_16.frozen? ⟨q16, 2, none⟩ = false := block_frozen z9 2
                      have z3 : W44_16.cell? ⟨q16, 3, none⟩ = some (.int .u64 0) := (block_cell z9 _).trans rfl
                      have f3 : W44_16.frozen? ⟨q16, 3, none⟩ = false := block_frozen z9 3
                      have z4 : W44_16.cell? ⟨q16, 4, none⟩ = some (.string ⟨#[]⟩) := (block_cell z9 _).trans rfl
                      have f4 : W44_16.frozen? ⟨q16, 4, none⟩ = false := block_frozen z9 4
                      have z5 : W44_16.cell? ⟨q16, 5, none⟩ = some (.string ⟨#[]⟩) := (block_cell z9 _).trans rfl
                      have f5 : W44_16.frozen? ⟨q16, 5, none⟩ = false := block_frozen z9 5
                      have z6 : W44_16.cell? ⟨q16, 6, none⟩ = some (.int .i64 0) := (block_cell z9 _).trans rfl
                      have f6 : W44_16.frozen? ⟨q16, 6, none⟩ = false := block_frozen z9 6
                      have z7 : W44_16.cell? ⟨q16, 7, none⟩ = some (.slice none 0 0) := (block_cell z9 _).trans rfl
                      have f7 : W44_16.frozen? ⟨q16, 7, none⟩ = false := block_frozen z9 7
                      have z8 : W44_16.cell? ⟨q16, 8, none⟩ = some (.slice none 0 0) := (block_cell z9 _).trans rfl
                      have f8 : W44_16.frozen? ⟨q16, 8, none⟩ = false := block_frozen z9 8
                      refine wpAnyH_ready (rs := [17]) (by kernel_rfl) (by simp) ?_
                      refine AllReadyH.cons rfl (fun K hK => ?_) ?_
                      rotate_left 1
                      · exact AllReadyH.nil
                      go_simp
                      refine hK.out _ _ (below_nine HSS.out HQ16.out _ _ _ _ _ _ _ _ _) (fun hHeld => ?_)
                      clear hK K
                      (try simp only [Act.put, List.setIfInBounds_toArray, List.set_cons_zero, List.set_cons_succ])
                      refine wpAnyH_ready (rs := [18]) (by kernel_rfl) (by simp) ?_
                      refine AllReadyH.cons rfl (fun K hK => ?_) ?_
                      rotate_left 1
                      · exact AllReadyH.nil
                      go_simp
                      refine hK.out _ _ hHeld (fun _ => ?_)
                      clear hK K
                      (try simp only [Act.put, List.setIfInBounds_toArray, List.set_cons_zero, List.set_cons_succ])
                      refine wpAnyH_done (by kernel_rfl) ?_ _
                      go_wp2_with fail
                      go_meet
                      exact ⟨rfl, hHeld⟩
                  · go_simp
                    refine hK.out _ _ (HSS.out.alloc HSS.out.size _) (fun hHeld => ?_)
                    clear hK K
                    (try simp only [Act.put, List.setIfInBounds_toArray, List.set_cons_zero, List.set_cons_succ])
                    have HSS2 := Lib.hid (HSS.out.alloc HSS.out.size (.cells #[.int .i64 0, .int .u64 0, .int .u64 0, .int .u64 0, .string ⟨#[]⟩, .string ⟨#[]⟩, .int .i64 0, .slice none 0 0, .slice none 0 0] 26))
                    have HQ16 := Lib.hid HSS.out.size
                    have HII2 := Lib.hid (HII.out.on ((Below.refl _ _).alloc (Nat.le_refl _) (.cells #[.int .i64 0, .int .u64 0, .int .u64 0, .int .u64 0, .string ⟨#[]⟩, .string ⟨#[]⟩, .int .i64 0, .slice none 0 0, .slice none 0 0] 26)))
                    have G16 := Lib.hid (heap_alloc_new W42_11 (.cells #[.int .i64 0, .int .u64 0, .int .u64 0, .int .u64 0, .string ⟨#[]⟩, .string ⟨#[]⟩, .int .i64 0, .slice none 0 0, .slice none 0 0] 26))
                    clear HSS HII
                    generalize W42_11.alloc (.cells #[.int .i64 0, .int .u64 0, .int .u64 0, .int .u64 0, .string ⟨#[]⟩, .string ⟨#[]⟩, .int .i64 0, .slice none 0 0, .slice none 0 0] 26) = W43_16 at *
                    generalize W42_11.heap.size = q16 at *
                    have HSS := HSS2
                    have HII := HII2
                    clear HSS2 HII2
                    refine wpAnyH_ready (rs := [12]) (by kernel_rfl) (by simp) ?_
                    refine (AllReadyH.cons rfl (fun K hK => ?_) AllReadyH.nil)
                    · go_simp
                      go_at_call 9
                      (with_reducible refine (cG2.out _ HSS.out A55 c55 HII.out).mono ?_)
                      rintro e W46_12 ⟨rfl, B7⟩
                      go_wp2_with fail
                      have HSS2 := Lib.hid (low17 HSS.out B7)
                      refine hK.out _ _ HSS2.out (fun hHeld => ?_)
                      clear hK K
                      (try simp only [Act.put, List.setIfInBounds_toArray, List.set_cons_zero, List.set_cons_succ])
                      have G162 := Lib.hid ((B7.block _ (block_lt G16.out)).trans G16.out)
                      clear HSS HII B7 G16
                      have HSS := HSS2
                      have G16 := G162
                      clear HSS2 G162
                      refine wpAnyH_take (i := 13) (v := ?_) rfl (by kernel_rfl) (by kernel_rfl) (by kernel_rfl) (fun _ _ _ h => h) (Or.inl ⟨by rfl, ?_⟩) (by assumption) ?_
                      rotate_left 1
                      · intro V hSw
                        (try dsimp only at hSw)
                        go_simp
                        (try with_reducible rfl)
                      (try simp only [Act.put, List.setIfInBounds_toArray])
                      refine wpAnyH_take (i := 14) (v := ?_) rfl (by kernel_rfl) (by kernel_rfl) (by kernel_rfl) (fun _ _ _ h => h) (Or.inl ⟨by rfl, ?_⟩) (by assumption) ?_
                      rotate_left 1
                      · intro V hSw
                        (try dsimp only at hSw)
                        go_simp
                        (try with_reducible rfl)
                      (try simp only [Act.put])
                      refine wpAnyH_take (i := 15) (v := ?_) rfl (by kernel_rfl) (by kernel_rfl) (by kernel_rfl) (fun _ _ _ h => h) (Or.inl ⟨by rfl, ?_⟩) (by assumption) ?_
                      rotate_left 1
                      · intro V hSw
                        (try dsimp only at hSw)
                        go_simp
                        (try with_reducible rfl)
                      (try simp only [Act.put])
                      have z9 := G16.out
                      have z0 : W46_12.cell? ⟨q16, 0, none⟩ = some (.int .i64 0) := (block_cell z9 _).trans rfl
                      have f0 : W46_12.frozen? ⟨q16, 0, none⟩ = false := block_frozen z9 0
                      have z1 : W46_12.cell? ⟨q16, 1, none⟩ = some (.int .u64 0) := (block_cell z9 _).trans rfl
                      have f1 : W46_12.frozen? ⟨q16, 1, none⟩ = false := block_frozen z9 1
                      have z2 : W46_12.cell? ⟨q16, 2, none⟩ = some (.int .u64 0) := (block_cell z9 _).trans rfl
                      have f2 : W46_12.frozen? ⟨q16, 2, none⟩ = false := block_frozen z9 2
                      have z3 : W46_12.cell? ⟨q16, 3, none⟩ = some (.int .u64 0) := (block_cell z9 _).trans rfl
                      have f3 : W46_12.frozen? ⟨q16, 3, none⟩ = false := block_frozen z9 3
                      have z4 : W46_12.cell? ⟨q16, 4, none⟩ = some (.string ⟨#[]⟩) := (block_cell z9 _).trans rfl
                      have f4 : W46_12.frozen? ⟨q16, 4, none⟩ = false := block_frozen z9 4
                      have z5 : W46_12.cell? ⟨q16, 5, none⟩ = some (.string ⟨#[]⟩) := (block_cell z9 _).trans rfl
                      have f5 : W46_12.frozen? ⟨q16, 5, none⟩ = false := block_frozen z9 5
                      have z6 : W46_12.cell? ⟨q16, 6, none⟩ = some (.int .i64 0) := (block_cell z9 _).trans rfl
                      have f6 : W46_12.frozen? ⟨q16, 6, none⟩ = false := block_frozen z9 6
                      have z7 : W46_12.cell? ⟨q16, 7, none⟩ = some (.slice none 0 0) := (block_cell z9 _).trans rfl
                      have f7 : W46_12.frozen? ⟨q16, 7, none⟩ = false := block_frozen z9 7
                      have z8 : W46_12.cell? ⟨q16, 8, none⟩ = some (.slice none 0 0) := (block_cell z9 _).trans rfl
                      have f8 : W46_12.frozen? ⟨q16, 8, none⟩ = false := block_frozen z9 8
                      refine wpAnyH_ready (rs := [17]) (by kernel_rfl) (by simp) ?_
                      refine AllReadyH.cons rfl (fun K hK => ?_) ?_
                      rotate_left 1
                      · exact AllReadyH.nil
                      go_simp
                      refine hK.out _ _ (below_nine HSS.out HQ16.out _ _ _ _ _ _ _ _ _) (fun hHeld => ?_)
                      clear hK K
                      (try simp only [Act.put, List.setIfInBounds_toArray, List.set_cons_zero, List.set_cons_succ])
                      refine wpAnyH_ready (rs := [18]) (by kernel_rfl) (by simp) ?_
                      refine AllReadyH.cons rfl (fun K hK => ?_) ?_
                      rotate_left 1
                      · exact AllReadyH.nil
                      go_simp
                      refine hK.out _ _ hHeld (fun _ => ?_)
                      clear hK K
                      (try simp only [Act.put, List.setIfInBounds_toArray, List.set_cons_zero, List.set_cons_succ])
                      refine wpAnyH_done (by kernel_rfl) ?_ _
                      go_wp2_with fail
                      go_meet
                      exact ⟨rfl, hHeld⟩
                · go_simp
                  refine hK.out _ _ (HSS.out.alloc HSS.out.size _) (fun hHeld => ?_)
                  clear hK K
                  (try simp only [Act.put, List.setIfInBounds_toArray, List.set_cons_zero, List.set_cons_succ])
                  have HSS2 := Lib.hid (HSS.out.alloc HSS.out.size (.cells #[.int .i64 0, .int .u64 0, .int .u64 0, .int .u64 0, .string ⟨#[]⟩, .string ⟨#[]⟩, .int .i64 0, .slice none 0 0, .slice none 0 0] 26))
                  have HQ16 := Lib.hid HSS.out.size
                  have HROW2 := Lib.hid (HROW.out.alloc (.cells #[.int .i64 0, .int .u64 0, .int .u64 0, .int .u64 0, .string ⟨#[]⟩, .string ⟨#[]⟩, .int .i64 0, .slice none 0 0, .slice none 0 0] 26))
                  have NE16 : Hid ((Value.slice A50 n2 c50).ownBlock ≠ some W41_6.heap.size) := fun e => by have := (HROW.out.lt _ e).2; omega
                  have C542 := Lib.hid ((Below.heap_alloc _ (.cells #[.int .i64 0, .int .u64 0, .int .u64 0, .int .u64 0, .string ⟨#[]⟩, .string ⟨#[]⟩, .int .i64 0, .slice none 0 0, .slice none 0 0] 26) _ (block_lt C54.out)).trans C54.out)
                  have G16 := Lib.hid (heap_alloc_new W41_6 (.cells #[.int .i64 0, .int .u64 0, .int .u64 0, .int .u64 0, .string ⟨#[]⟩, .string ⟨#[]⟩, .int .i64 0, .slice none 0 0, .slice none 0 0] 26))
                  clear HSS HROW C54
                  generalize W41_6.alloc (.cells #[.int .i64 0, .int .u64 0, .int .u64 0, .int .u64 0, .string ⟨#[]⟩, .string ⟨#[]⟩, .int .i64 0, .slice none 0 0, .slice none 0 0] 26) = W42_16 at *
                  generalize W41_6.heap.size = q16 at *
                  have HSS := HSS2
                  have HROW := HROW2
                  have C54 := C542
                  clear HSS2 HROW2 C542
                  refine wpAnyH_ready (rs := [11]) (by kernel_rfl) (by simp) ?_
                  refine (AllReadyH.cons rfl (fun K hK => ?_) AllReadyH.nil)
                  · refine step_append_held rfl (.tmp 50) (.tmp 54) 27 rfl wc.heap.size 3 i0' _ 8 Try.underlying27 HI0.out HZ.out H1.out H2.out rfl _ n2 (intCells r) rfl HROW.out (some ⟨q54, 0, none⟩) 1 1 [.int .i64 (ln : Int)] rfl rfl (fun _ => ⟨_, rfl, World.news_of_block (cs := #[.int .i64 (ln : Int)]) (t := 3) (fr := (0, 0)) C54.out⟩) (O1 _ rfl) M2b M3b HSS.out.size ?_
                    intro A55 c55 W48_11 ho hg hat
                    have HSS2 := Lib.hid (HSS.out.grown hg HSS.out.size (fun z hz => (HROW.out.lt z hz).1))
                    refine hK.out _ _ HSS2.out (fun hHeld => ?_)
                    clear hK K
                    (try simp only [Act.put, List.setIfInBounds_toArray])
                    have HII : Hid (Ints W48_11 (· < W48_11.heap.size) A55 (n2 + 1) (r ++ [(ln : Int)])) := own_ints (by unfold intCells; rw [List.map_append]; exact ho.out)
                    have G162 := Lib.hid ((hg.block q16 (block_lt G16.out) (fun e => NE16.out e.symm)).trans G16.out)
                    clear HSS HROW hg hat C54 NE54 G16 NE16 ho
                    have HSS := HSS2
                    have G16 := G162
                    clear HSS2 G162
                    refine wpAnyH_ready (rs := [12]) (by kernel_rfl) (by simp) ?_
                    refine (AllReadyH.cons rfl (fun K hK => ?_) AllReadyH.nil)
                    · go_simp
                      go_at_call 9
                      (with_reducible refine (cG2.out _ HSS.out A55 c55 HII.out).mono ?_)
                      rintro e W49_12 ⟨rfl, B7⟩
                      go_wp2_with fail
                      have HSS2 := Lib.hid (low17 HSS.out B7)
                      refine hK.out _ _ HSS2.out (fun hHeld => ?_)
                      clear hK K
                      (try simp only [Act.put, List.setIfInBounds_toArray, List.set_cons_zero, List.set_cons_succ])
                      have G162 := Lib.hid ((B7.block _ (block_lt G16.out)).trans G16.out)
                      clear HSS HII B7 G16
                      have HSS := HSS2
                      have G16 := G162
                      clear HSS2 G162
                      refine wpAnyH_take (i := 13) (v := ?_) rfl (by kernel_rfl) (by kernel_rfl) (by kernel_rfl) (fun _ _ _ h => h) (Or.inl ⟨by rfl, ?_⟩) (by assumption) ?_
                      rotate_left 1
                      · intro V hSw
                        (try dsimp only at hSw)
                        go_simp
                        (try with_reducible rfl)
                      (try simp only [Act.put, List.setIfInBounds_toArray])
                      refine wpAnyH_take (i := 14) (v := ?_) rfl (by kernel_rfl) (by kernel_rfl) (by kernel_rfl) (fun _ _ _ h => h) (Or.inl ⟨by rfl, ?_⟩) (by assumption) ?_
                      rotate_left 1
                      · intro V hSw
                        (try dsimp only at hSw)
                        go_simp
                        (try with_reducible rfl)
                      (try simp only [Act.put])
                      refine wpAnyH_take (i := 15) (v := ?_) rfl (by kernel_rfl) (by kernel_rfl) (by kernel_rfl) (fun _ _ _ h => h) (Or.inl ⟨by rfl, ?_⟩) (by assumption) ?_
                      rotate_left 1
                      · intro V hSw
                        (try dsimp only at hSw)
                        go_simp
                        (try with_reducible rfl)
                      (try simp only [Act.put])
                      have z9 := G16.out
                      have z0 : W49_12.cell? ⟨q16, 0, none⟩ = some (.int .i64 0) := (block_cell z9 _).trans rfl
                      have f0 : W49_12.frozen? ⟨q16, 0, none⟩ = false := block_frozen z9 0
                      have z1 : W49_12.cell? ⟨q16, 1, none⟩ = some (.int .u64 0) := (block_cell z9 _).trans rfl
                      have f1 : W49_12.frozen? ⟨q16, 1, none⟩ = false := block_frozen z9 1
                      have z2 : W49_12.cell? ⟨q16, 2, none⟩ = some (.int .u64 0) := (block_cell z9 _).trans rfl
                      have f2 : W49_12.frozen? ⟨q16, 2, none⟩ = false := block_frozen z9 2
                      have z3 : W49_12.cell? ⟨q16, 3, none⟩ = some (.int .u64 0) := (block_cell z9 _).trans rfl
                      have f3 : W49_12.frozen? ⟨q16, 3, none⟩ = false := block_frozen z9 3
                      have z4 : W49_12.cell? ⟨q16, 4, none⟩ = some (.string ⟨#[]⟩) := (block_cell z9 _).trans rfl
                      have f4 : W49_12.frozen? ⟨q16, 4, none⟩ = false := block_frozen z9 4
                      have z5 : W49_12.cell? ⟨q16, 5, none⟩ = some (.string ⟨#[]⟩) := (block_cell z9 _).trans rfl
                      have f5 : W49_12.frozen? ⟨q16, 5, none⟩ = false := block_frozen z9 5
                      have z6 : W49_12.cell? ⟨q16, 6, none⟩ = some (.int .i64 0) := (block_cell z9 _).trans rfl
                      have f6 : W49_12.frozen? ⟨q16, 6, none⟩ = false := block_frozen z9 6
                      have z7 : W49_12.cell? ⟨q16, 7, none⟩ = some (.slice none 0 0) := (block_cell z9 _).trans rfl
                      have f7 : W49_12.frozen? ⟨q16, 7, none⟩ = false := block_frozen z9 7
                      have z8 : W49_12.cell? ⟨q16, 8, none⟩ = some (.slice none 0 0) := (block_cell z9 _).trans rfl
                      have f8 : W49_12.frozen? ⟨q16, 8, none⟩ = false := block_frozen z9 8
                      refine wpAnyH_ready (rs := [17]) (by kernel_rfl) (by simp) ?_
                      refine AllReadyH.cons rfl (fun K hK => ?_) ?_
                      rotate_left 1
                      · exact AllReadyH.nil
                      go_simp
                      refine hK.out _ _ (below_nine HSS.out HQ16.out _ _ _ _ _ _ _ _ _) (fun hHeld => ?_)
                      clear hK K
                      (try simp only [Act.put, List.setIfInBounds_toArray, List.set_cons_zero, List.set_cons_succ])
                      refine wpAnyH_ready (rs := [18]) (by kernel_rfl) (by simp) ?_
                      refine AllReadyH.cons rfl (fun K hK => ?_) ?_
                      rotate_left 1
                      · exact AllReadyH.nil
                      go_simp
                      refine hK.out _ _ hHeld (fun _ => ?_)
                      clear hK K
                      (try simp only [Act.put, List.setIfInBounds_toArray, List.set_cons_zero, List.set_cons_succ])
                      refine wpAnyH_done (by kernel_rfl) ?_ _
                      go_wp2_with fail
                      go_meet
                      exact ⟨rfl, hHeld⟩
              · go_simp
                refine hK.out _ _ (HSS.out.alloc HSS.out.size _) (fun hHeld => ?_)
                clear hK K
                (try simp only [Act.put, List.setIfInBounds_toArray, List.set_cons_zero, List.set_cons_succ])
                have HSS2 := Lib.hid (HSS.out.alloc HSS.out.size (.cells #[.int .i64 0, .int .u64 0, .int .u64 0, .int .u64 0, .string ⟨#[]⟩, .string ⟨#[]⟩, .int .i64 0, .slice none 0 0, .slice none 0 0] 26))
                have HQ16 := Lib.hid HSS.out.size
                have HROW2 := Lib.hid (HROW.out.alloc (.cells #[.int .i64 0, .int .u64 0, .int .u64 0, .int .u64 0, .string ⟨#[]⟩, .string ⟨#[]⟩, .int .i64 0, .slice none 0 0, .slice none 0 0] 26))
                have NE16 : Hid ((Value.slice (some ⟨q45, 0, none⟩) 0 0).ownBlock ≠ some W40_1.heap.size) := fun e => by have := (HROW.out.lt _ e).2; omega
                have C542 := Lib.hid ((Below.heap_alloc _ (.cells #[.int .i64 0, .int .u64 0, .int .u64 0, .int .u64 0, .string ⟨#[]⟩, .string ⟨#[]⟩, .int .i64 0, .slice none 0 0, .slice none 0 0] 26) _ (block_lt C54.out)).trans C54.out)
                have G16 := Lib.hid (heap_alloc_new W40_1 (.cells #[.int .i64 0, .int .u64 0, .int .u64 0, .int .u64 0, .string ⟨#[]⟩, .string ⟨#[]⟩, .int .i64 0, .slice none 0 0, .slice none 0 0] 26))
                clear HSS HROW C54
                generalize W40_1.alloc (.cells #[.int .i64 0, .int .u64 0, .int .u64 0, .int .u64 0, .string ⟨#[]⟩, .string ⟨#[]⟩, .int .i64 0, .slice none 0 0, .slice none 0 0] 26) = W41_16 at *
                generalize W40_1.heap.size = q16 at *
                have HSS := HSS2
                have HROW := HROW2
                have C54 := C542
                clear HSS2 HROW2 C542
                refine wpAnyH_ready (rs := [6]) (by kernel_rfl) (by simp) ?_
                refine (AllReadyH.cons rfl (fun K hK => ?_) AllReadyH.nil)
                · refine step_append_held rfl (.tmp 45) (.tmp 49) 27 rfl wc.heap.size 3 i0' _ 8 Try.underlying27 HI0.out HZ.out H1.out H2.out rfl _ 0 [] rfl HROW.out A2 n2 h2 (intCells r) rfl LR.out (HI3.out.on HSS.out).cellsAt (intCells_one r) M2a M3a HSS.out.size ?_
                  intro A50 c50 W51_6 ho hg hat
                  have HSS2 := Lib.hid (HSS.out.grown hg HSS.out.size (fun z hz => (HROW.out.lt z hz).1))
                  refine hK.out _ _ HSS2.out (fun hHeld => ?_)
                  clear hK K
                  (try simp only [Act.put, List.setIfInBounds_toArray])
                  have HROW2 : Hid (W51_6.ownsRow wc.heap.size 3 1 (.slice A50 n2 c50) n2 (intCells r)) := show World.ownsRow _ _ _ _ _ _ _ from by
                    have := ho.out
                    simpa using this
                  have C542 := Lib.hid ((hg.block q54 (block_lt C54.out) (fun e => NE54.out e.symm)).trans C54.out)
                  have NE542 : Hid ((Value.slice A50 n2 c50).ownBlock ≠ some q54) := show _ ≠ _ from row_ne hat.out NE54.out (block_lt C54.out)
                  have G162 := Lib.hid ((hg.block q16 (block_lt G16.out) (fun e => NE16.out e.symm)).trans G16.out)
                  have NE162 : Hid ((Value.slice A50 n2 c50).ownBlock ≠ some q16) := show _ ≠ _ from row_ne hat.out NE16.out (block_lt G16.out)
                  clear HSS HROW hg hat C54 NE54 G16 NE16 ho
                  have HSS := HSS2
                  have HROW := HROW2
                  have C54 := C542
                  have NE54 := NE542
                  have G16 := G162
                  have NE16 := NE162
                  clear HSS2 HROW2 C542 NE542 G162 NE162
                  (try simp only [Nat.zero_add])
                  refine wpAnyH_ready (rs := [11]) (by kernel_rfl) (by simp) ?_
                  refine (AllReadyH.cons rfl (fun K hK => ?_) AllReadyH.nil)
                  · refine step_append_held rfl (.tmp 50) (.tmp 54) 27 rfl wc.heap.size 3 i0' _ 8 Try.underlying27 HI0.out HZ.out H1.out H2.out rfl _ n2 (intCells r) rfl HROW.out (some ⟨q54, 0, none⟩) 1 1 [.int .i64 (ln : Int)] rfl rfl (fun _ => ⟨_, rfl, World.news_of_block (cs := #[.int .i64 (ln : Int)]) (t := 3) (fr := (0, 0)) C54.out⟩) (O1 _ rfl) M2b M3b HSS.out.size ?_
                    intro A55 c55 W52_11 ho hg hat
                    have HSS2 := Lib.hid (HSS.out.grown hg HSS.out.size (fun z hz => (HROW.out.lt z hz).1))
                    refine hK.out _ _ HSS2.out (fun hHeld => ?_)
                    clear hK K
                    (try simp only [Act.put])
                    have HII : Hid (Ints W52_11 (· < W52_11.heap.size) A55 (n2 + 1) (r ++ [(ln : Int)])) := own_ints (by unfold intCells; rw [List.map_append]; exact ho.out)
                    have G162 := Lib.hid ((hg.block q16 (block_lt G16.out) (fun e => NE16.out e.symm)).trans G16.out)
                    clear HSS HROW hg hat C54 NE54 G16 NE16 ho
                    have HSS := HSS2
                    have G16 := G162
                    clear HSS2 G162
                    refine wpAnyH_ready (rs := [12]) (by kernel_rfl) (by simp) ?_
                    refine (AllReadyH.cons rfl (fun K hK => ?_) AllReadyH.nil)
                    · go_simp
                      go_at_call 9
                      (with_reducible refine (cG2.out _ HSS.out A55 c55 HII.out).mono ?_)
                      rintro e W53_12 ⟨rfl, B7⟩
                      go_wp2_with fail
                      have HSS2 := Lib.hid (low17 HSS.out B7)
                      refine hK.out _ _ HSS2.out (fun hHeld => ?_)
                      clear hK K
                      (try simp only [Act.put, List.setIfInBounds_toArray, List.set_cons_zero, List.set_cons_succ])
                      have G162 := Lib.hid ((B7.block _ (block_lt G16.out)).trans G16.out)
                      clear HSS HII B7 G16
                      have HSS := HSS2
                      have G16 := G162
                      clear HSS2 G162
                      refine wpAnyH_take (i := 13) (v := ?_) rfl (by kernel_rfl) (by kernel_rfl) (by kernel_rfl) (fun _ _ _ h => h) (Or.inl ⟨by rfl, ?_⟩) (by assumption) ?_
                      rotate_left 1
                      · intro V hSw
                        (try dsimp only at hSw)
                        go_simp
                        (try with_reducible rfl)
                      (try simp only [Act.put, List.setIfInBounds_toArray])
                      refine wpAnyH_take (i := 14) (v := ?_) rfl (by kernel_rfl) (by kernel_rfl) (by kernel_rfl) (fun _ _ _ h => h) (Or.inl ⟨by rfl, ?_⟩) (by assumption) ?_
                      rotate_left 1
                      · intro V hSw
                        (try dsimp only at hSw)
                        go_simp
                        (try with_reducible rfl)
                      (try simp only [Act.put])
                      refine wpAnyH_take (i := 15) (v := ?_) rfl (by kernel_rfl) (by kernel_rfl) (by kernel_rfl) (fun _ _ _ h => h) (Or.inl ⟨by rfl, ?_⟩) (by assumption) ?_
                      rotate_left 1
                      · intro V hSw
                        (try dsimp only at hSw)
                        go_simp
                        (try with_reducible rfl)
                      (try simp only [Act.put])
                      have z9 := G16.out
                      have z0 : W53_12.cell? ⟨q16, 0, none⟩ = some (.int .i64 0) := (block_cell z9 _).trans rfl
                      have f0 : W53_12.frozen? ⟨q16, 0, none⟩ = false := block_frozen z9 0
                      have z1 : W53_12.cell? ⟨q16, 1, none⟩ = some (.int .u64 0) := (block_cell z9 _).trans rfl
                      have f1 : W53_12.frozen? ⟨q16, 1, none⟩ = false := block_frozen z9 1
                      have z2 : W53_12.cell? ⟨q16, 2, none⟩ = some (.int .u64 0) := (block_cell z9 _).trans rfl
                      have f2 : W53_12.frozen? ⟨q16, 2, none⟩ = false := block_frozen z9 2
                      have z3 : W53_12.cell? ⟨q16, 3, none⟩ = some (.int .u64 0) := (block_cell z9 _).trans rfl
                      have f3 : W53_12.frozen? ⟨q16, 3, none⟩ = false := block_frozen z9 3
                      have z4 : W53_12.cell? ⟨q16, 4, none⟩ = some (.string ⟨#[]⟩) := (block_cell z9 _).trans rfl
                      have f4 : W53_12.frozen? ⟨q16, 4, none⟩ = false := block_frozen z9 4
                      have z5 : W53_12.cell? ⟨q16, 5, none⟩ = some (.string ⟨#[]⟩) := (block_cell z9 _).trans rfl
                      have f5 : W53_12.frozen? ⟨q16, 5, none⟩ = false := block_frozen z9 5
                      have z6 : W53_12.cell? ⟨q16, 6, none⟩ = some (.int .i64 0) := (block_cell z9 _).trans rfl
                      have f6 : W53_12.frozen? ⟨q16, 6, none⟩ = false := block_frozen z9 6
                      have z7 : W53_12.cell? ⟨q16, 7, none⟩ = some (.slice none 0 0) := (block_cell z9 _).trans rfl
                      have f7 : W53_12.frozen? ⟨q16, 7, none⟩ = false := block_frozen z9 7
                      have z8 : W53_12.cell? ⟨q16, 8, none⟩ = some (.slice none 0 0) := (block_cell z9 _).trans rfl
                      have f8 : W53_12.frozen? ⟨q16, 8, none⟩ = false := block_frozen z9 8
                      refine wpAnyH_ready (rs := [17]) (by kernel_rfl) (by simp) ?_
                      refine AllReadyH.cons rfl (fun K hK => ?_) ?_
                      rotate_left 1
                      · exact AllReadyH.nil
                      go_simp
                      refine hK.out _ _ (below_nine HSS.out HQ16.out _ _ _ _ _ _ _ _ _) (fun hHeld => ?_)
                      clear hK K
                      (try simp only [Act.put, List.setIfInBounds_toArray, List.set_cons_zero, List.set_cons_succ])
                      refine wpAnyH_ready (rs := [18]) (by kernel_rfl) (by simp) ?_
                      refine AllReadyH.cons rfl (fun K hK => ?_) ?_
                      rotate_left 1
                      · exact AllReadyH.nil
                      go_simp
                      refine hK.out _ _ hHeld (fun _ => ?_)
                      clear hK K
                      (try simp only [Act.put, List.setIfInBounds_toArray, List.set_cons_zero, List.set_cons_succ])
                      refine wpAnyH_done (by kernel_rfl) ?_ _
                      go_wp2_with fail
                      go_meet
                      exact ⟨rfl, hHeld⟩
            · go_simp
              refine hK.out _ _ (HSS.out.alloc HSS.out.size _) (fun hHeld => ?_)
              clear hK K
              (try simp only [Act.put, List.setIfInBounds_toArray, List.set_cons_zero, List.set_cons_succ])
              have HSS2 := Lib.hid (HSS.out.alloc HSS.out.size (.cells #[.int .i64 0, .int .u64 0, .int .u64 0, .int .u64 0, .string ⟨#[]⟩, .string ⟨#[]⟩, .int .i64 0, .slice none 0 0, .slice none 0 0] 26))
              have HQ16 := Lib.hid HSS.out.size
              have C542 := Lib.hid ((Below.heap_alloc _ (.cells #[.int .i64 0, .int .u64 0, .int .u64 0, .int .u64 0, .string ⟨#[]⟩, .string ⟨#[]⟩, .int .i64 0, .slice none 0 0, .slice none 0 0] 26) _ (block_lt C54.out)).trans C54.out)
              have G16 := Lib.hid (heap_alloc_new W1_10 (.cells #[.int .i64 0, .int .u64 0, .int .u64 0, .int .u64 0, .string ⟨#[]⟩, .string ⟨#[]⟩, .int .i64 0, .slice none 0 0, .slice none 0 0] 26))
              clear HSS C54
              generalize W1_10.alloc (.cells #[.int .i64 0, .int .u64 0, .int .u64 0, .int .u64 0, .string ⟨#[]⟩, .string ⟨#[]⟩, .int .i64 0, .slice none 0 0, .slice none 0 0] 26) = W40_16 at *
              generalize W1_10.heap.size = q16 at *
              have HSS := HSS2
              have C54 := C542
              clear HSS2 C542
              refine wpAnyH_ready (rs := [1]) (by kernel_rfl) (by simp) ?_
              refine (AllReadyH.cons rfl (fun K hK => ?_) AllReadyH.nil)
              · go_simp
                refine hK.out _ _ (HSS.out.alloc HSS.out.size _) (fun hHeld => ?_)
                clear hK K
                (try simp only [Act.put, List.setIfInBounds_toArray, List.set_cons_zero, List.set_cons_succ])
                have HSS2 := Lib.hid (HSS.out.alloc HSS.out.size (.cells #[] 3))
                have HQ45 := Lib.hid HSS.out.size
                have HROW : Hid ((W40_16.alloc (.cells #[] 3)).ownsRow wc.heap.size 3 1 (.slice (some ⟨W40_16.heap.size, 0, none⟩) 0 0) 0 []) := World.ownsRow_lit W40_16 #[] 0 HSS.out.size (Nat.zero_le _) rfl
                have NE54 : Hid ((Value.slice (some ⟨W40_16.heap.size, 0, none⟩) 0 0).ownBlock ≠ some q54) := fun e => by have := block_lt C54.out; have : W40_16.heap.size = q54 := Option.some.inj e; omega
                have NE16 : Hid ((Value.slice (some ⟨W40_16.heap.size, 0, none⟩) 0 0).ownBlock ≠ some q16) := fun e => by have := block_lt G16.out; have : W40_16.heap.size = q16 := Option.some.inj e; omega
                have C542 := Lib.hid ((Below.heap_alloc _ (.cells #[] 3) _ (block_lt C54.out)).trans C54.out)
                have G162 := Lib.hid ((Below.heap_alloc _ (.cells #[] 3) _ (block_lt G16.out)).trans G16.out)
                clear HSS C54 G16
                generalize W40_16.alloc (.cells #[] 3) = W55_1 at *
                generalize W40_16.heap.size = q45 at *
                have HSS := HSS2
                have C54 := C542
                have G16 := G162
                clear HSS2 C542 G162
                refine wpAnyH_ready (rs := [6]) (by kernel_rfl) (by simp) ?_
                refine (AllReadyH.cons rfl (fun K hK => ?_) AllReadyH.nil)
                · refine step_append_held rfl (.tmp 45) (.tmp 49) 27 rfl wc.heap.size 3 i0' _ 8 Try.underlying27 HI0.out HZ.out H1.out H2.out rfl _ 0 [] rfl HROW.out A2 n2 h2 (intCells r) rfl LR.out (HI3.out.on HSS.out).cellsAt (intCells_one r) M2a M3a HSS.out.size ?_
                  intro A50 c50 W56_6 ho hg hat
                  have HSS2 := Lib.hid (HSS.out.grown hg HSS.out.size (fun z hz => (HROW.out.lt z hz).1))
                  refine hK.out _ _ HSS2.out (fun hHeld => ?_)
                  clear hK K
                  (try simp only [Act.put, List.setIfInBounds_toArray])
                  have HROW2 : Hid (W56_6.ownsRow wc.heap.size 3 1 (.slice A50 n2 c50) n2 (intCells r)) := show World.ownsRow _ _ _ _ _ _ _ from by
                    have := ho.out
                    simpa using this
                  have C542 := Lib.hid ((hg.block q54 (block_lt C54.out) (fun e => NE54.out e.symm)).trans C54.out)
                  have NE542 : Hid ((Value.slice A50 n2 c50).ownBlock ≠ some q54) := show _ ≠ _ from row_ne hat.out NE54.out (block_lt C54.out)
                  have G162 := Lib.hid ((hg.block q16 (block_lt G16.out) (fun e => NE16.out e.symm)).trans G16.out)
                  have NE162 : Hid ((Value.slice A50 n2 c50).ownBlock ≠ some q16) := show _ ≠ _ from row_ne hat.out NE16.out (block_lt G16.out)
                  clear HSS HROW hg hat C54 NE54 G16 NE16 ho
                  have HSS := HSS2
                  have HROW := HROW2
                  have C54 := C542
                  have NE54 := NE542
                  have G16 := G162
                  have NE16 := NE162
                  clear HSS2 HROW2 C542 NE542 G162 NE162
                  (try simp only [Nat.zero_add])
                  refine wpAnyH_ready (rs := [11]) (by kernel_rfl) (by simp) ?_
                  refine (AllReadyH.cons rfl (fun K hK => ?_) AllReadyH.nil)
                  · refine step_append_held rfl (.tmp 50) (.tmp 54) 27 rfl wc.heap.size 3 i0' _ 8 Try.underlying27 HI0.out HZ.out H1.out H2.out rfl _ n2 (intCells r) rfl HROW.out (some ⟨q54, 0, none⟩) 1 1 [.int .i64 (ln : Int)] rfl rfl (fun _ => ⟨_, rfl, World.news_of_block (cs := #[.int .i64 (ln : Int)]) (t := 3) (fr := (0, 0)) C54.out⟩) (O1 _ rfl) M2b M3b HSS.out.size ?_
                    intro A55 c55 W57_11 ho hg hat
                    have HSS2 := Lib.hid (HSS.out.grown hg HSS.out.size (fun z hz => (HROW.out.lt z hz).1))
                    refine hK.out _ _ HSS2.out (fun hHeld => ?_)
                    clear hK K
                    (try simp only [Act.put])
                    have HII : Hid (Ints W57_11 (· < W57_11.heap.size) A55 (n2 + 1) (r ++ [(ln : Int)])) := own_ints (by unfold intCells; rw [List.map_append]; exact ho.out)
                    have G162 := Lib.hid ((hg.block q16 (block_lt G16.out) (fun e => NE16.out e.symm)).trans G16.out)
                    clear HSS HROW hg hat C54 NE54 G16 NE16 ho
                    have HSS := HSS2
                    have G16 := G162
                    clear HSS2 G162
                    refine wpAnyH_ready (rs := [12]) (by kernel_rfl) (by simp) ?_
                    refine (AllReadyH.cons rfl (fun K hK => ?_) AllReadyH.nil)
                    · go_simp
                      go_at_call 9
                      (with_reducible refine (cG2.out _ HSS.out A55 c55 HII.out).mono ?_)
                      rintro e W58_12 ⟨rfl, B7⟩
                      go_wp2_with fail
                      have HSS2 := Lib.hid (low17 HSS.out B7)
                      refine hK.out _ _ HSS2.out (fun hHeld => ?_)
                      clear hK K
                      (try simp only [Act.put, List.setIfInBounds_toArray, List.set_cons_zero, List.set_cons_succ])
                      have G162 := Lib.hid ((B7.block _ (block_lt G16.out)).trans G16.out)
                      clear HSS HII B7 G16
                      have HSS := HSS2
                      have G16 := G162
                      clear HSS2 G162
                      refine wpAnyH_take (i := 13) (v := ?_) rfl (by kernel_rfl) (by kernel_rfl) (by kernel_rfl) (fun _ _ _ h => h) (Or.inl ⟨by rfl, ?_⟩) (by assumption) ?_
                      rotate_left 1
                      · intro V hSw
                        (try dsimp only at hSw)
                        go_simp
                        (try with_reducible rfl)
                      (try simp only [Act.put, List.setIfInBounds_toArray])
                      refine wpAnyH_take (i := 14) (v := ?_) rfl (by kernel_rfl) (by kernel_rfl) (by kernel_rfl) (fun _ _ _ h => h) (Or.inl ⟨by rfl, ?_⟩) (by assumption) ?_
                      rotate_left 1
                      · intro V hSw
                        (try dsimp only at hSw)
                        go_simp
                        (try with_reducible rfl)
                      (try simp only [Act.put])
                      refine wpAnyH_take (i := 15) (v := ?_) rfl (by kernel_rfl) (by kernel_rfl) (by kernel_rfl) (fun _ _ _ h => h) (Or.inl ⟨by rfl, ?_⟩) (by assumption) ?_
                      rotate_left 1
                      · intro V hSw
                        (try dsimp only at hSw)
                        go_simp
                        (try with_reducible rfl)
                      (try simp only [Act.put])
                      have z9 := G16.out
                      have z0 : W58_12.cell? ⟨q16, 0, none⟩ = some (.int .i64 0) := (block_cell z9 _).trans rfl
                      have f0 : W58_12.frozen? ⟨q16, 0, none⟩ = false := block_frozen z9 0
                      have z1 : W58_12.cell? ⟨q16, 1, none⟩ = some (.int .u64 0) := (block_cell z9 _).trans rfl
                      have f1 : W58_12.frozen? ⟨q16, 1, none⟩ = false := block_frozen z9 1
                      have z2 : W58_12.cell? ⟨q16, 2, none⟩ = some (.int .u64 0) := (block_cell z9 _).trans rfl
                      have f2 : W58_12.frozen? ⟨q16, 2, none⟩ = false := block_frozen z9 2
                      have z3 : W58_12.cell? ⟨q16, 3, none⟩ = some (.int .u64 0) := (block_cell z9 _).trans rfl
                      have f3 : W58_12.frozen? ⟨q16, 3, none⟩ = false := block_frozen z9 3
                      have z4 : W58_12.cell? ⟨q16, 4, none⟩ = some (.string ⟨#[]⟩) := (block_cell z9 _).trans rfl
                      have f4 : W58_12.frozen? ⟨q16, 4, none⟩ = false := block_frozen z9 4
                      have z5 : W58_12.cell? ⟨q16, 5, none⟩ = some (.string ⟨#[]⟩) := (block_cell z9 _).trans rfl
                      have f5 : W58_12.frozen? ⟨q16, 5, none⟩ = false := block_frozen z9 5
                      have z6 : W58_12.cell? ⟨q16, 6, none⟩ = some (.int .i64 0) := (block_cell z9 _).trans rfl
                      have f6 : W58_12.frozen? ⟨q16, 6, none⟩ = false := block_frozen z9 6
                      have z7 : W58_12.cell? ⟨q16, 7, none⟩ = some (.slice none 0 0) := (block_cell z9 _).trans rfl
                      have f7 : W58_12.frozen? ⟨q16, 7, none⟩ = false := block_frozen z9 7
                      have z8 : W58_12.cell? ⟨q16, 8, none⟩ = some (.slice none 0 0) := (block_cell z9 _).trans rfl
                      have f8 : W58_12.frozen? ⟨q16, 8, none⟩ = false := block_frozen z9 8
                      refine wpAnyH_ready (rs := [17]) (by kernel_rfl) (by simp) ?_
                      refine AllReadyH.cons rfl (fun K hK => ?_) ?_
                      rotate_left 1
                      · exact AllReadyH.nil
                      go_simp
                      refine hK.out _ _ (below_nine HSS.out HQ16.out _ _ _ _ _ _ _ _ _) (fun hHeld => ?_)
                      clear hK K
                      (try simp only [Act.put, List.setIfInBounds_toArray, List.set_cons_zero, List.set_cons_succ])
                      refine wpAnyH_ready (rs := [18]) (by kernel_rfl) (by simp) ?_
                      refine AllReadyH.cons rfl (fun K hK => ?_) ?_
                      rotate_left 1
                      · exact AllReadyH.nil
                      go_simp
                      refine hK.out _ _ hHeld (fun _ => ?_)
                      clear hK K
                      (try simp only [Act.put, List.setIfInBounds_toArray, List.set_cons_zero, List.set_cons_succ])
                      refine wpAnyH_done (by kernel_rfl) ?_ _
                      go_wp2_with fail
                      go_meet
                      exact ⟨rfl, hHeld⟩
          · go_simp
            refine hK.out _ _ (HSS.out.alloc HSS.out.size _) (fun hHeld => ?_)
            clear hK K
            (try simp only [Act.put, List.setIfInBounds_toArray, List.set_cons_zero, List.set_cons_succ])
            have HSS2 := Lib.hid (HSS.out.alloc HSS.out.size (.cells #[.int .i64 0, .int .u64 0, .int .u64 0, .int .u64 0, .string ⟨#[]⟩, .string ⟨#[]⟩, .int .i64 0, .slice none 0 0, .slice none 0 0] 26))
            have HQ16 := Lib.hid HSS.out.size
            have G16 := Lib.hid (heap_alloc_new wd (.cells #[.int .i64 0, .int .u64 0, .int .u64 0, .int .u64 0, .string ⟨#[]⟩, .string ⟨#[]⟩, .int .i64 0, .slice none 0 0, .slice none 0 0] 26))
            clear HSS
            generalize wd.alloc (.cells #[.int .i64 0, .int .u64 0, .int .u64 0, .int .u64 0, .string ⟨#[]⟩, .string ⟨#[]⟩, .int .i64 0, .slice none 0 0, .slice none 0 0] 26) = W1_16 at *
            generalize wd.heap.size = q16 at *
            have HSS := HSS2
            clear HSS2
            refine wpAnyH_ready (rs := [1, 10]) (by kernel_rfl) (by simp) ?_
            refine (AllReadyH.cons rfl (fun K hK => ?_) (AllReadyH.cons rfl (fun K hK => ?_) AllReadyH.nil))
            · go_simp
              refine hK.out _ _ (HSS.out.alloc HSS.out.size _) (fun hHeld => ?_)
              clear hK K
              (try simp only [Act.put, List.setIfInBounds_toArray, List.set_cons_zero, List.set_cons_succ])
              have HSS2 := Lib.hid (HSS.out.alloc HSS.out.size (.cells #[] 3))
              have HQ45 := Lib.hid HSS.out.size
              have HROW : Hid ((W1_16.alloc (.cells #[] 3)).ownsRow wc.heap.size 3 1 (.slice (some ⟨W1_16.heap.size, 0, none⟩) 0 0) 0 []) := World.ownsRow_lit W1_16 #[] 0 HSS.out.size (Nat.zero_le _) rfl
              have NE16 : Hid ((Value.slice (some ⟨W1_16.heap.size, 0, none⟩) 0 0).ownBlock ≠ some q16) := fun e => by have := block_lt G16.out; have : W1_16.heap.size = q16 := Option.some.inj e; omega
              have G162 := Lib.hid ((Below.heap_alloc _ (.cells #[] 3) _ (block_lt G16.out)).trans G16.out)
              clear HSS G16
              generalize W1_16.alloc (.cells #[] 3) = W60_1 at *
              generalize W1_16.heap.size = q45 at *
              have HSS := HSS2
              have G16 := G162
              clear HSS2 G162
              refine wpAnyH_ready (rs := [6, 10]) (by kernel_rfl) (by simp) ?_
              refine (AllReadyH.cons rfl (fun K hK => ?_) (AllReadyH.cons rfl (fun K hK => ?_) AllReadyH.nil))
              · refine step_append_held rfl (.tmp 45) (.tmp 49) 27 rfl wc.heap.size 3 i0' _ 8 Try.underlying27 HI0.out HZ.out H1.out H2.out rfl _ 0 [] rfl HROW.out A2 n2 h2 (intCells r) rfl LR.out (HI3.out.on HSS.out).cellsAt (intCells_one r) M2a M3a HSS.out.size ?_
                intro A50 c50 W61_6 ho hg hat
                have HSS2 := Lib.hid (HSS.out.grown hg HSS.out.size (fun z hz => (HROW.out.lt z hz).1))
                refine hK.out _ _ HSS2.out (fun hHeld => ?_)
                clear hK K
                (try simp only [Act.put, List.setIfInBounds_toArray])
                have HROW2 : Hid (W61_6.ownsRow wc.heap.size 3 1 (.slice A50 n2 c50) n2 (intCells r)) := show World.ownsRow _ _ _ _ _ _ _ from by
                  have := ho.out
                  simpa using this
                have G162 := Lib.hid ((hg.block q16 (block_lt G16.out) (fun e => NE16.out e.symm)).trans G16.out)
                have NE162 : Hid ((Value.slice A50 n2 c50).ownBlock ≠ some q16) := show _ ≠ _ from row_ne hat.out NE16.out (block_lt G16.out)
                clear HSS HROW hg hat G16 NE16 ho
                have HSS := HSS2
                have HROW := HROW2
                have G16 := G162
                have NE16 := NE162
                clear HSS2 HROW2 G162 NE162
                (try simp only [Nat.zero_add])
                refine wpAnyH_ready (rs := [10]) (by kernel_rfl) (by simp) ?_
                refine (AllReadyH.cons rfl (fun K hK => ?_) AllReadyH.nil)
                · go_simp
                  refine hK.out _ _ (HSS.out.alloc HSS.out.size _) (fun hHeld => ?_)
                  clear hK K
                  (try simp only [Act.put, List.setIfInBounds_toArray, List.set_cons_zero, List.set_cons_succ])
                  have HSS2 := Lib.hid (HSS.out.alloc HSS.out.size (.cells #[.int .i64 (ln : Int)] 3))
                  have HQ54 := Lib.hid HSS.out.size
                  have HROW2 := Lib.hid (HROW.out.alloc (.cells #[.int .i64 (ln : Int)] 3))
                  have NE54 : Hid ((Value.slice A50 n2 c50).ownBlock ≠ some W61_6.heap.size) := fun e => by have := (HROW.out.lt _ e).2; omega
                  have G162 := Lib.hid ((Below.heap_alloc _ (.cells #[.int .i64 (ln : Int)] 3) _ (block_lt G16.out)).trans G16.out)
                  have C54 := Lib.hid (heap_alloc_new W61_6 (.cells #[.int .i64 (ln : Int)] 3))
                  clear HSS HROW G16
                  generalize W61_6.alloc (.cells #[.int .i64 (ln : Int)] 3) = W62_10 at *
                  generalize W61_6.heap.size = q54 at *
                  have HSS := HSS2
                  have HROW := HROW2
                  have G16 := G162
                  clear HSS2 HROW2 G162
                  refine wpAnyH_ready (rs := [11]) (by kernel_rfl) (by simp) ?_
                  refine (AllReadyH.cons rfl (fun K hK => ?_) AllReadyH.nil)
                  · refine step_append_held rfl (.tmp 50) (.tmp 54) 27 rfl wc.heap.size 3 i0' _ 8 Try.underlying27 HI0.out HZ.out H1.out H2.out rfl _ n2 (intCells r) rfl HROW.out (some ⟨q54, 0, none⟩) 1 1 [.int .i64 (ln : Int)] rfl rfl (fun _ => ⟨_, rfl, World.news_of_block (cs := #[.int .i64 (ln : Int)]) (t := 3) (fr := (0, 0)) C54.out⟩) (O1 _ rfl) M2b M3b HSS.out.size ?_
                    intro A55 c55 W63_11 ho hg hat
                    have HSS2 := Lib.hid (HSS.out.grown hg HSS.out.size (fun z hz => (HROW.out.lt z hz).1))
                    refine hK.out _ _ HSS2.out (fun hHeld => ?_)
                    clear hK K
                    (try simp only [Act.put, List.setIfInBounds_toArray])
                    have HII : Hid (Ints W63_11 (· < W63_11.heap.size) A55 (n2 + 1) (r ++ [(ln : Int)])) := own_ints (by unfold intCells; rw [List.map_append]; exact ho.out)
                    have G162 := Lib.hid ((hg.block q16 (block_lt G16.out) (fun e => NE16.out e.symm)).trans G16.out)
                    clear HSS HROW hg hat C54 NE54 G16 NE16 ho
                    have HSS := HSS2
                    have G16 := G162
                    clear HSS2 G162
                    refine wpAnyH_ready (rs := [12]) (by kernel_rfl) (by simp) ?_
                    refine (AllReadyH.cons rfl (fun K hK => ?_) AllReadyH.nil)
                    · go_simp
                      go_at_call 9
                      (with_reducible refine (cG2.out _ HSS.out A55 c55 HII.out).mono ?_)
                      rintro e W64_12 ⟨rfl, B7⟩
                      go_wp2_with fail
                      have HSS2 := Lib.hid (low17 HSS.out B7)
                      refine hK.out _ _ HSS2.out (fun hHeld => ?_)
                      clear hK K
                      (try simp only [Act.put, List.setIfInBounds_toArray, List.set_cons_zero, List.set_cons_succ])
                      have G162 := Lib.hid ((B7.block _ (block_lt G16.out)).trans G16.out)
                      clear HSS HII B7 G16
                      have HSS := HSS2
                      have G16 := G162
                      clear HSS2 G162
                      refine wpAnyH_take (i := 13) (v := ?_) rfl (by kernel_rfl) (by kernel_rfl) (by kernel_rfl) (fun _ _ _ h => h) (Or.inl ⟨by rfl, ?_⟩) (by assumption) ?_
                      rotate_left 1
                      · intro V hSw
                        (try dsimp only at hSw)
                        go_simp
                        (try with_reducible rfl)
                      (try simp only [Act.put, List.setIfInBounds_toArray])
                      refine wpAnyH_take (i := 14) (v := ?_) rfl (by kernel_rfl) (by kernel_rfl) (by kernel_rfl) (fun _ _ _ h => h) (Or.inl ⟨by rfl, ?_⟩) (by assumption) ?_
                      rotate_left 1
                      · intro V hSw
                        (try dsimp only at hSw)
                        go_simp
                        (try with_reducible rfl)
                      (try simp only [Act.put])
                      refine wpAnyH_take (i := 15) (v := ?_) rfl (by kernel_rfl) (by kernel_rfl) (by kernel_rfl) (fun _ _ _ h => h) (Or.inl ⟨by rfl, ?_⟩) (by assumption) ?_
                      rotate_left 1
                      · intro V hSw
                        (try dsimp only at hSw)
                        go_simp
                        (try with_reducible rfl)
                      (try simp only [Act.put])
                      have z9 := G16.out
                      have z0 : W64_12.cell? ⟨q16, 0, none⟩ = some (.int .i64 0) := (block_cell z9 _).trans rfl
                      have f0 : W64_12.frozen? ⟨q16, 0, none⟩ = false := block_frozen z9 0
                      have z1 : W64_12.cell? ⟨q16, 1, none⟩ = some (.int .u64 0) := (block_cell z9 _).trans rfl
                      have f1 : W64_12.frozen? ⟨q16, 1, none⟩ = false := block_frozen z9 1
                      have z2 : W64_12.cell? ⟨q16, 2, none⟩ = some (.int .u64 0) := (block_cell z9 _).trans rfl
                      have f2 : W64_12.frozen? ⟨q16, 2, none⟩ = false := block_frozen z9 2
                      have z3 : W64_12.cell? ⟨q16, 3, none⟩ = some (.int .u64 0) := (block_cell z9 _).trans rfl
                      have f3 : W64_12.frozen? ⟨q16, 3, none⟩ = false := block_frozen z9 3
                      have z4 : W64_12.cell? ⟨q16, 4, none⟩ = some (.string ⟨#[]⟩) := (block_cell z9 _).trans rfl
                      have f4 : W64_12.frozen? ⟨q16, 4, none⟩ = false := block_frozen z9 4
                      have z5 : W64_12.cell? ⟨q16, 5, none⟩ = some (.string ⟨#[]⟩) := (block_cell z9 _).trans rfl
                      have f5 : W64_12.frozen? ⟨q16, 5, none⟩ = false := block_frozen z9 5
                      have z6 : W64_12.cell? ⟨q16, 6, none⟩ = some (.int .i64 0) := (block_cell z9 _).trans rfl
                      have f6 : W64_12.frozen? ⟨q16, 6, none⟩ = false := block_frozen z9 6
                      have z7 : W64_12.cell? ⟨q16, 7, none⟩ = some (.slice none 0 0) := (block_cell z9 _).trans rfl
                      have f7 : W64_12.frozen? ⟨q16, 7, none⟩ = false := block_frozen z9 7
                      have z8 : W64_12.cell? ⟨q16, 8, none⟩ = some (.slice none 0 0) := (block_cell z9 _).trans rfl
                      have f8 : W64_12.frozen? ⟨q16, 8, none⟩ = false := block_frozen z9 8
                      refine wpAnyH_ready (rs := [17]) (by kernel_rfl) (by simp) ?_
                      refine AllReadyH.cons rfl (fun K hK => ?_) ?_
                      rotate_left 1
                      · exact AllReadyH.nil
                      go_simp
                      refine hK.out _ _ (below_nine HSS.out HQ16.out _ _ _ _ _ _ _ _ _) (fun hHeld => ?_)
                      clear hK K
                      (try simp only [Act.put, List.setIfInBounds_toArray, List.set_cons_zero, List.set_cons_succ])
                      refine wpAnyH_ready (rs := [18]) (by kernel_rfl) (by simp) ?_
                      refine AllReadyH.cons rfl (fun K hK => ?_) ?_
                      rotate_left 1
                      · exact AllReadyH.nil
                      go_simp
                      refine hK.out _ _ hHeld (fun _ => ?_)
                      clear hK K
                      (try simp only [Act.put, List.setIfInBounds_toArray, List.set_cons_zero, List.set_cons_succ])
                      refine wpAnyH_done (by kernel_rfl) ?_ _
                      go_wp2_with fail
                      go_meet
                      exact ⟨rfl, hHeld⟩
              · go_simp
                refine hK.out _ _ (HSS.out.alloc HSS.out.size _) (fun hHeld => ?_)
                clear hK K
                (try simp only [Act.put, List.setIfInBounds_toArray, List.set_cons_zero, List.set_cons_succ])
                have HSS2 := Lib.hid (HSS.out.alloc HSS.out.size (.cells #[.int .i64 (ln : Int)] 3))
                have HQ54 := Lib.hid HSS.out.size
                have HROW2 := Lib.hid (HROW.out.alloc (.cells #[.int .i64 (ln : Int)] 3))
                have NE54 : Hid ((Value.slice (some ⟨q45, 0, none⟩) 0 0).ownBlock ≠ some W60_1.heap.size) := fun e => by have := (HROW.out.lt _ e).2; omega
                have G162 := Lib.hid ((Below.heap_alloc _ (.cells #[.int .i64 (ln : Int)] 3) _ (block_lt G16.out)).trans G16.out)
                have C54 := Lib.hid (heap_alloc_new W60_1 (.cells #[.int .i64 (ln : Int)] 3))
                clear HSS HROW G16
                generalize W60_1.alloc (.cells #[.int .i64 (ln : Int)] 3) = W61_10 at *
                generalize W60_1.heap.size = q54 at *
                have HSS := HSS2
                have HROW := HROW2
                have G16 := G162
                clear HSS2 HROW2 G162
                refine wpAnyH_ready (rs := [6]) (by kernel_rfl) (by simp) ?_
                refine (AllReadyH.cons rfl (fun K hK => ?_) AllReadyH.nil)
                · refine step_append_held rfl (.tmp 45) (.tmp 49) 27 rfl wc.heap.size 3 i0' _ 8 Try.underlying27 HI0.out HZ.out H1.out H2.out rfl _ 0 [] rfl HROW.out A2 n2 h2 (intCells r) rfl LR.out (HI3.out.on HSS.out).cellsAt (intCells_one r) M2a M3a HSS.out.size ?_
                  intro A50 c50 W66_6 ho hg hat
                  have HSS2 := Lib.hid (HSS.out.grown hg HSS.out.size (fun z hz => (HROW.out.lt z hz).1))
                  refine hK.out _ _ HSS2.out (fun hHeld => ?_)
                  clear hK K
                  (try simp only [Act.put, List.setIfInBounds_toArray])
                  have HROW2 : Hid (W66_6.ownsRow wc.heap.size 3 1 (.slice A50 n2 c50) n2 (intCells r)) := show World.ownsRow _ _ _ _ _ _ _ from by
                    have := ho.out
                    simpa using this
                  have C542 := Lib.hid ((hg.block q54 (block_lt C54.out) (fun e => NE54.out e.symm)).trans C54.out)
                  have NE542 : Hid ((Value.slice A50 n2 c50).ownBlock ≠ some q54) := show _ ≠ _ from row_ne hat.out NE54.out (block_lt C54.out)
                  have G162 := Lib.hid ((hg.block q16 (block_lt G16.out) (fun e => NE16.out e.symm)).trans G16.out)
                  have NE162 : Hid ((Value.slice A50 n2 c50).ownBlock ≠ some q16) := show _ ≠ _ from row_ne hat.out NE16.out (block_lt G16.out)
                  clear HSS HROW hg hat C54 NE54 G16 NE16 ho
                  have HSS := HSS2
                  have HROW := HROW2
                  have C54 := C542
                  have NE54 := NE542
                  have G16 := G162
                  have NE16 := NE162
                  clear HSS2 HROW2 C542 NE542 G162 NE162
                  (try simp only [Nat.zero_add])
                  refine wpAnyH_ready (rs := [11]) (by kernel_rfl) (by simp) ?_
                  refine (AllReadyH.cons rfl (fun K hK => ?_) AllReadyH.nil)
                  · refine step_append_held rfl (.tmp 50) (.tmp 54) 27 rfl wc.heap.size 3 i0' _ 8 Try.underlying27 HI0.out HZ.out H1.out H2.out rfl _ n2 (intCells r) rfl HROW.out (some ⟨q54, 0, none⟩) 1 1 [.int .i64 (ln : Int)] rfl rfl (fun _ => ⟨_, rfl, World.news_of_block (cs := #[.int .i64 (ln : Int)]) (t := 3) (fr := (0, 0)) C54.out⟩) (O1 _ rfl) M2b M3b HSS.out.size ?_
                    intro A55 c55 W67_11 ho hg hat
                    have HSS2 := Lib.hid (HSS.out.grown hg HSS.out.size (fun z hz => (HROW.out.lt z hz).1))
                    refine hK.out _ _ HSS2.out (fun hHeld => ?_)
                    clear hK K
                    (try simp only [Act.put])
                    have HII : Hid (Ints W67_11 (· < W67_11.heap.size) A55 (n2 + 1) (r ++ [(ln : Int)])) := own_ints (by unfold intCells; rw [List.map_append]; exact ho.out)
                    have G162 := Lib.hid ((hg.block q16 (block_lt G16.out) (fun e => NE16.out e.symm)).trans G16.out)
                    clear HSS HROW hg hat C54 NE54 G16 NE16 ho
                    have HSS := HSS2
                    have G16 := G162
                    clear HSS2 G162
                    refine wpAnyH_ready (rs := [12]) (by kernel_rfl) (by simp) ?_
                    refine (AllReadyH.cons rfl (fun K hK => ?_) AllReadyH.nil)
                    · go_simp
                      go_at_call 9
                      (with_reducible refine (cG2.out _ HSS.out A55 c55 HII.out).mono ?_)
                      rintro e W68_12 ⟨rfl, B7⟩
                      go_wp2_with fail
                      have HSS2 := Lib.hid (low17 HSS.out B7)
                      refine hK.out _ _ HSS2.out (fun hHeld => ?_)
                      clear hK K
                      (try simp only [Act.put, List.setIfInBounds_toArray, List.set_cons_zero, List.set_cons_succ])
                      have G162 := Lib.hid ((B7.block _ (block_lt G16.out)).trans G16.out)
                      clear HSS HII B7 G16
                      have HSS := HSS2
                      have G16 := G162
                      clear HSS2 G162
                      refine wpAnyH_take (i := 13) (v := ?_) rfl (by kernel_rfl) (by kernel_rfl) (by kernel_rfl) (fun _ _ _ h => h) (Or.inl ⟨by rfl, ?_⟩) (by assumption) ?_
                      rotate_left 1
                      · intro V hSw
                        (try dsimp only at hSw)
                        go_simp
                        (try with_reducible rfl)
                      (try simp only [Act.put, List.setIfInBounds_toArray])
                      refine wpAnyH_take (i := 14) (v := ?_) rfl (by kernel_rfl) (by kernel_rfl) (by kernel_rfl) (fun _ _ _ h => h) (Or.inl ⟨by rfl, ?_⟩) (by assumption) ?_
                      rotate_left 1
                      · intro V hSw
                        (try dsimp only at hSw)
                        go_simp
                        (try with_reducible rfl)
                      (try simp only [Act.put])
                      refine wpAnyH_take (i := 15) (v := ?_) rfl (by kernel_rfl) (by kernel_rfl) (by kernel_rfl) (fun _ _ _ h => h) (Or.inl ⟨by rfl, ?_⟩) (by assumption) ?_
                      rotate_left 1
                      · intro V hSw
                        (try dsimp only at hSw)
                        go_simp
                        (try with_reducible rfl)
                      (try simp only [Act.put])
                      have z9 := G16.out
                      have z0 : W68_12.cell? ⟨q16, 0, none⟩ = some (.int .i64 0) := (block_cell z9 _).trans rfl
                      have f0 : W68_12.frozen? ⟨q16, 0, none⟩ = false := block_frozen z9 0
                      have z1 : W68_12.cell? ⟨q16, 1, none⟩ = some (.int .u64 0) := (block_cell z9 _).trans rfl
                      have f1 : W68_12.frozen? ⟨q16, 1, none⟩ = false := block_frozen z9 1
                      have z2 : W68_12.cell? ⟨q16, 2, none⟩ = some (.int .u64 0) := (block_cell z9 _).trans rfl
                      have f2 : W68_12.frozen? ⟨q16, 2, none⟩ = false := block_frozen z9 2
                      have z3 : W68_12.cell? ⟨q16, 3, none⟩ = some (.int .u64 0) := (block_cell z9 _).trans rfl
                      have f3 : W68_12.frozen? ⟨q16, 3, none⟩ = false := block_frozen z9 3
                      have z4 : W68_12.cell? ⟨q16, 4, none⟩ = some (.string ⟨#[]⟩) := (block_cell z9 _).trans rfl
                      have f4 : W68_12.frozen? ⟨q16, 4, none⟩ = false := block_frozen z9 4
                      have z5 : W68_12.cell? ⟨q16, 5, none⟩ = some (.string ⟨#[]⟩) := (block_cell z9 _).trans rfl
                      have f5 : W68_12.frozen? ⟨q16, 5, none⟩ = false := block_frozen z9 5
                      have z6 : W68_12.cell? ⟨q16, 6, none⟩ = some (.int .i64 0) := (block_cell z9 _).trans rfl
                      have f6 : W68_12.frozen? ⟨q16, 6, none⟩ = false := block_frozen z9 6
                      have z7 : W68_12.cell? ⟨q16, 7, none⟩ = some (.slice none 0 0) := (block_cell z9 _).trans rfl
                      have f7 : W68_12.frozen? ⟨q16, 7, none⟩ = false := block_frozen z9 7
                      have z8 : W68_12.cell? ⟨q16, 8, none⟩ = some (.slice none 0 0) := (block_cell z9 _).trans rfl
                      have f8 : W68_12.frozen? ⟨q16, 8, none⟩ = false := block_frozen z9 8
                      refine wpAnyH_ready (rs := [17]) (by kernel_rfl) (by simp) ?_
                      refine AllReadyH.cons rfl (fun K hK => ?_) ?_
                      rotate_left 1
                      · exact AllReadyH.nil
                      go_simp
                      refine hK.out _ _ (below_nine HSS.out HQ16.out _ _ _ _ _ _ _ _ _) (fun hHeld => ?_)
                      clear hK K
                      (try simp only [Act.put, List.setIfInBounds_toArray, List.set_cons_zero, List.set_cons_succ])
                      refine wpAnyH_ready (rs := [18]) (by kernel_rfl) (by simp) ?_
                      refine AllReadyH.cons rfl (fun K hK => ?_) ?_
                      rotate_left 1
                      · exact AllReadyH.nil
                      go_simp
                      refine hK.out _ _ hHeld (fun _ => ?_)
                      clear hK K
                      (try simp only [Act.put, List.setIfInBounds_toArray, List.set_cons_zero, List.set_cons_succ])
                      refine wpAnyH_done (by kernel_rfl) ?_ _
                      go_wp2_with fail
                      go_meet
                      exact ⟨rfl, hHeld⟩
            · go_simp
              refine hK.out _ _ (HSS.out.alloc HSS.out.size _) (fun hHeld => ?_)
              clear hK K
              (try simp only [Act.put, List.setIfInBounds_toArray, List.set_cons_zero, List.set_cons_succ])
              have HSS2 := Lib.hid (HSS.out.alloc HSS.out.size (.cells #[.int .i64 (ln : Int)] 3))
              have HQ54 := Lib.hid HSS.out.size
              have G162 := Lib.hid ((Below.heap_alloc _ (.cells #[.int .i64 (ln : Int)] 3) _ (block_lt G16.out)).trans G16.out)
              have C54 := Lib.hid (heap_alloc_new W1_16 (.cells #[.int .i64 (ln : Int)] 3))
              clear HSS G16
              generalize W1_16.alloc (.cells #[.int .i64 (ln : Int)] 3) = W60_10 at *
              generalize W1_16.heap.size = q54 at *
              have HSS := HSS2
              have G16 := G162
              clear HSS2 G162
              refine wpAnyH_ready (rs := [1]) (by kernel_rfl) (by simp) ?_
              refine (AllReadyH.cons rfl (fun K hK => ?_) AllReadyH.nil)
              · go_simp
                refine hK.out _ _ (HSS.out.alloc HSS.out.size _) (fun hHeld => ?_)
                clear hK K
                (try simp only [Act.put, List.setIfInBounds_toArray, List.set_cons_zero, List.set_cons_succ])
                have HSS2 := Lib.hid (HSS.out.alloc HSS.out.size (.cells #[] 3))
                have HQ45 := Lib.hid HSS.out.size
                have HROW : Hid ((W60_10.alloc (.cells #[] 3)).ownsRow wc.heap.size 3 1 (.slice (some ⟨W60_10.heap.size, 0, none⟩) 0 0) 0 []) := World.ownsRow_lit W60_10 #[] 0 HSS.out.size (Nat.zero_le _) rfl
                have NE54 : Hid ((Value.slice (some ⟨W60_10.heap.size, 0, none⟩) 0 0).ownBlock ≠ some q54) := fun e => by have := block_lt C54.out; have : W60_10.heap.size = q54 := Option.some.inj e; omega
                have NE16 : Hid ((Value.slice (some ⟨W60_10.heap.size, 0, none⟩) 0 0).ownBlock ≠ some q16) := fun e => by have := block_lt G16.out; have : W60_10.heap.size = q16 := Option.some.inj e; omega
                have C542 := Lib.hid ((Below.heap_alloc _ (.cells #[] 3) _ (block_lt C54.out)).trans C54.out)
                have G162 := Lib.hid ((Below.heap_alloc _ (.cells #[] 3) _ (block_lt G16.out)).trans G16.out)
                clear HSS C54 G16
                generalize W60_10.alloc (.cells #[] 3) = W70_1 at *
                generalize W60_10.heap.size = q45 at *
                have HSS := HSS2
                have C54 := C542
                have G16 := G162
                clear HSS2 C542 G162
                refine wpAnyH_ready (rs := [6]) (by kernel_rfl) (by simp) ?_
                refine (AllReadyH.cons rfl (fun K hK => ?_) AllReadyH.nil)
                · refine step_append_held rfl (.tmp 45) (.tmp 49) 27 rfl wc.heap.size 3 i0' _ 8 Try.underlying27 HI0.out HZ.out H1.out H2.out rfl _ 0 [] rfl HROW.out A2 n2 h2 (intCells r) rfl LR.out (HI3.out.on HSS.out).cellsAt (intCells_one r) M2a M3a HSS.out.size ?_
                  intro A50 c50 W71_6 ho hg hat
                  have HSS2 := Lib.hid (HSS.out.grown hg HSS.out.size (fun z hz => (HROW.out.lt z hz).1))
                  refine hK.out _ _ HSS2.out (fun hHeld => ?_)
                  clear hK K
                  (try simp only [Act.put, List.setIfInBounds_toArray])
                  have HROW2 : Hid (W71_6.ownsRow wc.heap.size 3 1 (.slice A50 n2 c50) n2 (intCells r)) := show World.ownsRow _ _ _ _ _ _ _ from by
                    have := ho.out
                    simpa using this
                  have C542 := Lib.hid ((hg.block q54 (block_lt C54.out) (fun e => NE54.out e.symm)).trans C54.out)
                  have NE542 : Hid ((Value.slice A50 n2 c50).ownBlock ≠ some q54) := show _ ≠ _ from row_ne hat.out NE54.out (block_lt C54.out)
                  have G162 := Lib.hid ((hg.block q16 (block_lt G16.out) (fun e => NE16.out e.symm)).trans G16.out)
                  have NE162 : Hid ((Value.slice A50 n2 c50).ownBlock ≠ some q16) := show _ ≠ _ from row_ne hat.out NE16.out (block_lt G16.out)
                  clear HSS HROW hg hat C54 NE54 G16 NE16 ho
                  have HSS := HSS2
                  have HROW := HROW2
                  have C54 := C542
                  have NE54 := NE542
                  have G16 := G162
                  have NE16 := NE162
                  clear HSS2 HROW2 C542 NE542 G162 NE162
                  (try simp only [Nat.zero_add])
                  refine wpAnyH_ready (rs := [11]) (by kernel_rfl) (by simp) ?_
                  refine (AllReadyH.cons rfl (fun K hK => ?_) AllReadyH.nil)
                  · refine step_append_held rfl (.tmp 50) (.tmp 54) 27 rfl wc.heap.size 3 i0' _ 8 Try.underlying27 HI0.out HZ.out H1.out H2.out rfl _ n2 (intCells r) rfl HROW.out (some ⟨q54, 0, none⟩) 1 1 [.int .i64 (ln : Int)] rfl rfl (fun _ => ⟨_, rfl, World.news_of_block (cs := #[.int .i64 (ln : Int)]) (t := 3) (fr := (0, 0)) C54.out⟩) (O1 _ rfl) M2b M3b HSS.out.size ?_
                    intro A55 c55 W72_11 ho hg hat
                    have HSS2 := Lib.hid (HSS.out.grown hg HSS.out.size (fun z hz => (HROW.out.lt z hz).1))
                    refine hK.out _ _ HSS2.out (fun hHeld => ?_)
                    clear hK K
                    (try simp only [Act.put])
                    have HII : Hid (Ints W72_11 (· < W72_11.heap.size) A55 (n2 + 1) (r ++ [(ln : Int)])) := own_ints (by unfold intCells; rw [List.map_append]; exact ho.out)
                    have G162 := Lib.hid ((hg.block q16 (block_lt G16.out) (fun e => NE16.out e.symm)).trans G16.out)
                    clear HSS HROW hg hat C54 NE54 G16 NE16 ho
                    have HSS := HSS2
                    have G16 := G162
                    clear HSS2 G162
                    refine wpAnyH_ready (rs := [12]) (by kernel_rfl) (by simp) ?_
                    refine (AllReadyH.cons rfl (fun K hK => ?_) AllReadyH.nil)
                    · go_simp
                      go_at_call 9
                      (with_reducible refine (cG2.out _ HSS.out A55 c55 HII.out).mono ?_)
                      rintro e W73_12 ⟨rfl, B7⟩
                      go_wp2_with fail
                      have HSS2 := Lib.hid (low17 HSS.out B7)
                      refine hK.out _ _ HSS2.out (fun hHeld => ?_)
                      clear hK K
                      (try simp only [Act.put, List.setIfInBounds_toArray, List.set_cons_zero, List.set_cons_succ])
                      have G162 := Lib.hid ((B7.block _ (block_lt G16.out)).trans G16.out)
                      clear HSS HII B7 G16
                      have HSS := HSS2
                      have G16 := G162
                      clear HSS2 G162
                      refine wpAnyH_take (i := 13) (v := ?_) rfl (by kernel_rfl) (by kernel_rfl) (by kernel_rfl) (fun _ _ _ h => h) (Or.inl ⟨by rfl, ?_⟩) (by assumption) ?_
                      rotate_left 1
                      · intro V hSw
                        (try dsimp only at hSw)
                        go_simp
                        (try with_reducible rfl)
                      (try simp only [Act.put, List.setIfInBounds_toArray])
                      refine wpAnyH_take (i := 14) (v := ?_) rfl (by kernel_rfl) (by kernel_rfl) (by kernel_rfl) (fun _ _ _ h => h) (Or.inl ⟨by rfl, ?_⟩) (by assumption) ?_
                      rotate_left 1
                      · intro V hSw
                        (try dsimp only at hSw)
                        go_simp
                        (try with_reducible rfl)
                      (try simp only [Act.put])
                      refine wpAnyH_take (i := 15) (v := ?_) rfl (by kernel_rfl) (by kernel_rfl) (by kernel_rfl) (fun _ _ _ h => h) (Or.inl ⟨by rfl, ?_⟩) (by assumption) ?_
                      rotate_left 1
                      · intro V hSw
                        (try dsimp only at hSw)
                        go_simp
                        (try with_reducible rfl)
                      (try simp only [Act.put])
                      have z9 := G16.out
                      have z0 : W73_12.cell? ⟨q16, 0, none⟩ = some (.int .i64 0) := (block_cell z9 _).trans rfl
                      have f0 : W73_12.frozen? ⟨q16, 0, none⟩ = false := block_frozen z9 0
                      have z1 : W73_12.cell? ⟨q16, 1, none⟩ = some (.int .u64 0) := (block_cell z9 _).trans rfl
                      have f1 : W73_12.frozen? ⟨q16, 1, none⟩ = false := block_frozen z9 1
                      have z2 : W73_12.cell? ⟨q16, 2, none⟩ = some (.int .u64 0) := (block_cell z9 _).trans rfl
                      have f2 : W73_12.frozen? ⟨q16, 2, none⟩ = false := block_frozen z9 2
                      have z3 : W73_12.cell? ⟨q16, 3, none⟩ = some (.int .u64 0) := (block_cell z9 _).trans rfl
                      have f3 : W73_12.frozen? ⟨q16, 3, none⟩ = false := block_frozen z9 3
                      have z4 : W73_12.cell? ⟨q16, 4, none⟩ = some (.string ⟨#[]⟩) := (block_cell z9 _).trans rfl
                      have f4 : W73_12.frozen? ⟨q16, 4, none⟩ = false := block_frozen z9 4
                      have z5 : W73_12.cell? ⟨q16, 5, none⟩ = some (.string ⟨#[]⟩) := (block_cell z9 _).trans rfl
                      have f5 : W73_12.frozen? ⟨q16, 5, none⟩ = false := block_frozen z9 5
                      have z6 : W73_12.cell? ⟨q16, 6, none⟩ = some (.int .i64 0) := (block_cell z9 _).trans rfl
                      have f6 : W73_12.frozen? ⟨q16, 6, none⟩ = false := block_frozen z9 6
                      have z7 : W73_12.cell? ⟨q16, 7, none⟩ = some (.slice none 0 0) := (block_cell z9 _).trans rfl
                      have f7 : W73_12.frozen? ⟨q16, 7, none⟩ = false := block_frozen z9 7
                      have z8 : W73_12.cell? ⟨q16, 8, none⟩ = some (.slice none 0 0) := (block_cell z9 _).trans rfl
                      have f8 : W73_12.frozen? ⟨q16, 8, none⟩ = false := block_frozen z9 8
                      refine wpAnyH_ready (rs := [17]) (by kernel_rfl) (by simp) ?_
                      refine AllReadyH.cons rfl (fun K hK => ?_) ?_
                      rotate_left 1
                      · exact AllReadyH.nil
                      go_simp
                      refine hK.out _ _ (below_nine HSS.out HQ16.out _ _ _ _ _ _ _ _ _) (fun hHeld => ?_)
                      clear hK K
                      (try simp only [Act.put, List.setIfInBounds_toArray, List.set_cons_zero, List.set_cons_succ])
                      refine wpAnyH_ready (rs := [18]) (by kernel_rfl) (by simp) ?_
                      refine AllReadyH.cons rfl (fun K hK => ?_) ?_
                      rotate_left 1
                      · exact AllReadyH.nil
                      go_simp
                      refine hK.out _ _ hHeld (fun _ => ?_)
                      clear hK K
                      (try simp only [Act.put, List.setIfInBounds_toArray, List.set_cons_zero, List.set_cons_succ])
                      refine wpAnyH_done (by kernel_rfl) ?_ _
                      go_wp2_with fail
                      go_meet
                      exact ⟨rfl, hHeld⟩
        case rest =>
          obtain ⟨rfl, BD⟩ := hcut
          have HBD := Lib.hid (low17 HBC6.out BD)
          clear BD cG2
          go_wp2_with fail
          go_roundw
          case rel => exact ⟨HBD.out, k + 1, HK1.out, by first | rfl | rw [u2.out]⟩
          case measure => have := HK1.out; first | (rw [u2.out]; simp [natV]; omega) | (simp [natV]; omega)
    · obtain rfl : k = N := by omega
      have d1 : decide ((k : Int) < (k : Int)) = false := decide_eq_false (by omega)
      have d1n : decide (k < k) = false := decide_eq_false (by omega)
      clear hk hlt hB hN
      go_wp2_with fail
      go_ret
      exact ⟨rfl, HB.out⟩
end Go.Proofs.Ytmkgcifcfgfegaa
