/-
  The law PathGets (chapter 18) at any tree and any path; no condition.
-/
import Derived.Test.YtmkgcifcfgfegaaAwake18
import Derived.Test.YtmkgcifcfgfegaaNamesV18
namespace Go.Proofs.Ytmkgcifcfgfegaa
set_option maxRecDepth 100000
open Go.RowKit

def zeroT : Tree := .node ⟨0, 0, 0, 0, [], [], 0, []⟩ []
theorem zero_at (w : World) (M : Nat → Prop) : TreeAt w M zeroT [.int .i64 0, .int .u64 0, .int .u64 0, .int .u64 0, .string ⟨#[]⟩, .string ⟨#[]⟩, .int .i64 0, .slice none 0 0, .slice none 0 0] := by
  unfold zeroT
  rw [TreeAt]
  exact ⟨none, 0, none, 0, rfl, ⟨by decide, by decide, by decide, by decide, by decide, by decide, by decide, Nat.zero_le _, Nat.zero_le _, Nat.zero_le _⟩, Nat.zero_le _, Held.nothing rfl, fun h => absurd rfl h⟩
theorem ansG_form {w w' : World} {r : Option Tree} {e : Ending} (h : AnsG w r e w') : ∃ (p : OwnV) (Db : Option Addr) (d : Nat) (Dk : Option Addr) (m dk : Nat), e = .returned (.tuple #[.agg #[.int .i64 p.kind, .int .u64 (p.bits : Int), .int .u64 (p.high : Int), .int .u64 (p.low : Int), .string ⟨p.text.toArray⟩, .string ⟨p.more.toArray⟩, .int .i64 p.sub, .slice Db p.bytes.length d, .slice Dk m dk], .bool r.isSome]) ∧ TreeAt w' (· < w'.heap.size) (r.getD zeroT) [.int .i64 p.kind, .int .u64 (p.bits : Int), .int .u64 (p.high : Int), .int .u64 (p.low : Int), .string ⟨p.text.toArray⟩, .string ⟨p.more.toArray⟩, .int .i64 p.sub, .slice Db p.bytes.length d, .slice Dk m dk] ∧ Below w.heap.size w w' := by
  obtain ⟨h1, h2⟩ := h
  cases r with
  | none => exact ⟨⟨0, 0, 0, 0, [], [], 0, []⟩, none, 0, none, 0, 0, h1, zero_at _ _, h2⟩
  | some t =>
    obtain ⟨p, Db, d, Dk, m, dk, h1, h3⟩ := h1
    exact ⟨p, Db, d, Dk, m, dk, h1, h3, h2⟩
theorem ansN_form {w w' : World} {r : Option (List (List UInt8))} {e : Ending} (h : AnsN w r e w') : AnsM w (r.getD []) r.isSome e w' := by
  obtain ⟨h1, h2⟩ := h
  refine ⟨?_, h2⟩
  cases r with
  | none => exact ⟨none, 0, h1, World.ownsRow_nil _ _ _ 1⟩
  | some ns => exact h1
theorem TreeAt.low {w w' : World} {t : Tree} {cs : List Value} (h : TreeAt w (· < w.heap.size) t cs) (hb : Below w.heap.size w w') : TreeAt w' (· < w'.heap.size) t cs :=
  TreeAt.weaken (fun _ hk => Nat.lt_of_lt_of_le hk hb.size) _ _ (TreeAt.keep (fun k hk => hb.block k hk) _ _ h)
set_option maxHeartbeats 8000000 in
theorem gets18 (t : Tree) (cs : List Value) (A : Option Addr) (n c : Nat) (p : List Int) (w : World) (hT : TreeAt w (· < w.heap.size) t cs) (hP : Ints w (· < w.heap.size) A n p) :
    Calls Try.prog 3 #[.agg cs.toArray, .slice A n c] w fun e w' => e = .returned (.bool true) ∧ Below w.heap.size w w' := by
  obtain ⟨c0, c1, c2, c3, c4, c5, c6, c7, c8, rfl⟩ := nine hT.len9
  have B0 : Below w.heap.size w (w.alloc (.cells #[c0, c1, c2, c3, c4, c5, c6, c7, c8] 26)) := (Below.refl _ _).alloc (Nat.le_refl _) _
  have g0 : (w.alloc (.cells #[c0, c1, c2, c3, c4, c5, c6, c7, c8] 26)).heap[w.heap.size]? = some (.cells #[c0, c1, c2, c3, c4, c5, c6, c7, c8] 26) := heap_alloc_new w _
  have cX := Lib.hid fun (V : World) (hV : Below w.heap.size w V) => small_any t _ _ _ _ _ _ _ _ _ V (hT.low hV)
  have cG := Lib.hid fun (hs : smallB t = true) (hn : n ≤ 100) (V : World) (hV : Below w.heap.size w V) => getV_any p t _ A n c V (small_brief hs) (hT.low hV) (hP.on hV) (by omega)
  have cR := Lib.hid fun (hn : n ≤ 100) (V : World) (hV : Below w.heap.size w V) => refGet_any p t _ A n c V (hT.low hV) (hP.on hV) (by omega)
  have cN := Lib.hid fun (hn : n ≤ 100) (V : World) (hV : Below w.heap.size w V) => namesV_any p t _ A n c V (hT.low hV) (hP.on hV) (by omega)
  have cM := Lib.hid fun (hn : n ≤ 100) (V : World) (hV : Below w.heap.size w V) => refNames_any p t _ A n c V (hT.low hV) (hP.on hV) (by omega)
  generalize hx : smallB t = x at *
  generalize getT t p = r at *
  generalize namesT t p = q at *
  have hnl : n ≤ 100 → True := fun _ => trivial
  have HB0 := Lib.hid B0
  have G0 := Lib.hid g0
  have cA := Lib.hid fun (V : World) => awake_any V
  clear hT hP B0 g0 hnl hx
  go_enter Try.func3, Try.ntmps3
  go_upto_region 1 with fail
  generalize w.alloc (.cells #[c0, c1, c2, c3, c4, c5, c6, c7, c8] 26) = W at *
  go_wp2_with fail
  refine (cA.out _).mono ?_
  rintro e w1 ⟨rfl, B1⟩
  have HB1 := Lib.hid (low17 HB0.out B1)
  have G1 := Lib.hid ((B1.block _ (block_lt G0.out)).trans G0.out)
  clear B1 HB0 G0 cA
  have v0 : w1.cell? ⟨w.heap.size, 0, none⟩ = some c0 := by rw [block_cell G1.out]; rfl
  have v1 : w1.cell? ⟨w.heap.size, 1, none⟩ = some c1 := by rw [block_cell G1.out]; rfl
  have v2 : w1.cell? ⟨w.heap.size, 2, none⟩ = some c2 := by rw [block_cell G1.out]; rfl
  have v3 : w1.cell? ⟨w.heap.size, 3, none⟩ = some c3 := by rw [block_cell G1.out]; rfl
  have v4 : w1.cell? ⟨w.heap.size, 4, none⟩ = some c4 := by rw [block_cell G1.out]; rfl
  have v5 : w1.cell? ⟨w.heap.size, 5, none⟩ = some c5 := by rw [block_cell G1.out]; rfl
  have v6 : w1.cell? ⟨w.heap.size, 6, none⟩ = some c6 := by rw [block_cell G1.out]; rfl
  have v7 : w1.cell? ⟨w.heap.size, 7, none⟩ = some c7 := by rw [block_cell G1.out]; rfl
  have v8 : w1.cell? ⟨w.heap.size, 8, none⟩ = some c8 := by rw [block_cell G1.out]; rfl
  go_wp2_with fail
  refine (cX.out _ HB1.out).mono ?_
  rintro e w2 ⟨rfl, B2⟩
  have HB2 := Lib.hid (low17 HB1.out B2)
  have G2 := Lib.hid ((B2.block _ (block_lt G1.out)).trans G1.out)
  clear B2 HB1 G1 cX v0 v1 v2 v3 v4 v5 v6 v7 v8
  cases x with
  | false =>
    go_wp2_with fail
    go_ret
    exact ⟨rfl, HB2.out⟩
  | true =>
  by_cases hn : 100 < n
  · have d1 : decide ((100 : Int) < (n : Int)) = true := decide_eq_true (by omega)
    have d1n : decide (100 < n) = true := decide_eq_true hn
    go_wp2_with fail
    go_ret
    exact ⟨rfl, HB2.out⟩
  have d1 : decide ((100 : Int) < (n : Int)) = false := decide_eq_false (by omega)
  have d1n : decide (100 < n) = false := decide_eq_false hn
  have hn' : n ≤ 100 := by omega
  have HNN := Lib.hid hn'
  have v0 : w2.cell? ⟨w.heap.size, 0, none⟩ = some c0 := by rw [block_cell G2.out]; rfl
  have v1 : w2.cell? ⟨w.heap.size, 1, none⟩ = some c1 := by rw [block_cell G2.out]; rfl
  have v2 : w2.cell? ⟨w.heap.size, 2, none⟩ = some c2 := by rw [block_cell G2.out]; rfl
  have v3 : w2.cell? ⟨w.heap.size, 3, none⟩ = some c3 := by rw [block_cell G2.out]; rfl
  have v4 : w2.cell? ⟨w.heap.size, 4, none⟩ = some c4 := by rw [block_cell G2.out]; rfl
  have v5 : w2.cell? ⟨w.heap.size, 5, none⟩ = some c5 := by rw [block_cell G2.out]; rfl
  have v6 : w2.cell? ⟨w.heap.size, 6, none⟩ = some c6 := by rw [block_cell G2.out]; rfl
  have v7 : w2.cell? ⟨w.heap.size, 7, none⟩ = some c7 := by rw [block_cell G2.out]; rfl
  have v8 : w2.cell? ⟨w.heap.size, 8, none⟩ = some c8 := by rw [block_cell G2.out]; rfl
  go_wp2_with fail
  refine (cG.out (by trivial) HNN.out _ HB2.out).mono ?_
  rintro e w3 hans
  obtain ⟨y, Db, d, Dk, m, dk, rfl, T3, B3⟩ := ansG_form hans
  have HB3 := Lib.hid (low17 HB2.out B3)
  have G3 := Lib.hid ((B3.block _ (block_lt G2.out)).trans G2.out)
  have B4 : Below w3.heap.size w3 (w3.alloc (.cells #[(.int .i64 y.kind), (.int .u64 (y.bits : Int)), (.int .u64 (y.high : Int)), (.int .u64 (y.low : Int)), (.string ⟨y.text.toArray⟩), (.string ⟨y.more.toArray⟩), (.int .i64 y.sub), (.slice Db y.bytes.length d), (.slice Dk m dk)] 26)) := (Below.refl _ _).alloc (Nat.le_refl _) _
  have HB4 := Lib.hid (low17 HB3.out B4)
  have G4 := Lib.hid ((B4.block _ (block_lt G3.out)).trans G3.out)
  have X4 := Lib.hid (heap_alloc_new w3 (.cells #[(.int .i64 y.kind), (.int .u64 (y.bits : Int)), (.int .u64 (y.high : Int)), (.int .u64 (y.low : Int)), (.string ⟨y.text.toArray⟩), (.string ⟨y.more.toArray⟩), (.int .i64 y.sub), (.slice Db y.bytes.length d), (.slice Dk m dk)] 26))
  have T4 := Lib.hid (T3.low B4)
  clear hans T3 B3 B4 HB2 G2 v0 v1 v2 v3 v4 v5 v6 v7 v8 HB3 G3 cG hn'
  go_upto_region 6 with fail
  clear d1 d1n
  generalize w3.alloc (.cells #[(.int .i64 y.kind), (.int .u64 (y.bits : Int)), (.int .u64 (y.high : Int)), (.int .u64 (y.low : Int)), (.string ⟨y.text.toArray⟩), (.string ⟨y.more.toArray⟩), (.int .i64 y.sub), (.slice Db y.bytes.length d), (.slice Dk m dk)] 26) = W4 at *
  have v0 : W4.cell? ⟨w.heap.size, 0, none⟩ = some c0 := by rw [block_cell G4.out]; rfl
  have v1 : W4.cell? ⟨w.heap.size, 1, none⟩ = some c1 := by rw [block_cell G4.out]; rfl
  have v2 : W4.cell? ⟨w.heap.size, 2, none⟩ = some c2 := by rw [block_cell G4.out]; rfl
  have v3 : W4.cell? ⟨w.heap.size, 3, none⟩ = some c3 := by rw [block_cell G4.out]; rfl
  have v4 : W4.cell? ⟨w.heap.size, 4, none⟩ = some c4 := by rw [block_cell G4.out]; rfl
  have v5 : W4.cell? ⟨w.heap.size, 5, none⟩ = some c5 := by rw [block_cell G4.out]; rfl
  have v6 : W4.cell? ⟨w.heap.size, 6, none⟩ = some c6 := by rw [block_cell G4.out]; rfl
  have v7 : W4.cell? ⟨w.heap.size, 7, none⟩ = some c7 := by rw [block_cell G4.out]; rfl
  have v8 : W4.cell? ⟨w.heap.size, 8, none⟩ = some c8 := by rw [block_cell G4.out]; rfl
  go_wp2_with fail
  refine (cR.out HNN.out _ HB4.out).mono ?_
  rintro e w5 hans
  obtain ⟨s, Eb, h, Ek, g, ek, rfl, T5, B5⟩ := ansG_form hans
  have B6 : Below w5.heap.size w5 (w5.alloc (.cells #[(.int .i64 s.kind), (.int .u64 (s.bits : Int)), (.int .u64 (s.high : Int)), (.int .u64 (s.low : Int)), (.string ⟨s.text.toArray⟩), (.string ⟨s.more.toArray⟩), (.int .i64 s.sub), (.slice Eb s.bytes.length h), (.slice Ek g ek)] 26)) := (Below.refl _ _).alloc (Nat.le_refl _) _
  have B56 := low17 B5 B6
  have HB6 := Lib.hid (low17 HB4.out B56)
  have G6 := Lib.hid ((B56.block _ (block_lt G4.out)).trans G4.out)
  have X6 := Lib.hid ((B56.block _ (block_lt X4.out)).trans X4.out)
  have Y6 := Lib.hid (heap_alloc_new w5 (.cells #[(.int .i64 s.kind), (.int .u64 (s.bits : Int)), (.int .u64 (s.high : Int)), (.int .u64 (s.low : Int)), (.string ⟨s.text.toArray⟩), (.string ⟨s.more.toArray⟩), (.int .i64 s.sub), (.slice Eb s.bytes.length h), (.slice Ek g ek)] 26))
  have T6 := Lib.hid (T4.out.low B56)
  have U6 := Lib.hid (T5.low B6)
  clear hans T5 B5 B6 B56 HB4 G4 v0 v1 v2 v3 v4 v5 v6 v7 v8 X4 T4 cR
  go_upto_region 7 with fail
  generalize w5.alloc (.cells #[(.int .i64 s.kind), (.int .u64 (s.bits : Int)), (.int .u64 (s.high : Int)), (.int .u64 (s.low : Int)), (.string ⟨s.text.toArray⟩), (.string ⟨s.more.toArray⟩), (.int .i64 s.sub), (.slice Eb s.bytes.length h), (.slice Ek g ek)] 26) = W6 at *
  have v0 : W6.cell? ⟨w.heap.size, 0, none⟩ = some c0 := by rw [block_cell G6.out]; rfl
  have v1 : W6.cell? ⟨w.heap.size, 1, none⟩ = some c1 := by rw [block_cell G6.out]; rfl
  have v2 : W6.cell? ⟨w.heap.size, 2, none⟩ = some c2 := by rw [block_cell G6.out]; rfl
  have v3 : W6.cell? ⟨w.heap.size, 3, none⟩ = some c3 := by rw [block_cell G6.out]; rfl
  have v4 : W6.cell? ⟨w.heap.size, 4, none⟩ = some c4 := by rw [block_cell G6.out]; rfl
  have v5 : W6.cell? ⟨w.heap.size, 5, none⟩ = some c5 := by rw [block_cell G6.out]; rfl
  have v6 : W6.cell? ⟨w.heap.size, 6, none⟩ = some c6 := by rw [block_cell G6.out]; rfl
  have v7 : W6.cell? ⟨w.heap.size, 7, none⟩ = some c7 := by rw [block_cell G6.out]; rfl
  have v8 : W6.cell? ⟨w.heap.size, 8, none⟩ = some c8 := by rw [block_cell G6.out]; rfl
  go_wp2_with fail
  refine (cN.out HNN.out _ HB6.out).mono ?_
  rintro e w7 ⟨⟨L, lc, rfl, ho7⟩, B7⟩
  have HB7 := Lib.hid (low17 HB6.out B7)
  have G7 := Lib.hid ((B7.block _ (block_lt G6.out)).trans G6.out)
  have X7 := Lib.hid ((B7.block _ (block_lt X6.out)).trans X6.out)
  have Y7 := Lib.hid ((B7.block _ (block_lt Y6.out)).trans Y6.out)
  have T7 := Lib.hid (T6.out.low B7)
  have U7 := Lib.hid (U6.out.low B7)
  have O7 := Lib.hid ho7
  clear ho7 B7 HB6 G6 v0 v1 v2 v3 v4 v5 v6 v7 v8 X6 Y6 T6 U6 cN
  go_upto_region 8 with fail
  have v0 : w7.cell? ⟨w.heap.size, 0, none⟩ = some c0 := by rw [block_cell G7.out]; rfl
  have v1 : w7.cell? ⟨w.heap.size, 1, none⟩ = some c1 := by rw [block_cell G7.out]; rfl
  have v2 : w7.cell? ⟨w.heap.size, 2, none⟩ = some c2 := by rw [block_cell G7.out]; rfl
  have v3 : w7.cell? ⟨w.heap.size, 3, none⟩ = some c3 := by rw [block_cell G7.out]; rfl
  have v4 : w7.cell? ⟨w.heap.size, 4, none⟩ = some c4 := by rw [block_cell G7.out]; rfl
  have v5 : w7.cell? ⟨w.heap.size, 5, none⟩ = some c5 := by rw [block_cell G7.out]; rfl
  have v6 : w7.cell? ⟨w.heap.size, 6, none⟩ = some c6 := by rw [block_cell G7.out]; rfl
  have v7 : w7.cell? ⟨w.heap.size, 7, none⟩ = some c7 := by rw [block_cell G7.out]; rfl
  have v8 : w7.cell? ⟨w.heap.size, 8, none⟩ = some c8 := by rw [block_cell G7.out]; rfl
  go_wp2_with fail
  refine (cM.out HNN.out _ HB7.out).mono ?_
  rintro e w8 hans
  obtain ⟨⟨M, mc, rfl, ho8⟩, B8⟩ := ansN_form hans
  have HB8 := Lib.hid (low17 HB7.out B8)
  have X8 := Lib.hid ((B8.block _ (block_lt X7.out)).trans X7.out)
  have Y8 := Lib.hid ((B8.block _ (block_lt Y7.out)).trans Y7.out)
  have T8 := T7.out.low B8
  have U8 := U7.out.low B8
  have O8 := Lib.hid (owns_up O7.out B8)
  have M8 := Lib.hid ho8
  have cS := Lib.hid (refSame_any _ _ _ _ w8 T8 U8)
  rw [sameT_self] at cS
  clear hans ho8 B8 HB7 G7 v0 v1 v2 v3 v4 v5 v6 v7 v8 X7 Y7 T7 U7 O7 cM T8 U8
  generalize r.isSome = br at *
  generalize q.isSome = bq at *
  obtain ⟨ns, hns⟩ : ∃ ns, ns = q.getD [] := ⟨_, rfl⟩
  rw [← hns] at O8 M8 ⊢
  obtain ⟨k0, hk0⟩ : ∃ k0, k0 = ns.length := ⟨_, rfl⟩
  rw [← hk0] at O8 M8 ⊢
  have HK0 := Lib.hid hk0
  clear hns hk0
  go_upto_region 9 with fail
  have x0 : w8.cell? ⟨w3.heap.size, 0, none⟩ = some (.int .i64 y.kind) := by rw [block_cell X8.out]; rfl
  have x1 : w8.cell? ⟨w3.heap.size, 1, none⟩ = some (.int .u64 (y.bits : Int)) := by rw [block_cell X8.out]; rfl
  have x2 : w8.cell? ⟨w3.heap.size, 2, none⟩ = some (.int .u64 (y.high : Int)) := by rw [block_cell X8.out]; rfl
  have x3 : w8.cell? ⟨w3.heap.size, 3, none⟩ = some (.int .u64 (y.low : Int)) := by rw [block_cell X8.out]; rfl
  have x4 : w8.cell? ⟨w3.heap.size, 4, none⟩ = some (.string ⟨y.text.toArray⟩) := by rw [block_cell X8.out]; rfl
  have x5 : w8.cell? ⟨w3.heap.size, 5, none⟩ = some (.string ⟨y.more.toArray⟩) := by rw [block_cell X8.out]; rfl
  have x6 : w8.cell? ⟨w3.heap.size, 6, none⟩ = some (.int .i64 y.sub) := by rw [block_cell X8.out]; rfl
  have x7 : w8.cell? ⟨w3.heap.size, 7, none⟩ = some (.slice Db y.bytes.length d) := by rw [block_cell X8.out]; rfl
  have x8 : w8.cell? ⟨w3.heap.size, 8, none⟩ = some (.slice Dk m dk) := by rw [block_cell X8.out]; rfl
  have y0 : w8.cell? ⟨w5.heap.size, 0, none⟩ = some (.int .i64 s.kind) := by rw [block_cell Y8.out]; rfl
  have y1 : w8.cell? ⟨w5.heap.size, 1, none⟩ = some (.int .u64 (s.bits : Int)) := by rw [block_cell Y8.out]; rfl
  have y2 : w8.cell? ⟨w5.heap.size, 2, none⟩ = some (.int .u64 (s.high : Int)) := by rw [block_cell Y8.out]; rfl
  have y3 : w8.cell? ⟨w5.heap.size, 3, none⟩ = some (.int .u64 (s.low : Int)) := by rw [block_cell Y8.out]; rfl
  have y4 : w8.cell? ⟨w5.heap.size, 4, none⟩ = some (.string ⟨s.text.toArray⟩) := by rw [block_cell Y8.out]; rfl
  have y5 : w8.cell? ⟨w5.heap.size, 5, none⟩ = some (.string ⟨s.more.toArray⟩) := by rw [block_cell Y8.out]; rfl
  have y6 : w8.cell? ⟨w5.heap.size, 6, none⟩ = some (.int .i64 s.sub) := by rw [block_cell Y8.out]; rfl
  have y7 : w8.cell? ⟨w5.heap.size, 7, none⟩ = some (.slice Eb s.bytes.length h) := by rw [block_cell Y8.out]; rfl
  have y8 : w8.cell? ⟨w5.heap.size, 8, none⟩ = some (.slice Ek g ek) := by rw [block_cell Y8.out]; rfl
  cases br <;> cases bq
  all_goals
    go_wp2_with fail
    refine (cS.out).mono ?_
    rintro e w9 ⟨rfl, B9⟩
    have HB9 := Lib.hid (low17 HB8.out B9)
    have O9 := Lib.hid (owns_up O8.out B9)
    have M9 := Lib.hid (owns_up M8.out B9)
    clear cS B9 x0 x1 x2 x3 x4 x5 x6 x7 x8 y0 y1 y2 y3 y4 y5 y6 y7 y8 O8 M8 X8 Y8 HB8
    go_wp2_with fail
    go_loopw [13] (fun i wr => (Below w.heap.size w wr ∧ Below w9.heap.size w9 wr) ∧ ∃ k : Nat, k ≤ k0 ∧ i = .int .i64 (k : Int)) (fun i _ => k0 - natV i)
    case atStart => exact ⟨⟨HB9.out, Below.refl _ _⟩, 0, Nat.zero_le _, rfl⟩
    case round =>
      obtain ⟨⟨hB, hB2⟩, k, hk, rfl⟩ := hrel
      have HB := Lib.hid hB
      have HBB := Lib.hid hB2
      by_cases hlt : k < k0
      · have d1 : decide ((k : Int) < (k0 : Int)) = true := decide_eq_true (by omega)
        have d1n : decide (k < k0) = true := decide_eq_true hlt
        obtain ⟨gl, rfl, _, hgl, _, hcl, _, hl⟩ := own_rows O9.out (by omega)
        obtain ⟨gm, rfl, _, hgm, _, _, _, hm⟩ := own_rows M9.out (by omega)
        have hk2 := HK0.out
        have es : (strCells ns)[k]? = some (.string ⟨(ns[k]'(by omega)).toArray⟩) := by simp [strCells, show k < ns.length by omega]
        have p1 : wr.cell? ⟨gl, k, none⟩ = some (.string ⟨(ns[k]'(by omega)).toArray⟩) := (hB2.cell hgl).trans (hl _ _ es)
        have p2 : wr.cell? ⟨gm, k, none⟩ = some (.string ⟨(ns[k]'(by omega)).toArray⟩) := (hB2.cell hgm).trans (hm _ _ es)
        generalize (ns[k]'(by omega)) = nm at *
        have i0 : (0 : Int) ≤ (k : Int) := by omega
        have i1 : (k : Int) < (k0 : Int) := by omega
        have HK1 : Hid (k + 1 ≤ k0) := hlt
        have hbd : k0 ≤ 9223372036854775807 := by
          obtain ⟨_, _, _, _, h1, h2, _⟩ := own_rows M9.out (by omega)
          unfold maxLen at h2
          omega
        have u2 : Hid (wrap64 ((k : Int) + 1) = ((k + 1 : Nat) : Int)) := show _ = _ from w63 (by omega) (by omega)
        clear hl hm es hk2 hbd hB hB2 hk hcl
        go_wp2_with fail
        go_quiet (fail)
        have HB10 := Lib.hid (drawn_below HB.out nq)
        have HBB10 := Lib.hid (drawn_below HBB.out nq)
        generalize wr.drewN nq = w10 at *
        go_wp2_with fail
        go_roundw
        case rel => exact ⟨⟨HB10.out, HBB10.out⟩, k + 1, HK1.out, by first | rfl | rw [u2.out]⟩
        case measure => have := HK1.out; first | (rw [u2.out]; simp [natV]; omega) | (simp [natV]; omega)
      · obtain rfl : k = k0 := by omega
        have d1 : decide ((k : Int) < (k : Int)) = false := decide_eq_false (by omega)
        have d1n : decide (k < k) = false := decide_eq_false (by omega)
        clear hk hlt hB hB2
        go_wp2_with fail
        go_ret
        exact ⟨rfl, HB.out⟩
end Go.Proofs.Ytmkgcifcfgfegaa
