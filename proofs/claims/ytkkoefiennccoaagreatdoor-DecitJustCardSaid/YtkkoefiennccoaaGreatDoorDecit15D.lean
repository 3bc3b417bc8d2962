/-
  What decit's numberOf does.
-/
import Derived.Test.YtkkoefiennccoaaGreatDoorDecit15C
import Derived.StillTailTactics
namespace Go.Proofs.YtkkoefiennccoaaGreatDoor
set_option maxRecDepth 100000
open Go.RowKit
open Go.Lib (decDigits itoa)

theorem load_num {w : World} {g : Nat} {a b c d e : Value} (hg : w.heap[g]? = some (.cells #[a, b, c, d, e] 44 (0, 0))) :
    (loadVar 44 ⟨g, 0, none⟩).run Tryz.prog w = .ok (.agg #[a, b, c, d, e]) w :=
  run_loadVar_row w g _ _ _ _ _ hg Tryz.underlying44 rfl (by kernel_rfl)

/-- A number's parts in block g. -/
def NumAt (w : World) (g : Nat) (n : Bool) (o b : List UInt8) (m : Bool) (z : List UInt8) : Prop :=
  w.heap[g]? = some (.cells #[.bool n, .string ⟨o.toArray⟩, .string ⟨b.toArray⟩, .bool m, .string ⟨z.toArray⟩] 44 (0, 0))
theorem NumAt.c0 {w g n o b m z} (h : NumAt w g n o b m z) : w.cell? ⟨g, 0, none⟩ = some (.bool n) := by rw [block_cell h]; rfl
theorem NumAt.c1 {w g n o b m z} (h : NumAt w g n o b m z) : w.cell? ⟨g, 1, none⟩ = some (.string ⟨o.toArray⟩) := by rw [block_cell h]; rfl
theorem NumAt.c2 {w g n o b m z} (h : NumAt w g n o b m z) : w.cell? ⟨g, 2, none⟩ = some (.string ⟨b.toArray⟩) := by rw [block_cell h]; rfl
theorem NumAt.c3 {w g n o b m z} (h : NumAt w g n o b m z) : w.cell? ⟨g, 3, none⟩ = some (.bool m) := by rw [block_cell h]; rfl
theorem NumAt.c4 {w g n o b m z} (h : NumAt w g n o b m z) : w.cell? ⟨g, 4, none⟩ = some (.string ⟨z.toArray⟩) := by rw [block_cell h]; rfl
theorem NumAt.s0 {w g n o b m z} (h : NumAt w g n o b m z) (n' : Bool) : NumAt (w.setCell ⟨g, 0, none⟩ (.bool n')) g n' o b m z := block_set h 0 _
theorem NumAt.s1 {w g n o b m z} (h : NumAt w g n o b m z) (o' : List UInt8) : NumAt (w.setCell ⟨g, 1, none⟩ (.string ⟨o'.toArray⟩)) g n o' b m z := block_set h 1 _
theorem NumAt.s2 {w g n o b m z} (h : NumAt w g n o b m z) (b' : List UInt8) : NumAt (w.setCell ⟨g, 2, none⟩ (.string ⟨b'.toArray⟩)) g n o b' m z := block_set h 2 _
theorem NumAt.s3 {w g n o b m z} (h : NumAt w g n o b m z) (m' : Bool) : NumAt (w.setCell ⟨g, 3, none⟩ (.bool m')) g n o b m' z := block_set h 3 _
theorem NumAt.s4 {w g n o b m z} (h : NumAt w g n o b m z) (z' : List UInt8) : NumAt (w.setCell ⟨g, 4, none⟩ (.string ⟨z'.toArray⟩)) g n o b m z' := block_set h 4 _
theorem NumAt.lt {w g n o b m z} (h : NumAt w g n o b m z) : g < w.heap.size := block_lt h
theorem NumAt.keep {w w' : World} {g n o b m z} (h : NumAt w g n o b m z) (hb : Below w.heap.size w w') : NumAt w' g n o b m z := (hb.block g h.lt).trans h
theorem NumAt.load {w g n o b m z} (h : NumAt w g n o b m z) : (loadVar 44 ⟨g, 0, none⟩).run Tryz.prog w = .ok (nv n o b m z) w := load_num h
/-- The frame of a call whose own blocks begin at B. -/
theorem frz {w g n o b m z} (h : NumAt w g n o b m z) (i : Nat) : w.frozen? ⟨g, i, none⟩ = false := by
  simp only [World.frozen?, show w.heap[g]? = _ from h]
  simp

def set5 (w : World) (g : Nat) (n : Bool) (o b : List UInt8) (m : Bool) (z : List UInt8) : World :=
  ((((w.setCell ⟨g, 0, none⟩ (.bool n)).setCell ⟨g, 1, none⟩ (.string ⟨o.toArray⟩)).setCell ⟨g, 2, none⟩ (.string ⟨b.toArray⟩)).setCell ⟨g, 3, none⟩ (.bool m)).setCell ⟨g, 4, none⟩ (.string ⟨z.toArray⟩)
theorem NumAt.stores {w g n o b m z} (h : NumAt w g n o b m z) (n' : Bool) (o' b' : List UInt8) (m' : Bool) (z' : List UInt8) :
    NumAt (set5 w g n' o' b' m' z') g n' o' b' m' z' ∧
    (w.cell? ⟨g, 0, none⟩ = some (.bool n) ∧ w.frozen? ⟨g, 0, none⟩ = false) ∧
    ((w.setCell ⟨g, 0, none⟩ (.bool n')).cell? ⟨g, 1, none⟩ = some (.string ⟨o.toArray⟩) ∧ (w.setCell ⟨g, 0, none⟩ (.bool n')).frozen? ⟨g, 1, none⟩ = false) ∧
    (((w.setCell ⟨g, 0, none⟩ (.bool n')).setCell ⟨g, 1, none⟩ (.string ⟨o'.toArray⟩)).cell? ⟨g, 2, none⟩ = some (.string ⟨b.toArray⟩) ∧ ((w.setCell ⟨g, 0, none⟩ (.bool n')).setCell ⟨g, 1, none⟩ (.string ⟨o'.toArray⟩)).frozen? ⟨g, 2, none⟩ = false) ∧
    ((((w.setCell ⟨g, 0, none⟩ (.bool n')).setCell ⟨g, 1, none⟩ (.string ⟨o'.toArray⟩)).setCell ⟨g, 2, none⟩ (.string ⟨b'.toArray⟩)).cell? ⟨g, 3, none⟩ = some (.bool m) ∧ (((w.setCell ⟨g, 0, none⟩ (.bool n')).setCell ⟨g, 1, none⟩ (.string ⟨o'.toArray⟩)).setCell ⟨g, 2, none⟩ (.string ⟨b'.toArray⟩)).frozen? ⟨g, 3, none⟩ = false) ∧
    (((((w.setCell ⟨g, 0, none⟩ (.bool n')).setCell ⟨g, 1, none⟩ (.string ⟨o'.toArray⟩)).setCell ⟨g, 2, none⟩ (.string ⟨b'.toArray⟩)).setCell ⟨g, 3, none⟩ (.bool m')).cell? ⟨g, 4, none⟩ = some (.string ⟨z.toArray⟩) ∧ ((((w.setCell ⟨g, 0, none⟩ (.bool n')).setCell ⟨g, 1, none⟩ (.string ⟨o'.toArray⟩)).setCell ⟨g, 2, none⟩ (.string ⟨b'.toArray⟩)).setCell ⟨g, 3, none⟩ (.bool m')).frozen? ⟨g, 4, none⟩ = false) :=
  ⟨((((h.s0 n').s1 o').s2 b').s3 m').s4 z', ⟨h.c0, frz h 0⟩, ⟨(h.s0 n').c1, frz (h.s0 n') 1⟩, ⟨((h.s0 n').s1 o').c2, frz ((h.s0 n').s1 o') 2⟩, ⟨(((h.s0 n').s1 o').s2 b').c3, frz (((h.s0 n').s1 o').s2 b') 3⟩, ⟨((((h.s0 n').s1 o').s2 b').s3 m').c4, frz ((((h.s0 n').s1 o').s2 b').s3 m') 4⟩⟩
theorem below_set5 {B : Nat} {a w : World} (h : Below B a w) {g : Nat} (hg : B ≤ g) (n : Bool) (o b : List UInt8) (m : Bool) (z : List UInt8) : Below B a (set5 w g n o b m z) :=
  ((((h.setCell (p := ⟨g, 0, none⟩) hg _).setCell (p := ⟨g, 1, none⟩) hg _).setCell (p := ⟨g, 2, none⟩) hg _).setCell (p := ⟨g, 3, none⟩) hg _).setCell (p := ⟨g, 4, none⟩) hg _
/-- What is stored anew as it was leaves the world as it was. -/
theorem setCell_same {w : World} {g i : Nat} {cs : Array Value} {t : TypeId} {fr : Nat × Nat} {v : Value} (h : w.heap[g]? = some (.cells cs t fr)) (hv : cs[i]? = some v) : w.setCell ⟨g, i, none⟩ v = w := by
  have e0 : cs.setIfInBounds i v = cs := by
    refine Array.ext_getElem? fun k => ?_
    rw [Array.getElem?_setIfInBounds]
    split
    · rename_i e
      subst e
      split
      · exact hv.symm
      · rename_i hlt
        rw [Array.getElem?_eq_none (by omega)] at hv
        cases hv
    · rfl
  have e : (w.setCell ⟨g, i, none⟩ v).heap = w.heap := by
    refine Array.ext_getElem? fun k => ?_
    by_cases hk : k = g
    · subst hk
      rw [block_set h i v, e0, h]
    · exact Below.heap_setCell w ⟨g, i, none⟩ v k hk
  unfold World.setCell at e ⊢
  dsimp only at e
  rw [e]
theorem NumAt.same {w g n o b m z} (h : NumAt w g n o b m z) : w.setCell ⟨g, 0, none⟩ (.bool n) = w ∧ w.setCell ⟨g, 1, none⟩ (.string ⟨o.toArray⟩) = w ∧ w.setCell ⟨g, 2, none⟩ (.string ⟨b.toArray⟩) = w ∧ w.setCell ⟨g, 3, none⟩ (.bool m) = w ∧ w.setCell ⟨g, 4, none⟩ (.string ⟨z.toArray⟩) = w :=
  ⟨setCell_same h rfl, setCell_same h rfl, setCell_same h rfl, setCell_same h rfl, setCell_same h rfl⟩
theorem any_lt (cs l : List UInt8) : Lib.indexAny l cs < l.length := by
  induction l with
  | nil => show (-1 : Int) < 0; decide
  | cons b l ih =>
    unfold Lib.indexAny
    rw [List.length_cons]
    split
    · omega
    · split <;> omega
theorem any_hit {u : List UInt8} {k : Nat} (h : Lib.indexAny u [101, 69] = (k : Int)) : k < u.length := by
  have := any_lt [101, 69] u
  omega
theorem low_g {g : Nat} {a b c : World} (h : Below g a b) (hg : g ≤ b.heap.size) (h2 : Below b.heap.size b c) : Below g a c := h.trans (h2.mono hg)

set_option maxHeartbeats 40000000 in
theorem numberOf_core (s u f x o b z : List UInt8) (m0 h d dn : Bool) (w : World) (hs : s.length ≤ 1000) (hu : unsign s = u) (hm : minus s = m0) (hc : cutE u = (f, x, h)) (hf : cutAt 46 f = (o, b, d))
    (hz : z = if h = true then unsign x else [48]) (hdn : dn = if h = true then minus x else false) (hL : L15 w) :
    Calls Tryz.prog 22 #[.string ⟨s.toArray⟩] w fun e w' => (∃ (n' : Bool) (o' b' : List UInt8) (m' : Bool) (z' : List UInt8), e = .returned (.tuple #[nv n' o' b' m' z', .bool (goodU u)]) ∧ (goodU u = true → n' = m0 ∧ o' = o ∧ b' = b ∧ m' = dn ∧ z' = z)) ∧ Below w.heap.size w w' := by
  have hul : u.length ≤ 1000 := by rw [← hu]; exact Nat.le_trans (unsign_le s) hs
  have cS := Lib.hid fun w => cutSign_any15 s w
  rw [hu, hm] at cS
  have hlt := fun k => any_hit (u := u) (k := k)
  have c0 := Lib.hid fun w => look_any u w (by omega)
  have HF : Hid (f.length ≤ 1000) := show _ ≤ _ by
    have h1 := (plain_le (l := u)).1
    rw [hc] at h1
    exact Nat.le_trans h1 hul
  have HG8 : Hid (8 ≤ w.heap.size) := hL.size
  have hc' := hc
  rw [indexAny_cutE] at hc
  generalize Lib.indexAny u [101, 69] = at0 at hc hlt c0
  go_enter Tryz.func22, Tryz.ntmps22
  go_wp2_with fail
  refine (cS.out _).mono ?_
  rintro e w5 ⟨rfl, hw⟩; subst w5
  obtain ⟨V, hV⟩ : ∃ V, V = w.alloc (Obj.cells #[.bool m0, .string ⟨#[]⟩, .string ⟨#[]⟩, .bool false, .string ⟨#[48]⟩] 44) := ⟨_, rfl⟩
  have hN : NumAt V w.heap.size m0 [] [] false [48] := by rw [hV]; exact heap_alloc_new _ _
  have hB : Below w.heap.size w V := by rw [hV]; exact (Below.refl _ _).alloc (Nat.le_refl _) _
  have HL := Lib.hid hL
  go_wp2_with fail
  rw [← hV]
  obtain ⟨g, hg⟩ : ∃ g, g = w.heap.size := ⟨_, rfl⟩
  have HGE := Lib.hid hg
  rw [← hg] at hN hB HG8 ⊢
  clear hg
  have HB := Lib.hid hB; have HN := Lib.hid hN
  clear hB hN hV hL
  refine (c0.out _).mono ?_
  rintro e w2 ⟨rfl, B2⟩
  have HB2 := Lib.hid (low_g HB.out (Nat.le_of_lt HN.out.lt) B2)
  have HN2 := Lib.hid (HN.out.keep B2)
  clear B2 HB HN c0
  obtain ⟨dd, hdd⟩ : ∃ dd, decide (0 ≤ at0) = dd := ⟨_, rfl⟩
  go_upto_if 15 with fail
  have HD := Lib.hid hdd
  clear hdd
  have hgs : g < w2.heap.size := HN2.out.lt
  go_cut [0] (fun v0 wx => v0 = .string ⟨f.toArray⟩ ∧ NumAt wx g m0 [] [] dn z ∧ Below g w wx)
  case first =>
    by_cases h0 : at0 < 0
    · rw [if_pos h0] at hc
      obtain rfl : dd = false := by rw [← HD.out]; simp; omega
      obtain ⟨h1, hc2⟩ := Prod.mk.inj hc
      obtain ⟨h2, h3⟩ := Prod.mk.inj hc2
      subst h3
      rw [if_neg (by decide)] at hz hdn
      have HG : Hid (NumAt w2 g m0 [] [] dn z) := show NumAt _ _ _ _ _ _ _ by rw [hz, hdn]; exact HN2.out
      have HU : Hid ((.string ⟨u.toArray⟩ : Value) = .string ⟨f.toArray⟩) := show _ = _ by rw [h1]
      clear hc hc2 h0 hf hc' h1 h2 hz hdn hlt
      go_wp2_with fail
      go_meet
      exact ⟨HU.out, HG.out, HB2.out⟩
    · rw [if_neg h0] at hc
      obtain rfl : dd = true := by rw [← HD.out]; simp; omega
      obtain ⟨k, rfl⟩ : ∃ k : Nat, at0 = (k : Int) := ⟨at0.toNat, by omega⟩
      rw [Int.toNat_natCast] at hc
      have hk := hlt k rfl
      obtain ⟨h1, hc2⟩ := Prod.mk.inj hc
      obtain ⟨h2, h3⟩ := Prod.mk.inj hc2
      subst h3
      rw [if_pos rfl] at hz hdn
      have wk : wrap64 ((k : Int) + 1) = (k : Int) + 1 := by unfold wrap64; omega
      have x0 := pupto u k k rfl (by omega)
      have x1 := slice_from u (k + 1) ((k : Int) + 1) (by omega) (by omega)
      rw [h1] at x0
      rw [h2] at x1
      have cS2 := Lib.hid fun w => cutSign_any15 x w
      rw [← hz, ← hdn] at cS2
      have c0 : decide (0 ≤ (k : Int)) = true := decide_eq_true (by omega)
      have c3 : (k : Int) ≤ (u.length : Int) := by omega
      clear hc hc2 h0 hf hc' h1 h2 hz hdn hlt hk
      go_wp2_with fail
      refine (cS2.out _).mono ?_
      rintro e w5 ⟨rfl, hw⟩; subst w5
      clear cS2
      have HN3 := Lib.hid ((HN2.out.s4 z).s3 dn)
      have p4 := HN2.out.c4
      have p3 := (HN2.out.s4 z).c3
      have q4 : w2.frozen? ⟨g, 4, none⟩ = false := frz HN2.out 4
      have q3 : (w2.setCell ⟨g, 4, none⟩ (.string ⟨z.toArray⟩)).frozen? ⟨g, 3, none⟩ = false := frz (HN2.out.s4 z) 3
      go_wp2_with fail
      go_meet
      exact ⟨rfl, HN3.out, (HB2.out.setCell (p := ⟨g, 4, none⟩) (Nat.le_refl _) _).setCell (p := ⟨g, 3, none⟩) (Nat.le_refl _) _⟩
  case rest =>
    obtain ⟨rfl, hN3, hB3⟩ := hcut
    generalize wc = w3 at *
    have HB3 := Lib.hid hB3; have HN3 := Lib.hid hN3
    have hL3 := HL.out.on hB3 HG8.out
    obtain ⟨mx, hmx⟩ := hL3.most
    have cC := Lib.hid (cut_any f 46 mx w3 (by have := HF.out; omega) hmx)
    rw [hf] at cC
    clear hB3 hN3 hL3 hmx
    go_wp2_with fail
    refine cC.out.mono ?_
    rintro e w4 ⟨rfl, nn, hw⟩
    have HB4 : Hid (Below g w w4) := by rw [hw]; exact low_drewN HB3.out nn
    have HN4 : Hid (NumAt w4 g m0 [] [] dn z) := by rw [hw]; exact HN3.out
    clear hw cC
    have HN5 := Lib.hid ((HN4.out.s1 o).s2 b)
    have p1 := HN4.out.c1
    have p2 := (HN4.out.s1 o).c2
    have q1 : w4.frozen? ⟨g, 1, none⟩ = false := frz HN4.out 1
    have q2 : (w4.setCell ⟨g, 1, none⟩ (.string ⟨o.toArray⟩)).frozen? ⟨g, 2, none⟩ = false := frz (HN4.out.s1 o) 2
    have HB5 : Hid (Below g w ((w4.setCell ⟨g, 1, none⟩ (.string ⟨o.toArray⟩)).setCell ⟨g, 2, none⟩ (.string ⟨b.toArray⟩))) := (HB4.out.setCell (p := ⟨g, 1, none⟩) (Nat.le_refl _) _).setCell (p := ⟨g, 2, none⟩) (Nat.le_refl _) _
    have hgs4 : g < w4.heap.size := HN4.out.lt
    go_upto_region 8 with fail
    generalize hW5 : (w4.setCell ⟨g, 1, none⟩ (.string ⟨o.toArray⟩)).setCell ⟨g, 2, none⟩ (.string ⟨b.toArray⟩) = w5 at *
    clear hW5 p1 p2 q1 q2 hgs4 HN4 HB4
    have r1 := HN5.out.c1
    have r2 := HN5.out.c2
    have r4 := HN5.out.c4
    have hgs5 : g < w5.heap.size := HN5.out.lt
    have hG : Hid (goodU u = if (o = [] ∧ b = []) ∨ z = [] then false else allD o && allD b && allD z) := show _ = _ by
      have e1 : onesOf u = o := by unfold onesOf; rw [hc']; show (cutAt 46 f).1 = o; rw [hf]
      have e2 : behindOf u = b := by unfold behindOf; rw [hc']; show (cutAt 46 f).2.1 = b; rw [hf]
      have e3 : expD u = z := by unfold expD; rw [hc', hz]
      unfold goodU
      rw [e1, e2, e3]
    by_cases hbad : (o = [] ∧ b = []) ∨ z = []
    · have HG : Hid (goodU u = false) := show _ = _ by rw [hG.out, if_pos hbad]
      obtain ⟨hN6, ⟨a0, b0⟩, ⟨a1, b1⟩, ⟨a2, b2⟩, ⟨a3, b3⟩, ⟨a4, b4⟩⟩ := HN5.out.stores false [] [] false []
      have HN6 := Lib.hid hN6
      have HB6 := Lib.hid (below_set5 HB5.out (Nat.le_refl g) false [] [] false [])
      clear hN6 hG
      have hcs : (o = [] ∧ b = []) ∨ (o = [] ∧ ¬ b = [] ∧ z = []) ∨ (¬ o = [] ∧ z = []) := by
        by_cases ho : o = []
        · by_cases hb : b = []
          · exact .inl ⟨ho, hb⟩
          · exact .inr (.inl ⟨ho, hb, hbad.elim (fun h => absurd h.2 hb) id⟩)
        · exact .inr (.inr ⟨ho, hbad.elim (fun h => absurd h.1 ho) id⟩)
      clear hbad
      have HE : Hid (∀ e w', e = Ending.returned (.tuple #[nv false [] [] false [], .bool false]) → Below g w w' → (∃ (n' : Bool) (o' b' : List UInt8) (m' : Bool) (z' : List UInt8), e = .returned (.tuple #[nv n' o' b' m' z', .bool (goodU u)]) ∧ (goodU u = true → n' = m0 ∧ o' = o ∧ b' = b ∧ m' = dn ∧ z' = z)) ∧ Below w.heap.size w w') := fun e w' he hb => ⟨⟨false, [], [], false, [], by rw [HG.out]; exact he, fun h => by rw [HG.out] at h; cases h⟩, by rw [← HGE.out]; exact hb⟩
      clear HG hz hdn hf hu hm hc hc' hlt HD
      rcases hcs with ⟨h1, h2⟩ | ⟨h1, h2, h3⟩ | ⟨h1, h3⟩
      · subst h1 h2
        go_wp2_with fail
        try simp only [Exit.inBlock, Exit.then]
        refine bodyPost_ret (results_row2 rfl _ _ g _ rfl HN6.out.load) rfl ?_
        exact HE.out _ _ rfl HB6.out
      · subst h1 h3
        go_wp2_with fail
        try simp only [Exit.inBlock, Exit.then]
        refine bodyPost_ret (results_row2 rfl _ _ g _ rfl HN6.out.load) rfl ?_
        exact HE.out _ _ rfl HB6.out
      · subst h3
        go_wp2_with fail
        try simp only [Exit.inBlock, Exit.then]
        refine bodyPost_ret (results_row2 rfl _ _ g _ rfl HN6.out.load) rfl ?_
        exact HE.out _ _ rfl HB6.out
    · have HG : Hid (goodU u = (allD o && allD b && allD z)) := show _ = _ by rw [hG.out, if_neg hbad]
      have hl := cutAt_le 46 f
      rw [hf] at hl
      have hol : o.length ≤ 1000 := Nat.le_trans hl.1 HF.out
      have hbl : b.length ≤ 1000 := Nat.le_trans hl.2 HF.out
      have hzl : z.length ≤ 1000 := by
        rw [hz]
        split
        · have h1 := (plain_le (l := u)).2
          rw [hc'] at h1
          exact Nat.le_trans (unsign_le x) (Nat.le_trans h1 hul)
        · simp
      have cA := Lib.hid fun w => allDigits_any15 o (by omega) w
      have cB := Lib.hid fun w => allDigits_any15 b (by omega) w
      have cZ := Lib.hid fun w => allDigits_any15 z (by omega) w
      obtain ⟨hN6, ⟨a0, b0⟩, ⟨a1, b1⟩, ⟨a2, b2⟩, ⟨a3, b3⟩, ⟨a4, b4⟩⟩ := HN5.out.stores m0 o b dn z
      have HN6 := Lib.hid hN6
      have HB6 := Lib.hid (below_set5 HB5.out (Nat.le_refl g) m0 o b dn z)
      have a1' := HN5.out.c1
      have a2' := HN5.out.c2
      have a3' := HN5.out.c3
      have a4' := HN5.out.c4
      have hcs : (¬ o = [] ∧ ¬ z = []) ∨ (o = [] ∧ ¬ b = [] ∧ ¬ z = []) := by
        by_cases ho : o = []
        · exact .inr ⟨ho, fun h => hbad (.inl ⟨ho, h⟩), fun h => hbad (.inr h)⟩
        · exact .inl ⟨ho, fun h => hbad (.inr h)⟩
      clear hbad hG hN6
      have HE : Hid (∀ e w', e = Ending.returned (.tuple #[nv m0 o b dn z, .bool (allD o && allD b && allD z)]) → Below g w w' → (∃ (n' : Bool) (o' b' : List UInt8) (m' : Bool) (z' : List UInt8), e = .returned (.tuple #[nv n' o' b' m' z', .bool (goodU u)]) ∧ (goodU u = true → n' = m0 ∧ o' = o ∧ b' = b ∧ m' = dn ∧ z' = z)) ∧ Below w.heap.size w w') := fun e w' he hb => ⟨⟨m0, o, b, dn, z, by rw [HG.out]; exact he, fun _ => ⟨rfl, rfl, rfl, rfl, rfl⟩⟩, by rw [← HGE.out]; exact hb⟩
      clear HG hz hdn hf hu hm hc hc' hlt HD hl hol hbl hzl
      generalize allD o = A at *
      generalize allD b = B at *
      generalize allD z = Z at *
      go_cut [0, 49] (fun v0 v49 wx => v49 = .bool false ∧ wx = w5)
      case first =>
        clear a0 a1 a2 a3 a4 b0 b1 b2 b3 b4
        rcases hcs with ⟨h1, h3⟩ | ⟨h1, h2, h3⟩
        · have i1 : o.isEmpty = false := by simpa using h1
          have i3 : z.isEmpty = false := by simpa using h3
          go_wp2_with fail
          go_meet
          exact ⟨rfl, rfl⟩
        · have i2 : b.isEmpty = false := by simpa using h2
          have i3 : z.isEmpty = false := by simpa using h3
          subst h1
          go_wp2_with fail
          go_meet
          exact ⟨rfl, rfl⟩
      case rest =>
        obtain ⟨rfl, rfl⟩ := hcut
        have HB7 : Hid (Below g w wc.drew) := HB5.out.drew
        have HN7 : Hid (NumAt wc.drew g m0 o b dn z) := HN5.out
        have HB8 : Hid (Below g w { heap := wc.heap, tape := wc.tape, drawn := wc.drawn + 1, os := wc.os, output := wc.output }) := HB5.out.drew
        have HN8 : Hid (NumAt { heap := wc.heap, tape := wc.tape, drawn := wc.drawn + 1, os := wc.os, output := wc.output } g m0 o b dn z) := HN5.out
        clear r1 r2 r4 HL HG8 HB2 HN2 HF HN5 HB5 hs hul hgs hcs HN6 HB6 a0 a1 a2 a3 a4 b0 b1 b2 b3 b4 a1' a2' a3' a4' hgs5
        go_wp2_with fail
        refine wp_region_still_lit (by kernel_rfl) (by kernel_rfl) ?_
        change wpStill _ _ wc.drew _ _ _
        generalize wc.drew = wd at *
        have t0 := HN7.out.c0
        have t1 := HN7.out.c1
        have t2 := HN7.out.c2
        have t3 := HN7.out.c3
        have t4 := HN7.out.c4
        have f0 := frz HN7.out 0
        have f1 := frz HN7.out 1
        have f2 := frz HN7.out 2
        have f3 := frz HN7.out 3
        have f4 := frz HN7.out 4
        obtain ⟨s0, s1, s2, s3, s4⟩ := HN7.out.same
        repeat still_step
        still_call (cA.out _)
        cases A
        · repeat still_step
          refine wpStill_nil ?_
          go_wp2_with fail
          try simp only [Exit.inBlock, Exit.then]
          refine bodyPost_ret (results_row2 rfl _ _ g _ rfl HN8.out.load) rfl ?_
          exact HE.out _ _ rfl HB8.out
        · repeat still_step
          still_call (cB.out _)
          cases B
          · repeat still_step
            refine wpStill_nil ?_
            go_wp2_with fail
            try simp only [Exit.inBlock, Exit.then]
            refine bodyPost_ret (results_row2 rfl _ _ g _ rfl HN8.out.load) rfl ?_
            exact HE.out _ _ rfl HB8.out
          · repeat still_step
            still_call (cZ.out _)
            repeat still_step
            refine wpStill_nil ?_
            go_wp2_with fail
            try simp only [Exit.inBlock, Exit.then]
            refine bodyPost_ret (results_row2 rfl _ _ g _ rfl HN8.out.load) rfl ?_
            exact HE.out _ _ rfl HB8.out

/-- What a text without its sign tells, by value. -/
theorem numberOf_any15 (s : List UInt8) (w : World) (hs : s.length ≤ 1000) (hL : L15 w) :
    Calls Tryz.prog 22 #[.string ⟨s.toArray⟩] w fun e w' => (∃ (n' : Bool) (o' b' : List UInt8) (m' : Bool) (z' : List UInt8), e = .returned (.tuple #[nv n' o' b' m' z', .bool (goodU (unsign s))]) ∧ (goodU (unsign s) = true → n' = minus s ∧ o' = onesOf (unsign s) ∧ b' = behindOf (unsign s) ∧ m' = expN (unsign s) ∧ z' = expD (unsign s))) ∧ Below w.heap.size w w' :=
  numberOf_core s _ _ _ _ _ _ _ _ _ _ w hs rfl rfl rfl rfl rfl rfl hL
end Go.Proofs.YtkkoefiennccoaaGreatDoor
