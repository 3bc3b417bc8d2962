/-
  What the program's isBare and checkOne do (chapter 17): a value's own error, its Name's too; no condition but bounds.
-/
import Derived.Test.YtfpocpmcoobjkaaDoorCodeW17
import Derived.Test.YtfpocpmcoobjkaaDoorCodeO17
import Derived.Test.YtfpocpmcoobjkaaDoorCodeE17
import Derived.Test.YtfpocpmcoobjkaaDoorWords17
import Derived.Test.YtfpocpmcoobjkaaDoorRefC17
namespace Go.Proofs.YtfpocpmcoobjkaaDoor
set_option maxRecDepth 100000
open Go.RowKit

/-- A value that has nothing but a Kind. -/
def zeroO (k : Int) : OwnV := ⟨k, 0, 0, 0, [], [], 0, []⟩
def bareB (o : OwnV) (nk : Nat) : Bool := decide (o = zeroO o.kind) && decide (nk = 0)
theorem same_zero (o : OwnV) (l : List Kid) : sameT (.node o l) (.node (zeroO o.kind) []) = bareB o l.length := by
  cases l with
  | nil => rw [sameT, sameK]; unfold bareB; simp
  | cons x l => rw [sameT, sameK]; all_goals simp [bareB]
theorem hasK_s (k : Int) : (hasK k).s = decide (k = 5) := by
  by_cases h : k = 5
  · subst h; rfl
  · rw [decide_eq_false h]
    unfold hasK
    rw [if_neg h]
    simp only [apply_ite Has.s, ite_self]
theorem bare_bad (o : OwnV) (nk : Nat) (h : Has) : bareB (othO h o) (if h.k then 0 else nk) = !bad1 h o nk := by
  obtain ⟨kd, bits, high, low, text, more, sub, bytes⟩ := o
  obtain ⟨hb, hw, ht, hm, hs, hy, hk⟩ := h
  unfold bareB othO zeroO bad1
  simp only [OwnV.mk.injEq, true_and]
  rw [Bool.eq_iff_iff]
  cases hb <;> cases hw <;> cases ht <;> cases hm <;> cases hs <;> cases hy <;> cases hk <;> simp [List.isEmpty_iff, List.length_eq_zero_iff] <;> grind
theorem bnd_bad (o : OwnV) (nk : Nat) (h1 : bad1 (hasK o.kind) o nk = false) : bndB o = !bad2 o := by
  have hs : ¬ o.kind = 5 → o.sub = 0 := fun h5 => by
    have e : (hasK o.kind).s = false := by rw [hasK_s]; exact decide_eq_false h5
    unfold bad1 at h1
    simp only [Bool.or_eq_false_iff, e, Bool.not_false, Bool.true_and, bne_eq_false_iff_eq] at h1
    exact h1.1.1.2
  unfold bndB bad2
  by_cases k1 : o.kind = 16
  · rw [if_pos k1, hs (by omega), k1]
    rw [Bool.eq_iff_iff]
    simp
    omega
  by_cases k2 : o.kind = 8
  · rw [if_neg k1, if_pos k2, hs (by omega), k2]
    rw [Bool.eq_iff_iff]
    simp
    omega
  by_cases k3 : o.kind = 5
  · rw [if_neg k1, if_neg k2, if_pos k3, k3]
    rw [Bool.eq_iff_iff]
    simp
  have e1 : (o.kind == 16) = false := beq_eq_false_iff_ne.2 k1
  have e2 : (o.kind == 8) = false := beq_eq_false_iff_ne.2 k2
  by_cases k4 : o.kind = 7 ∨ o.kind = 12
  · have e3 : ((o.kind == 7) || (o.kind == 12)) = true := by rcases k4 with k4 | k4 <;> rw [k4] <;> rfl
    rw [if_neg k1, if_neg k2, if_neg k3, if_pos k4, e1, e2, e3, hs k3]
    rw [Bool.eq_iff_iff]
    simp
  · have e3 : ((o.kind == 7) || (o.kind == 12)) = false := by
      rw [Bool.or_eq_false_iff]; exact ⟨beq_eq_false_iff_ne.2 fun h => k4 (.inl h), beq_eq_false_iff_ne.2 fun h => k4 (.inr h)⟩
    rw [if_neg k1, if_neg k2, if_neg k3, if_neg k4, e1, e2, e3, hs k3]
    rfl
theorem txt_bad (o : OwnV) : txtB o = !bad3 o := by
  unfold txtB bad3 namedB
  by_cases h : o.kind = 11
  · rw [if_pos h, h]
    cases wholeB o.text <;> cases wholeB o.more <;> cases zeroB o.text <;> cases zeroB o.more <;> rfl
  · have e : (o.kind == 11) = false := beq_eq_false_iff_ne.2 h
    rw [if_neg h, e]
    cases wholeB o.text <;> cases wholeB o.more <;> rfl
/-- What checkOne tells. -/
def oneE (o : OwnV) (nk : Nat) (nm : List UInt8) : Int := if nameL o.kind = [] then 5 else if bareB (othO (hasK o.kind) o) (if (hasK o.kind).k then 0 else nk) = false then 1 else if bndB o = false then 1 else if txtB o = false then 4 else if namedB nm = false then 4 else 0
theorem one_own (o : OwnV) (nk : Nat) (nm : List UInt8) : oneE o nk nm = ownN o nk nm := by
  unfold oneE ownN ownE
  by_cases h0 : nameL o.kind = []
  · rw [if_pos h0, if_pos h0]; rfl
  rw [if_neg h0, if_neg h0, bare_bad, txt_bad]
  cases h1 : bad1 (hasK o.kind) o nk with
  | true => rfl
  | false =>
    rw [bnd_bad o nk h1]
    cases bad2 o <;> cases bad3 o <;> cases namedB nm <;> rfl
theorem tree_zero (k : Int) (hk0 : -9223372036854775808 ≤ k) (hk1 : k ≤ 9223372036854775807) (w : World) (M : Nat → Prop) : TreeAt w M (.node (zeroO k) []) (cellsV (zeroO k) none 0 none 0 0) := by
  rw [TreeAt]
  exact ⟨none, 0, none, 0, rfl, ⟨hk0, hk1, show (0 : Nat) < 18446744073709551616 by decide, show (0 : Nat) < 18446744073709551616 by decide, show (0 : Nat) < 18446744073709551616 by decide, by show (-9223372036854775808 : Int) ≤ 0; decide, by show (0 : Int) ≤ 9223372036854775807; decide, Nat.zero_le _, Nat.zero_le _, Nat.zero_le _⟩, Nat.zero_le _, Held.nothing rfl, fun h => absurd rfl h⟩
set_option maxHeartbeats 2000000 in
theorem isBare_any (o : OwnV) (l : List Kid) (cs : List Value) (w : World) (hT : TreeAt w (· < w.heap.size) (.node o l) cs) :
    Calls Tryd.prog 48 #[.agg cs.toArray] w fun e w' => e = .returned (.bool (bareB o l.length)) ∧ Below w.heap.size w w' := by
  obtain ⟨Ab, cb, Ak, ck, rfl, hfit, _, _, _⟩ := hT.open_
  have V1 := ValAt.box hT rfl 26
  have B1 : Below w.heap.size w (w.alloc (.cells (cellsV o Ab cb Ak l.length ck).toArray 26)) := (Below.refl _ _).alloc (Nat.le_refl _) _
  have hs : (w.alloc (.cells (cellsV o Ab cb Ak l.length ck).toArray 26)).heap.size = w.heap.size + 1 := by simp
  have V2 := ValAt.box (tree_zero o.kind hfit.k0 hfit.k1 (w.alloc (.cells (cellsV o Ab cb Ak l.length ck).toArray 26)) (· < (w.alloc (.cells (cellsV o Ab cb Ak l.length ck).toArray 26)).heap.size)) rfl 26
  have V3 := V1.up ((Below.refl _ _).alloc (Nat.le_refl _) (.cells (cellsV (zeroO o.kind) none 0 none 0 0).toArray 26))
  have cS := Lib.hid (same_any _ _ _ _ _ _ _ V3 V2)
  rw [same_zero, hs] at cS
  have HB := Lib.hid (two_new w (.cells (cellsV o Ab cb Ak l.length ck).toArray 26) (.cells (cellsV (zeroO o.kind) none 0 none 0 0).toArray 26))
  clear V1 V2 V3 B1 hs hT hfit
  generalize bareB o l.length = r at *
  unfold cellsV zeroO at *
  go_enter Tryd.func48, Tryd.ntmps48
  go_wp2_with fail
  refine (cS.out).mono ?_
  rintro e w5 ⟨rfl, B5⟩
  have HB5 := Lib.hid (low17 HB.out B5)
  clear B5 cS
  go_wp2_with fail
  go_ret
  exact ⟨rfl, HB5.out⟩
theorem held_none (w : World) (M : Nat → Prop) : Held w M none 0 [] := Held.nothing rfl
/-- Without what its Kind has it is a tree still. -/
theorem tree_oth {o : OwnV} {l : List Kid} {w : World} {M : Nat → Prop} {Ab Ak : Option Addr} {cb ck : Nat} (h : Has) (hf : OwnFits o) (hl : l.length ≤ maxLen) (hb : Held w M Ab o.bytes.length o.bytes) (hk : l ≠ [] → ∃ b off, Ak = some ⟨b, off, none⟩ ∧ M b ∧ KidsAt w M b off l) :
    TreeAt w M (.node (othO h o) (if h.k then [] else l)) (cellsV (othO h o) (if h.y then none else Ab) (if h.y then 0 else cb) (if h.k then none else Ak) (if h.k then 0 else l.length) (if h.k then 0 else ck)) := by
  rw [TreeAt]
  have e : (if h.k then [] else l).length = if h.k then 0 else l.length := by split <;> rfl
  refine ⟨(if h.y then none else Ab), (if h.y then 0 else cb), (if h.k then none else Ak), (if h.k then 0 else ck), by rw [e], ⟨hf.k0, hf.k1, ?_, ?_, ?_, ?_, ?_, ?_, ?_, ?_⟩, ?_, ?_, ?_⟩
  · show (if h.b then 0 else o.bits) < _; split <;> first | decide | exact hf.bits
  · show (if h.w then 0 else o.high) < _; split <;> first | decide | exact hf.high
  · show (if h.w then 0 else o.low) < _; split <;> first | decide | exact hf.low
  · show _ ≤ (if h.s then 0 else o.sub); split <;> first | decide | exact hf.s0
  · show (if h.s then 0 else o.sub) ≤ _; split <;> first | decide | exact hf.s1
  · show (if h.t then [] else o.text).length ≤ _; split <;> first | exact Nat.zero_le _ | exact hf.text
  · show (if h.m then [] else o.more).length ≤ _; split <;> first | exact Nat.zero_le _ | exact hf.more
  · show (if h.y then [] else o.bytes).length ≤ _; split <;> first | exact Nat.zero_le _ | exact hf.bytes
  · rw [e]; split <;> first | exact Nat.zero_le _ | exact hl
  · show Held w M _ (if h.y then [] else o.bytes).length (if h.y then [] else o.bytes)
    split <;> first | exact held_none _ _ | exact hb
  · intro hne
    cases hk2 : h.k with
    | true => rw [hk2] at hne; exact absurd rfl hne
    | false => exact hk (by rw [hk2] at hne; exact hne)
set_option maxHeartbeats 4000000 in
theorem checkOne_any (o : OwnV) (l : List Kid) (nm : List UInt8) (b off : Nat) (w : World) (hW : Words w) (ht : o.text.length ≤ 100000000) (hm : o.more.length ≤ 100000000) (hnm : nm.length ≤ 100000000) (hT : ValAt w (· < w.heap.size) b off (.node o l)) :
    Calls Tryd.prog 42 #[.string ⟨nm.toArray⟩, .pointer (some ⟨b, off, none⟩)] w fun e w' => e = .returned (.int .i64 (ownN o l.length nm)) ∧ Below w.heap.size w w' := by
  rw [← one_own]
  obtain ⟨hb, Ab, cb, Ak, ck, ⟨c0, c1, c2, c3, c4, c5, c6, c7, c8⟩, hfit, hlen, hbytes, hkids⟩ := hT.open_
  have cN := Lib.hid (name_any o.kind w hW)
  have cO := Lib.hid fun w => others_any o Ab Ak cb l.length ck w
  have HT := Lib.hid fun (V : World) (hV : Below w.heap.size w V) => hT.up hV
  have cB : Hid (∀ V, Below w.heap.size w V → Calls Tryd.prog 48 #[.agg (cellsV (othO (hasK o.kind) o) (if (hasK o.kind).y then none else Ab) (if (hasK o.kind).y then 0 else cb) (if (hasK o.kind).k then none else Ak) (if (hasK o.kind).k then 0 else l.length) (if (hasK o.kind).k then 0 else ck)).toArray] V fun e w' => e = .returned (.bool (bareB (othO (hasK o.kind) o) (if (hasK o.kind).k then 0 else l.length))) ∧ Below V.heap.size V w') := fun V hV => by
    obtain ⟨_, Ab', cb', Ak', ck', ⟨_, _, _, _, _, _, _, d7, d8⟩, _, _, hb2, hk2⟩ := (HT.out V hV).open_
    have e7 := ((hV.cell hb).trans c7).symm.trans d7
    have e8 := ((hV.cell hb).trans c8).symm.trans d8
    simp only [Option.some.injEq, Value.slice.injEq, true_and] at e7 e8
    obtain ⟨rfl, rfl⟩ := e7
    obtain ⟨rfl, rfl⟩ := e8
    have := isBare_any _ _ _ V (tree_oth (cb := cb) (ck := ck) (hasK o.kind) hfit hlen hb2 hk2)
    rwa [show (if (hasK o.kind).k then [] else l).length = if (hasK o.kind).k then 0 else l.length by split <;> rfl] at this
  have cI := Lib.hid fun (V : World) (hV : Below w.heap.size w V) => isInBounds_any o b off V Ab cb ((hV.cell hb).trans c0) ((hV.cell hb).trans c1) ((hV.cell hb).trans c6) ((hV.cell hb).trans c7)
  have cT := Lib.hid fun (V : World) (hV : Below w.heap.size w V) => isText_any o b off V (Nat.lt_of_lt_of_le hb hV.size) ht hm ((hV.cell hb).trans c0) ((hV.cell hb).trans c4) ((hV.cell hb).trans c5)
  have cM := Lib.hid fun w => isName_any nm hnm w
  have C := Lib.hid fun (V : World) (hV : Below w.heap.size w V) => And.intro ((hV.cell hb).trans c0) (And.intro ((hV.cell hb).trans c1) (And.intro ((hV.cell hb).trans c2) (And.intro ((hV.cell hb).trans c3) (And.intro ((hV.cell hb).trans c4) (And.intro ((hV.cell hb).trans c5) (And.intro ((hV.cell hb).trans c6) (And.intro ((hV.cell hb).trans c7) ((hV.cell hb).trans c8))))))))
  obtain ⟨R, hR⟩ : ∃ R, R = oneE o l.length nm := ⟨_, rfl⟩
  rw [← hR]
  unfold oneE at hR
  generalize bareB (othO (hasK o.kind) o) (if (hasK o.kind).k then 0 else l.length) = xb at *
  generalize bndB o = xi at *
  generalize txtB o = xt at *
  generalize namedB nm = xn at *
  generalize nameL o.kind = n0 at *
  generalize (cellsV (othO (hasK o.kind) o) (if (hasK o.kind).y then none else Ab) (if (hasK o.kind).y then 0 else cb) (if (hasK o.kind).k then none else Ak) (if (hasK o.kind).k then 0 else l.length) (if (hasK o.kind).k then 0 else ck)).toArray = OC at *
  have HR := Lib.hid hR
  unfold cellsV at cO
  clear hR hT hfit hlen hbytes hkids hb hW ht hm hnm c1 c2 c3 c4 c5 c6 c7 c8
  go_enter Tryd.func42, Tryd.ntmps42
  go_wp2_with fail
  refine (cN.out).mono ?_
  rintro e w1 ⟨rfl, B1⟩
  have HB1 := Lib.hid B1
  clear cN B1 c0
  by_cases h0 : n0 = []
  · subst h0
    have HE : Hid (R = 5) := show _ = _ by rw [HR.out]; rfl
    clear HR
    go_wp2_with fail
    go_ret
    exact ⟨by rw [HE.out]; rfl, HB1.out⟩
  have e0 : (n0 == []) = false := beq_eq_false_iff_ne.2 h0
  have HR1 : Hid (R = if xb = false then 1 else if xi = false then 1 else if xt = false then 4 else if xn = false then 4 else 0) := show _ = _ by rw [HR.out, if_neg h0]
  obtain ⟨c0, c1, c2, c3, c4, c5, c6, c7, c8⟩ := C.out w1 HB1.out
  clear HR C
  go_wp2_with fail
  refine (cO.out _).mono ?_
  rintro e w2 ⟨rfl, B2⟩
  have HB2 := Lib.hid (low17 HB1.out B2)
  clear cO B2 HB1 c0 c1 c2 c3 c4 c5 c6 c7 c8
  go_wp2_with fail
  refine (cB.out _ HB2.out).mono ?_
  rintro e w3 ⟨rfl, B3⟩
  have HB3 := Lib.hid (low17 HB2.out B3)
  clear cB B3 HB2
  cases xb with
  | false =>
    have HE : Hid (R = 1) := show _ = _ by rw [HR1.out]; rfl
    clear HR1
    go_wp2_with fail
    go_ret
    exact ⟨by rw [HE.out]; rfl, HB3.out⟩
  | true =>
  go_wp2_with fail
  refine (cI.out _ HB3.out).mono ?_
  rintro e w5 ⟨rfl, hw⟩; subst w5
  clear cI
  cases xi with
  | false =>
    have HE : Hid (R = 1) := show _ = _ by rw [HR1.out]; rfl
    clear HR1
    go_wp2_with fail
    go_ret
    exact ⟨by rw [HE.out]; rfl, HB3.out⟩
  | true =>
  go_wp2_with fail
  refine (cT.out _ HB3.out).mono ?_
  rintro e w4 ⟨rfl, B4⟩
  have HB4 := Lib.hid (low17 HB3.out B4)
  clear cT B4 HB3
  cases xt with
  | false =>
    have HE : Hid (R = 4) := show _ = _ by rw [HR1.out]; rfl
    clear HR1
    go_wp2_with fail
    go_ret
    exact ⟨by rw [HE.out]; rfl, HB4.out⟩
  | true =>
  go_wp2_with fail
  refine (cM.out _).mono ?_
  rintro e w6 ⟨rfl, B5⟩
  have HB5 := Lib.hid (low17 HB4.out B5)
  clear cM B5 HB4
  cases xn with
  | false =>
    have HE : Hid (R = 4) := show _ = _ by rw [HR1.out]; rfl
    clear HR1
    go_wp2_with fail
    go_ret
    exact ⟨by rw [HE.out]; rfl, HB5.out⟩
  | true =>
    have HE : Hid (R = 0) := show _ = _ by rw [HR1.out]; rfl
    clear HR1
    go_wp2_with fail
    go_ret
    exact ⟨by rw [HE.out]; rfl, HB5.out⟩
end Go.Proofs.YtfpocpmcoobjkaaDoor
