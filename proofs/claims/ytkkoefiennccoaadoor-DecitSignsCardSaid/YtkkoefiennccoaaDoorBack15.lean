/-
  The law DecitBack, walked: it returns true and writes nothing that was there; for all bits.
-/
import Derived.Test.YtkkoefiennccoaaDoorAwake15
import Derived.Test.YtkkoefiennccoaaDoorRefK14
import Derived.Test.YtkkoefiennccoaaDoorStruct6
namespace Go.Proofs.YtkkoefiennccoaaDoor
set_option maxRecDepth 100000
open Go.RowKit
open Go.Lib (decDigits itoa)

set_option maxHeartbeats 4000000 in
theorem back_core (X L p1 p2 k c1 c0 x : Int) (n pl : Bool) (t : List UInt8) (w : World) (hL : L15 w)
    (cT : Hid (∀ w, L15 w → Calls Tryd.prog 7 #[.int .u64 X, .int .u64 L] w fun e w' => e = .returned (.string ⟨t.toArray⟩) ∧ Below w.heap.size w w'))
    (cP : Hid (∀ w, L15 w → Calls Tryd.prog 6 #[.string ⟨t.toArray⟩] w fun e w' => e = .returned (.tuple #[.int .u64 p1, .int .u64 p2, .int .i64 0]) ∧ Below w.heap.size w w'))
    (cS : Hid (∀ w, Calls Tryd.prog 8 #[.int .u64 X, .int .u64 L] w fun e w' => e = .returned (.tuple #[.int .i64 k, .bool n, .agg #[.int .u64 c1, .int .u64 c0], .int .i64 x]) ∧ Below w.heap.size w w'))
    (cL : Hid (∀ w, Calls Tryd.prog 9 #[.int .u64 X, .int .u64 L] w fun e w' => e = .returned (.bool pl) ∧ Below w.heap.size w w'))
    (hc : (pl = true ∧ p1 = X ∧ p2 = L) ∨
      (pl = false ∧ (k == 1) = false ∧ Hid (∀ w, Calls Tryd.prog 9 #[.int .u64 p1, .int .u64 p2] w fun e w' => e = .returned (.bool true) ∧ Below w.heap.size w w')) ∨
      (pl = false ∧ k = 1 ∧ ∃ b, Hid (∀ w, Calls Tryd.prog 10 #[.bool n, .agg #[.int .u64 c1, .int .u64 c0], .int .i64 x] w fun e w' => e = .returned (.tuple #[.int .u64 p1, .int .u64 p2, .bool b]) ∧ Below w.heap.size w w'))) :
    Calls Tryd.prog 3 #[.int .u64 X, .int .u64 L] w fun e w' => e = .returned (.bool true) ∧ Below w.heap.size w w' := by
  have HL := Lib.hid hL
  have HC := Lib.hid hc
  clear hL hc
  go_enter Tryd.func3, Tryd.ntmps3
  go_wp2_with fail
  refine (awake15 _ HL.out).mono ?_
  rintro e w1 ⟨rfl, B1⟩
  have HB1 := Lib.hid B1
  clear B1
  go_wp2_with fail
  refine (cT.out _ (HL.out.after HB1.out)).mono ?_
  rintro e w2 ⟨rfl, B2⟩
  have HB2 := Lib.hid (low_p HB1.out B2)
  clear B2 HB1 cT
  go_wp2_with fail
  refine (cP.out _ (HL.out.after HB2.out)).mono ?_
  rintro e w3 ⟨rfl, B3⟩
  have HB3 := Lib.hid (low_p HB2.out B3)
  clear B3 HB2 cP
  go_wp2_with fail
  refine (cS.out _).mono ?_
  rintro e w4 ⟨rfl, B4⟩
  have HB4 := Lib.hid (low_p HB3.out B4)
  clear B4 HB3 cS
  go_upto_if 34 with fail
  obtain ⟨V, hV⟩ : ∃ V, V = w4.alloc (Obj.cells #[.int .u64 c1, .int .u64 c0] 29) := ⟨_, rfl⟩
  have HB5 : Hid (Below w.heap.size w V) := by rw [hV]; exact HB4.out.alloc HB4.out.size _
  have i0 : V.cell? ⟨w4.heap.size, 0, none⟩ = some (.int .u64 c1) := by rw [hV]; simp [go_sem]
  have i1 : V.cell? ⟨w4.heap.size, 1, none⟩ = some (.int .u64 c0) := by rw [hV]; simp [go_sem]
  rw [← hV]
  clear hV HB4
  generalize w4.heap.size = g at *
  go_wp2_with fail
  refine (cL.out _).mono ?_
  rintro e w6 ⟨rfl, B6⟩
  have HB6 := Lib.hid (low_p HB5.out B6)
  have j0 := keep_p i0 B6
  have j1 := keep_p i1 B6
  clear B6 HB5 cL i0 i1
  rcases HC.out with ⟨rfl, rfl, rfl⟩ | ⟨rfl, hk, c⟩ | ⟨rfl, rfl, b, c⟩
  · clear HC
    go_wp2_with fail
    go_ret
    exact ⟨by first | rfl | (simp; done), HB6.out⟩
  · clear HC
    go_wp2_with fail
    refine (c.out _).mono ?_
    rintro e w7 ⟨rfl, B7⟩
    have HB7 := Lib.hid (low_p HB6.out B7)
    clear B7 HB6 c
    go_wp2_with fail
    go_ret
    exact ⟨by first | rfl | (simp; done), HB7.out⟩
  · clear HC
    go_wp2_with fail
    refine (c.out _).mono ?_
    rintro e w7 ⟨rfl, B7⟩
    have HB7 := Lib.hid (low_p HB6.out B7)
    clear B7 HB6 c
    go_wp2_with fail
    go_ret
    exact ⟨by first | rfl | (simp; done), HB7.out⟩

/-- The text of whatever bits, read. -/
theorem textD_len (h l : Nat) : (textD h l).length ≤ 100 := by
  unfold textD dText
  have hs := sg_length (dN h)
  have hd := dec_isDg (dC h l)
  have hl : (dec (dC h l)).length ≤ 34 := dec_le (by rw [show (10 : Nat) ^ 34 = 10000000000000000000000000000000000 by decide]; exact dC_lt h l) (by omega)
  have h1 : 1 ≤ (dec (dC h l)).length := List.length_pos_iff.2 (digs_iff.1 hd).2
  have hx := dX_in h
  have hb := body_len h1 hl (x := dX h) (by omega) (by omega)
  split
  · decide
  · split
    · rw [List.length_append, show tI.length = 8 from rfl]; omega
    · rw [List.length_append]; omega
theorem back_bits (h l : Nat) : ∃ p1 p2 : Nat, pAns (textD h l) = (p1, p2, 0) ∧ p1 < 18446744073709551616 ∧ p2 < 18446744073709551616 ∧ (dP h l = true → p1 = h ∧ p2 = l) ∧ (dK h ≠ 1 → dP p1 p2 = true) ∧ (dK h = 1 → p1 = dH (dN h) (dC h l) (dX h) ∧ p2 = dC h l % 18446744073709551616) := by
  rcases kinds h with k | ⟨k | k, hc, hx⟩
  · have j := split_joins h l
    have e : textD h l = sg (dN h) ++ bodyL (dec (dC h l)) (dX h) := by
      unfold textD dText
      rw [k]; rfl
    rw [e, back_ans j]
    refine ⟨_, _, rfl, dH_lt j, Nat.mod_lt _ (by decide), fun hp => ?_, fun h1 => absurd k h1, fun _ => ⟨rfl, rfl⟩⟩
    rw [kind_one k] at hp
    exact of_decide_eq_true hp
  · have e : textD h l = sg (dN h) ++ tI := by
      unfold textD dText
      rw [k]; rfl
    rw [e]
    have hp : dP h l = decide ((h = 8646911284551352320 ∨ h = 17870283321406128128) ∧ l = 0) := by
      unfold dP
      rw [k]; rfl
    cases hn : dN h with
    | false =>
      rw [name_ans.2.1]
      refine ⟨_, _, rfl, by decide, by decide, fun h1 => ?_, fun _ => by decide, fun h1 => by rw [k] at h1; cases h1⟩
      rw [hp] at h1
      obtain ⟨a, b⟩ := of_decide_eq_true h1
      rcases a with rfl | rfl
      · exact ⟨rfl, b.symm⟩
      · exact absurd hn (by decide)
    | true =>
      rw [name_ans.2.2]
      refine ⟨_, _, rfl, by decide, by decide, fun h1 => ?_, fun _ => by decide, fun h1 => by rw [k] at h1; cases h1⟩
      rw [hp] at h1
      obtain ⟨a, b⟩ := of_decide_eq_true h1
      rcases a with rfl | rfl
      · exact absurd hn (by decide)
      · exact ⟨rfl, b.symm⟩
  · have e : textD h l = tN := by
      unfold textD dText
      rw [k]; rfl
    rw [e, name_ans.1]
    refine ⟨_, _, rfl, by decide, by decide, fun h1 => ?_, fun _ => by decide, fun h1 => by rw [k] at h1; cases h1⟩
    have hp : dP h l = decide (h = 8935141660703064064 ∧ l = 0) := by
      unfold dP
      rw [k]; rfl
    rw [hp] at h1
    obtain ⟨a, b⟩ := of_decide_eq_true h1
    exact ⟨a.symm, b.symm⟩

theorem back15 (x y : Int) (hx : (Lit.int .u64 x).wf = true) (hy : (Lit.int .u64 y).wf = true) (w : World) (hL : L15 w) :
    Calls Tryd.prog 3 #[.int .u64 x, .int .u64 y] w fun e w' => e = .returned (.bool true) ∧ Below w.heap.size w w' := by
  obtain ⟨h, hh, rfl⟩ := nat_u64 hx
  obtain ⟨l, hl, rfl⟩ := nat_u64 hy
  obtain ⟨p1, p2, e, l1, l2, a1, a2, a3⟩ := back_bits h l
  have cP : Hid (∀ w, L15 w → Calls Tryd.prog 6 #[.string ⟨(textD h l).toArray⟩] w fun e w' => e = .returned (.tuple #[.int .u64 (p1 : Int), .int .u64 (p2 : Int), .int .i64 0]) ∧ Below w.heap.size w w') := fun w hL => by
    have := parse_any15 (textD h l) (Nat.le_trans (textD_len h l) (by decide)) w hL
    rw [e] at this
    exact this
  have cS := Lib.hid fun w => refSplit_any h l hh hl w
  have cL := Lib.hid fun w => refPlain_any h l hh hl w
  unfold dV wv at cS
  refine back_core _ _ _ _ _ _ _ _ _ _ _ w hL (Lib.hid fun w hL => text_any15 h l hh hl w hL) cP cS cL ?_
  cases hp : dP h l with
  | true =>
    obtain ⟨rfl, rfl⟩ := a1 hp
    exact .inl ⟨rfl, rfl, rfl⟩
  | false =>
    by_cases hk : dK h = 1
    · refine .inr (.inr ⟨rfl, by rw [hk]; rfl, true, Lib.hid fun w => ?_⟩)
      have cJ := refJoin_any (dN h) (dC h l) (dX h) w
      rw [jV_yes (split_joins h l)] at cJ
      obtain ⟨b1, b2⟩ := a3 hk
      rw [b1, b2]
      exact cJ
    · refine .inr (.inl ⟨rfl, beq_eq_false_iff_ne.2 (by omega), Lib.hid fun w => ?_⟩)
      have := refPlain_any p1 p2 l1 l2 w
      rw [a2 hk] at this
      exact this
end Go.Proofs.YtkkoefiennccoaaDoor
