/-
  What the program's isWhole, isName, isText and isInBounds do (chapter 17); no condition but bounds.
-/
import Derived.Test.YtfpocpmcoobjkaaDoorRefE17
import Derived.Test.YtfpocpmcoobjkaaDoorValAt17
import Derived.Test.YtfpocpmcoobjkaaDoorShelf17
namespace Go.Proofs.YtfpocpmcoobjkaaDoor
set_option maxRecDepth 100000
open Go.RowKit

set_option maxHeartbeats 1000000 in
theorem isWhole_any (s : List UInt8) (hs : s.length ≤ 100000000) (w : World) :
    Calls Tryd.prog 58 #[.string ⟨s.toArray⟩] w fun e w' => e = .returned (.bool (wholeB s)) ∧ Below w.heap.size w w' := by
  obtain ⟨c, W1, hrun, hrow, hb⟩ := bytes_of_str s w
  have cC := Lib.hid (check_any _ _ c s W1 (hrow.held rfl) hs)
  have HB := Lib.hid hb
  clear hrow hb hs
  go_enter Tryd.func58, Tryd.ntmps58
  go_wp2_with fail
  refine (cC.out).mono ?_
  rintro e w1 ⟨rfl, B1⟩
  have HB1 := Lib.hid (low17 HB.out B1)
  clear cC hrun B1
  go_wp2_with fail
  go_ret
  exact ⟨rfl, HB1.out⟩
theorem index_zero (s : List UInt8) : decide (Lib.indexByte s 0 < 0) = !zeroB s := by
  induction s with
  | nil => rfl
  | cons b l ih =>
    have hg := Lib.indexByte_ge l 0
    have e : zeroB (b :: l) = ((b == 0) || zeroB l) := rfl
    rw [e, Lib.indexByte]
    cases hb : b == 0 with
    | true => simp
    | false =>
      rw [Bool.false_or, ← ih]
      simp only [Bool.false_eq_true, if_false]
      by_cases h : Lib.indexByte l 0 = -1
      · rw [h]; simp
      · have h1 : (Lib.indexByte l 0 == -1) = false := beq_eq_false_iff_ne.2 h
        rw [h1]
        simp only [Bool.false_eq_true, if_false]
        rw [decide_eq_false (show ¬ Lib.indexByte l 0 + 1 < 0 by omega), decide_eq_false (show ¬ Lib.indexByte l 0 < 0 by omega)]
set_option maxHeartbeats 1000000 in
theorem isName_any (s : List UInt8) (hs : s.length ≤ 100000000) (w : World) :
    Calls Tryd.prog 52 #[.string ⟨s.toArray⟩] w fun e w' => e = .returned (.bool (namedB s)) ∧ Below w.heap.size w w' := by
  have cW := Lib.hid fun w => isWhole_any s hs w
  have cZ := Lib.hid fun w => byte_any ⟨s.toArray⟩ 0 w
  have hz := index_zero s
  obtain ⟨R, hR⟩ : ∃ R, R = namedB s := ⟨_, rfl⟩
  rw [← hR]
  unfold namedB at hR
  generalize wholeB s = a at *
  generalize zeroB s = b at *
  have e0 : Lib.indexByte (ByteArray.mk s.toArray).data.toList (0 : Int).toNat.toUInt8 = Lib.indexByte s 0 := by simp
  rw [e0] at cZ
  clear e0
  generalize Lib.indexByte s 0 = i at *
  have HR := Lib.hid hR
  clear hR hs
  cases b
  · have hz : decide (i < 0) = true := hz
    go_enter Tryd.func52, Tryd.ntmps52
    go_wp2_with (first | (go_at_call 59; (with_reducible refine (cZ.out _).mono ?_); rintro e w5 ⟨rfl, hw⟩; subst w5) | (go_at_call 58; (with_reducible refine (cW.out _).mono ?_); rintro e w1 ⟨rfl, B1⟩))
    go_ret
    exact ⟨by rw [HR.out]; simp, B1⟩
  · have hz : decide (i < 0) = false := hz
    go_enter Tryd.func52, Tryd.ntmps52
    go_wp2_with (first | (go_at_call 59; (with_reducible refine (cZ.out _).mono ?_); rintro e w5 ⟨rfl, hw⟩; subst w5))
    go_ret
    exact ⟨by rw [HR.out]; simp, Below.refl _ _⟩
/-- Are the texts as the Kind asks? -/
def txtB (o : OwnV) : Bool := if o.kind = 11 then namedB o.text && namedB o.more else wholeB o.text && wholeB o.more
set_option maxHeartbeats 2000000 in
theorem isText_any (o : OwnV) (b off : Nat) (w : World) (hb : b < w.heap.size) (ht : o.text.length ≤ 100000000) (hm : o.more.length ≤ 100000000)
    (c0 : w.cell? ⟨b, off, none⟩ = some (.int .i64 o.kind)) (c4 : w.cell? ⟨b, off + 4, none⟩ = some (.string ⟨o.text.toArray⟩)) (c5 : w.cell? ⟨b, off + 5, none⟩ = some (.string ⟨o.more.toArray⟩)) :
    Calls Tryd.prog 51 #[.pointer (some ⟨b, off, none⟩)] w fun e w' => e = .returned (.bool (txtB o)) ∧ Below w.heap.size w w' := by
  have cWt := Lib.hid fun w => isWhole_any o.text ht w
  have cWm := Lib.hid fun w => isWhole_any o.more hm w
  have cNt := Lib.hid fun w => isName_any o.text ht w
  have cNm := Lib.hid fun w => isName_any o.more hm w
  have Hb := Lib.hid hb
  have C5 := Lib.hid c5
  obtain ⟨kd, bits, high, low, text, more, sub, bytes⟩ := o
  dsimp only at *
  clear ht hm hb c5
  by_cases hk : kd = 11
  · obtain ⟨R, hR⟩ : ∃ R, R = (namedB text && namedB more) := ⟨_, rfl⟩
    have e : txtB ⟨kd, bits, high, low, text, more, sub, bytes⟩ = R := by rw [hR]; unfold txtB; exact if_pos hk
    rw [e]
    clear e cWt cWm
    generalize namedB text = x at *
    generalize namedB more = y at *
    have HR := Lib.hid hR
    subst hk
    clear hR
    cases x
    · go_enter Tryd.func51, Tryd.ntmps51
      go_wp2_with fail
      refine (cNt.out _).mono ?_
      rintro e w1 ⟨rfl, B1⟩
      have HB := Lib.hid B1
      clear B1 cNt c0 c4
      go_wp2_with fail
      go_ret
      exact ⟨by rw [HR.out]; simp, HB.out⟩
    · go_enter Tryd.func51, Tryd.ntmps51
      go_wp2_with fail
      refine (cNt.out _).mono ?_
      rintro e w1 ⟨rfl, B1⟩
      have c5 := (B1.cell Hb.out).trans C5.out
      have HB := Lib.hid B1
      clear B1 cNt c0 c4
      go_wp2_with fail
      refine (cNm.out _).mono ?_
      rintro e w2 ⟨rfl, B2⟩
      have HB2 := Lib.hid (low17 HB.out B2)
      clear B2 cNm c5
      go_wp2_with fail
      go_ret
      exact ⟨by rw [HR.out]; simp, HB2.out⟩
  · have e1 : (kd == 11) = false := beq_eq_false_iff_ne.2 hk
    obtain ⟨R, hR⟩ : ∃ R, R = (wholeB text && wholeB more) := ⟨_, rfl⟩
    have e : txtB ⟨kd, bits, high, low, text, more, sub, bytes⟩ = R := by rw [hR]; unfold txtB; exact if_neg hk
    rw [e]
    clear e cNt cNm hk
    generalize wholeB text = x at *
    generalize wholeB more = y at *
    have HR := Lib.hid hR
    clear hR
    cases x
    · go_enter Tryd.func51, Tryd.ntmps51
      go_wp2_with fail
      refine (cWt.out _).mono ?_
      rintro e w1 ⟨rfl, B1⟩
      have HB := Lib.hid B1
      clear B1 cWt c0 c4
      go_wp2_with fail
      go_ret
      exact ⟨by rw [HR.out]; simp, HB.out⟩
    · go_enter Tryd.func51, Tryd.ntmps51
      go_wp2_with fail
      refine (cWt.out _).mono ?_
      rintro e w1 ⟨rfl, B1⟩
      have c5 := (B1.cell Hb.out).trans C5.out
      have HB := Lib.hid B1
      clear B1 cWt c0 c4
      go_wp2_with fail
      refine (cWm.out _).mono ?_
      rintro e w2 ⟨rfl, B2⟩
      have HB2 := Lib.hid (low17 HB.out B2)
      clear B2 cWm c5
      go_wp2_with fail
      go_ret
      exact ⟨by rw [HR.out]; simp, HB2.out⟩
/-- Are Bits, Sub and how many Bytes there are as the Kind asks? -/
def bndB (o : OwnV) : Bool := if o.kind = 16 then decide ((o.bits : Int) < 4294967296) else if o.kind = 8 then decide ((o.bits : Int) ≤ 1) else if o.kind = 5 then decide (0 ≤ o.sub) && decide (o.sub ≤ 255) else if o.kind = 7 ∨ o.kind = 12 then ((o.bytes.length : Int) == 12) else true
set_option maxHeartbeats 2000000 in
theorem isInBounds_any (o : OwnV) (b off : Nat) (w : World) (A : Option Addr) (c : Nat)
    (c0 : w.cell? ⟨b, off, none⟩ = some (.int .i64 o.kind)) (c1 : w.cell? ⟨b, off + 1, none⟩ = some (.int .u64 (o.bits : Int))) (c6 : w.cell? ⟨b, off + 6, none⟩ = some (.int .i64 o.sub)) (c7 : w.cell? ⟨b, off + 7, none⟩ = some (.slice A o.bytes.length c)) :
    Calls Tryd.prog 50 #[.pointer (some ⟨b, off, none⟩)] w fun e w' => e = .returned (.bool (bndB o)) ∧ w' = w := by
  obtain ⟨kd, bits, high, low, text, more, sub, bytes⟩ := o
  dsimp only at *
  obtain ⟨R, hR⟩ : ∃ R, R = bndB ⟨kd, bits, high, low, text, more, sub, bytes⟩ := ⟨_, rfl⟩
  rw [← hR]
  unfold bndB at hR
  dsimp only at hR
  by_cases h1 : kd = 16
  · rw [if_pos h1] at hR
    have d := hR.symm
    subst h1
    clear hR
    cases R
    all_goals
      go_enter Tryd.func50, Tryd.ntmps50
      go_wp2_with fail
      go_ret
      exact ⟨by first | rfl | (simp; done), rfl⟩
  rw [if_neg h1] at hR
  have e1 : (kd == 16) = false := beq_eq_false_iff_ne.2 h1
  by_cases h2 : kd = 8
  · rw [if_pos h2] at hR
    have d := hR.symm
    subst h2
    clear hR h1 e1
    cases R
    all_goals
      go_enter Tryd.func50, Tryd.ntmps50
      go_wp2_with fail
      go_ret
      exact ⟨by first | rfl | (simp; done), rfl⟩
  rw [if_neg h2] at hR
  have e2 : (kd == 8) = false := beq_eq_false_iff_ne.2 h2
  by_cases h3 : kd = 5
  · rw [if_pos h3] at hR
    have HR := Lib.hid hR
    subst h3
    clear hR h1 e1 h2 e2
    cases d1 : decide (0 ≤ sub) <;> cases d2 : decide (sub ≤ 255)
    all_goals
      rw [d1, d2] at HR
      go_enter Tryd.func50, Tryd.ntmps50
      go_wp2_with fail
      go_ret
      exact ⟨by rw [HR.out]; rfl, rfl⟩
  rw [if_neg h3] at hR
  have e3 : (kd == 5) = false := beq_eq_false_iff_ne.2 h3
  by_cases h4 : kd = 7
  · rw [if_pos (.inl h4)] at hR
    have d := hR.symm
    subst h4
    clear hR h1 e1 h2 e2 h3 e3
    cases R
    all_goals
      go_enter Tryd.func50, Tryd.ntmps50
      go_wp2_with fail
      go_ret
      exact ⟨by first | rfl | (simp; done), rfl⟩
  have e4 : (kd == 7) = false := beq_eq_false_iff_ne.2 h4
  by_cases h5 : kd = 12
  · rw [if_pos (.inr h5)] at hR
    have d := hR.symm
    subst h5
    clear hR h1 e1 h2 e2 h3 e3 h4 e4
    cases R
    all_goals
      go_enter Tryd.func50, Tryd.ntmps50
      go_wp2_with fail
      go_ret
      exact ⟨by first | rfl | (simp; done), rfl⟩
  have e5 : (kd == 12) = false := beq_eq_false_iff_ne.2 h5
  rw [if_neg (by omega)] at hR
  have HR := Lib.hid hR
  clear hR h1 h2 h3 h4 h5
  go_enter Tryd.func50, Tryd.ntmps50
  go_wp2_with fail
  go_ret
  exact ⟨by rw [HR.out]; rfl, rfl⟩
end Go.Proofs.YtfpocpmcoobjkaaDoor
