/-
  The law's first question (what the document tells) is answered true. No condition but what the calls lean on (L15).
-/
import Derived.Test.YtkkoefiennccoaaDoorDecit15F
namespace Go.Proofs.YtkkoefiennccoaaDoor
set_option maxRecDepth 100000
open Go.RowKit
open Go.Lib (decDigits itoa)

theorem aw_join : Joins 15 (-1) := ⟨by decide, by decide, by decide⟩
theorem aw_bits : dH false 15 (-1) = 3476215962376601600 := rfl
theorem aw_dec : dec 15 = [49, 53] := by
  rw [dec_pos (by decide), ds_pos (by decide), ds_pos (n := 15 / 10) (by decide), show 15 / 10 / 10 = 0 from rfl, ds_zero]
  decide
theorem aw_body : bodyL [49, 53] (-1) = [49, 46, 53] := by decide
theorem aw_parse : pAns [49, 46, 53] = (3476215962376601600, 15, 0) := by
  have h := back_ans (n := false) aw_join
  rw [aw_dec, aw_body, aw_bits] at h
  exact h
theorem aw_text : textD 3476215962376601600 15 = [49, 46, 53] := by
  obtain ⟨a, b, c, d⟩ := join_back (n := false) aw_join
  rw [aw_bits] at a b c d
  rw [show 15 % 18446744073709551616 = 15 from rfl] at c
  unfold textD dText
  rw [a, b, c, d, aw_dec, aw_body]
  rfl

set_option maxHeartbeats 1000000 in
theorem awake15 (w : World) (hL : L15 w) : Calls Tryd.prog 5 #[] w fun e w' => e = .returned (.bool true) ∧ Below w.heap.size w w' := by
  have HL := Lib.hid hL
  have cJ : Hid (∀ w, Calls Tryd.prog 11 #[.bool false, .agg #[.int .u64 0, .int .u64 15], .int .i64 (-1)] w fun e w' => e = .returned (.tuple #[.int .u64 3476215962376601600, .int .u64 15, .bool true]) ∧ Below w.heap.size w w') := fun w => by
    have h := join_any false 15 (by decide) (-1) (by decide) w
    rw [jV_yes aw_join, aw_bits] at h
    exact h
  have cP : Hid (∀ w, L15 w → Calls Tryd.prog 6 #[.string ⟨#[49, 46, 53]⟩] w fun e w' => e = .returned (.tuple #[.int .u64 3476215962376601600, .int .u64 15, .int .i64 0]) ∧ Below w.heap.size w w') := fun w hL => by
    have h := parse_any15 [49, 46, 53] (by decide) w hL
    rw [aw_parse] at h
    exact h
  have cT : Hid (∀ w, L15 w → Calls Tryd.prog 7 #[.int .u64 3476215962376601600, .int .u64 15] w fun e w' => e = .returned (.string ⟨#[49, 46, 53]⟩) ∧ Below w.heap.size w w') := fun w hL => by
    have h := text_any15 3476215962376601600 15 (by decide) (by decide) w hL
    rw [aw_text] at h
    exact h
  clear hL
  go_enter Tryd.func5, Tryd.ntmps5
  go_wp2_with fail
  refine (cJ.out _).mono ?_
  rintro r w1 ⟨rfl, hB1⟩
  have HB1 := Lib.hid hB1
  clear hB1
  go_wp2_with fail
  refine (cP.out _ (HL.out.after HB1.out)).mono ?_
  rintro r w2 ⟨rfl, hB2⟩
  have HB2 := Lib.hid (low_p HB1.out hB2)
  clear hB2
  go_wp2_with fail
  refine (cT.out _ (HL.out.after HB2.out)).mono ?_
  rintro r w3 ⟨rfl, hB3⟩
  have HB3 := Lib.hid (low_p HB2.out hB3)
  clear hB3
  go_wp2_with fail
  go_ret
  exact ⟨by first | rfl | (simp; done), HB3.out⟩
end Go.Proofs.YtkkoefiennccoaaDoor
