/-
  The law's first question (what the document tells) is answered true. No condition but what the calls lean on (L16).
-/
import Derived.Test.YthkcaogohkgheaaDoorWhenI16
namespace Go.Proofs.YthkcaogohkgheaaDoor
set_option maxRecDepth 100000
open Go.RowKit

theorem aw_text : TextW 0 [49, 57, 55, 48, 45, 48, 49, 45, 48, 49, 84, 48, 48, 58, 48, 48, 58, 48, 48, 90] := ⟨0, 0, 0, ⟨by decide, by decide⟩, rfl, by decide⟩
theorem aw_parse : pW [50, 48, 48, 48, 45, 48, 50, 45, 50, 57, 84, 50, 51, 58, 53, 57, 58, 53, 57, 46, 48, 48, 55, 90] = some 951868799007 := by
  have h := parse_when (k := 30) (j := 1) (d := 28) (h := 23) (i := 59) (c := 59) (f := 7) ⟨by decide, by decide⟩ (by decide) (by decide) (by decide) (by decide) (by decide)
  rw [show whenL (1970 + 30) (1 + 1) (28 + 1) 23 59 59 7 = [50, 48, 48, 48, 45, 48, 50, 45, 50, 57, 84, 50, 51, 58, 53, 57, 58, 53, 57, 46, 48, 48, 55, 90] by decide, show dnum 30 1 28 = 11016 by decide] at h
  exact h

set_option maxHeartbeats 1000000 in
theorem awake16 (w : World) (hL : L16 w) : Calls Tryd.prog 7 #[] w fun e w' => e = .returned (.bool true) ∧ Below w.heap.size w w' := by
  have cT : Hid (Calls Tryd.prog 8 #[.int .i64 0] w fun e w' => e = .returned (.tuple #[.string ⟨#[49, 57, 55, 48, 45, 48, 49, 45, 48, 49, 84, 48, 48, 58, 48, 48, 58, 48, 48, 90]⟩, .bool true]) ∧ Below w.heap.size w w') := by
    refine (text_in16 0 (by decide) w hL).mono ?_
    rintro e w' ⟨⟨t, rfl, ht⟩, B⟩
    rw [text_one ht aw_text]
    exact ⟨rfl, B⟩
  have cP : Hid (∀ w, Calls Tryd.prog 10 #[.string ⟨#[50, 48, 48, 48, 45, 48, 50, 45, 50, 57, 84, 50, 51, 58, 53, 57, 58, 53, 57, 46, 48, 48, 55, 90]⟩] w fun e w' => e = .returned (.tuple #[.int .i64 951868799007, .bool true]) ∧ Below w.heap.size w w') := fun w => by
    have h := parse_any16 [50, 48, 48, 48, 45, 48, 50, 45, 50, 57, 84, 50, 51, 58, 53, 57, 58, 53, 57, 46, 48, 48, 55, 90] w
    rw [aw_parse] at h
    exact h
  clear hL
  go_enter Tryd.func7, Tryd.ntmps7
  go_wp2_with fail
  refine (cT.out).mono ?_
  rintro r w1 ⟨rfl, hB1⟩
  have HB1 := Lib.hid hB1
  clear hB1
  go_wp2_with fail
  refine (cP.out _).mono ?_
  rintro r w2 ⟨rfl, hB2⟩
  have HB2 := Lib.hid (low16 HB1.out hB2)
  clear hB2
  go_wp2_with fail
  go_ret
  exact ⟨by first | rfl | (simp; done), HB2.out⟩
end Go.Proofs.YthkcaogohkgheaaDoor
