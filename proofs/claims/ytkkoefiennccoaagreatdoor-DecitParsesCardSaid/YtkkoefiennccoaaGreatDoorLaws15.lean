/-
  The laws DecitTexts and DecitParses, walked: each returns true and writes nothing that was there; for all bits, all texts.
-/
import Derived.Test.YtkkoefiennccoaaGreatDoorAwake15
import Derived.Test.YtkkoefiennccoaaGreatDoorRefT15
import Derived.Test.YtkkoefiennccoaaGreatDoorRefQ15
namespace Go.Proofs.YtkkoefiennccoaaGreatDoor
set_option maxRecDepth 100000
open Go.RowKit
open Go.Lib (decDigits itoa)

set_option maxHeartbeats 1000000 in
theorem texts_walk (X L : Int) (t : List UInt8) (w : World) (hL : L15 w)
    (cA : Hid (∀ w, L15 w → Calls Tryz.prog 7 #[.int .u64 X, .int .u64 L] w fun e w' => e = .returned (.string ⟨t.toArray⟩) ∧ Below w.heap.size w w'))
    (cB : Hid (∀ w, Calls Tryz.prog 8 #[.int .u64 X, .int .u64 L] w fun e w' => e = .returned (.string ⟨t.toArray⟩) ∧ Below w.heap.size w w')) :
    Calls Tryz.prog 3 #[.int .u64 X, .int .u64 L] w fun e w' => e = .returned (.bool true) ∧ Below w.heap.size w w' := by
  have HL := Lib.hid hL
  clear hL
  go_enter Tryz.func3, Tryz.ntmps3
  go_wp2_with fail
  refine (awake15 _ HL.out).mono ?_
  rintro e w1 ⟨rfl, B1⟩
  have HB := Lib.hid B1
  clear B1
  go_wp2_with fail
  refine (cA.out _ (HL.out.after HB.out)).mono ?_
  rintro e w2 ⟨rfl, B2⟩
  have HB2 := Lib.hid (low_p HB.out B2)
  clear B2
  go_wp2_with fail
  refine (cB.out _).mono ?_
  rintro e w3 ⟨rfl, B3⟩
  have HB3 := Lib.hid (low_p HB2.out B3)
  clear B3
  go_wp2_with fail
  go_ret
  exact ⟨by first | rfl | (simp; done), HB3.out⟩
theorem texts15 (x y : Int) (hx : (Lit.int .u64 x).wf = true) (hy : (Lit.int .u64 y).wf = true) (w : World) (hL : L15 w) :
    Calls Tryz.prog 3 #[.int .u64 x, .int .u64 y] w fun e w' => e = .returned (.bool true) ∧ Below w.heap.size w w' := by
  obtain ⟨h, hh, rfl⟩ := nat_u64 hx
  obtain ⟨l, hl, rfl⟩ := nat_u64 hy
  exact texts_walk _ _ _ w hL (Lib.hid fun w hL => text_any15 h l hh hl w hL) (Lib.hid fun w => refDecText_any h l hh hl w)

set_option maxHeartbeats 1000000 in
theorem parses_walk (s : List UInt8) (a c d : Int) (w : World) (hL : L15 w)
    (cA : Hid (s.length ≤ 400 → ∀ w, L15 w → Calls Tryz.prog 9 #[.string ⟨s.toArray⟩] w fun e w' => e = .returned (.tuple #[.int .u64 a, .int .u64 c, .int .i64 d]) ∧ Below w.heap.size w w'))
    (cB : Hid (s.length ≤ 400 → ∀ w, Calls Tryz.prog 10 #[.string ⟨s.toArray⟩] w fun e w' => e = .returned (.tuple #[.int .u64 a, .int .u64 c, .int .i64 d]) ∧ Below w.heap.size w w')) :
    Calls Tryz.prog 4 #[.string ⟨s.toArray⟩] w fun e w' => e = .returned (.bool true) ∧ Below w.heap.size w w' := by
  have HL := Lib.hid hL
  clear hL
  by_cases hl : 400 < s.length
  · have d1 : decide (400 < (s.length : Int)) = true := decide_eq_true (by omega)
    clear hl cA cB
    go_enter Tryz.func4, Tryz.ntmps4
    go_wp2_with fail
    refine (awake15 _ HL.out).mono ?_
    rintro e w1 ⟨rfl, B1⟩
    have HB := Lib.hid B1
    clear B1
    go_wp2_with fail
    go_ret
    exact ⟨rfl, HB.out⟩
  · have d1 : decide (400 < (s.length : Int)) = false := decide_eq_false (by omega)
    have cA2 := Lib.hid (cA.out (by omega))
    have cB2 := Lib.hid (cB.out (by omega))
    clear hl cA cB
    go_enter Tryz.func4, Tryz.ntmps4
    go_wp2_with fail
    refine (awake15 _ HL.out).mono ?_
    rintro e w1 ⟨rfl, B1⟩
    have HB := Lib.hid B1
    clear B1
    go_wp2_with fail
    refine (cA2.out _ (HL.out.after HB.out)).mono ?_
    rintro e w2 ⟨rfl, B2⟩
    have HB2 := Lib.hid (low_p HB.out B2)
    clear B2
    go_wp2_with fail
    refine (cB2.out _).mono ?_
    rintro e w3 ⟨rfl, B3⟩
    have HB3 := Lib.hid (low_p HB2.out B3)
    clear B3
    go_wp2_with fail
    go_ret
    exact ⟨by first | rfl | (simp; done), HB3.out⟩
theorem str_list15 (a : ByteArray) : a = ⟨a.data.toList.toArray⟩ := by cases a; simp
theorem parses15 (a : ByteArray) (w : World) (hL : L15 w) :
    Calls Tryz.prog 4 #[.string a] w fun e w' => e = .returned (.bool true) ∧ Below w.heap.size w w' := by
  rw [str_list15 a]
  exact parses_walk _ _ _ _ w hL (Lib.hid fun h w hL => parse_any15 _ (by omega) w hL) (Lib.hid fun h w => refDecParse_any _ (by omega) w)
end Go.Proofs.YtkkoefiennccoaaGreatDoor
