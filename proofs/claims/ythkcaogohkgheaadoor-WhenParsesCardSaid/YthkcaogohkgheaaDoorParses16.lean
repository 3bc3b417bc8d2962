/-
  The law WhenParses, walked: returns true and writes nothing that was there; for every text.
-/
import Derived.Test.YthkcaogohkgheaaDoorAwake16
import Derived.Test.YthkcaogohkgheaaDoorRefR16
namespace Go.Proofs.YthkcaogohkgheaaDoor
set_option maxRecDepth 100000
open Go.RowKit

set_option maxHeartbeats 1000000 in
theorem parses16_core (s : List UInt8) (a : Int) (o : Bool) (w : World) (hL : L16 w)
    (cA : Hid (∀ w, Calls Tryd.prog 10 #[.string ⟨s.toArray⟩] w fun e w' => e = .returned (.tuple #[.int .i64 a, .bool o]) ∧ Below w.heap.size w w'))
    (cB : Hid (∀ w, Calls Tryd.prog 11 #[.string ⟨s.toArray⟩] w fun e w' => e = .returned (.tuple #[.int .i64 a, .bool o]) ∧ Below w.heap.size w w')) :
    Calls Tryd.prog 4 #[.string ⟨s.toArray⟩] w fun e w' => e = .returned (.bool true) ∧ Below w.heap.size w w' := by
  have HL := Lib.hid hL
  clear hL
  by_cases hl : 100 < s.length
  · have d1 : decide (100 < (s.length : Int)) = true := decide_eq_true (by omega)
    have d1n : decide (100 < s.length) = true := decide_eq_true hl
    clear hl cA cB
    go_enter Tryd.func4, Tryd.ntmps4
    go_wp2_with fail
    refine (awake16 _ HL.out).mono ?_
    rintro e w1 ⟨rfl, B1⟩
    have HB := Lib.hid B1
    clear B1
    go_wp2_with fail
    go_ret
    exact ⟨rfl, HB.out⟩
  · have d1 : decide (100 < (s.length : Int)) = false := decide_eq_false (by omega)
    have d1n : decide (100 < s.length) = false := decide_eq_false hl
    clear hl
    cases o
    all_goals
      go_enter Tryd.func4, Tryd.ntmps4
      go_wp2_with fail
      refine (awake16 _ HL.out).mono ?_
      rintro e w1 ⟨rfl, B1⟩
      have HB := Lib.hid B1
      clear B1
      go_wp2_with fail
      refine (cA.out _).mono ?_
      rintro e w2 ⟨rfl, B2⟩
      have HB2 := Lib.hid (low16 HB.out B2)
      clear B2
      go_wp2_with fail
      refine (cB.out _).mono ?_
      rintro e w3 ⟨rfl, B3⟩
      have HB3 := Lib.hid (low16 HB2.out B3)
      clear B3
      go_wp2_with fail
      go_ret
      exact ⟨by first | rfl | (simp; done), HB3.out⟩
theorem parses16_walk (s : List UInt8) (w : World) (hL : L16 w) :
    Calls Tryd.prog 4 #[.string ⟨s.toArray⟩] w fun e w' => e = .returned (.bool true) ∧ Below w.heap.size w w' :=
  parses16_core s _ _ w hL (Lib.hid fun w => parse_any16 s w) (Lib.hid fun w => refParse_any16 s w)
end Go.Proofs.YthkcaogohkgheaaDoor
