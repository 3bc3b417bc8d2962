/-
  The law TreeNames (chapter 17) at any number and any text; no condition but that the words are laid.
-/
import Derived.Test.YtfpocpmcoobjkaaDoorAwake17
namespace Go.Proofs.YtfpocpmcoobjkaaDoor
set_option maxRecDepth 100000
open Go.RowKit

theorem kindR_eq (r : Option Int) : kindR r = .tuple #[.int .i64 (r.getD 0), .bool r.isSome] := by cases r <;> rfl
set_option maxHeartbeats 4000000 in
theorem names17 (a : Int) (s : List UInt8) (w : World) (hW : Words w) :
    Calls Tryd.prog 6 #[.int .i64 a, .string ⟨s.toArray⟩] w fun e w' => e = .returned (.bool true) ∧ Below w.heap.size w w' := by
  have cA := Lib.hid (awake_any w hW)
  have cK := Lib.hid fun (V : World) (hV : Below w.heap.size w V) => kind_any s V (hW.up hV)
  have cL := Lib.hid fun (V : World) => refKind_any s V
  have cN := Lib.hid fun (V : World) (hV : Below w.heap.size w V) => name_any a V (hW.up hV)
  have cM := Lib.hid fun (V : World) => refName_any a V
  clear hW
  by_cases hl : s.length ≤ 100
  · have d1 : decide (100 < (s.length : Int)) = false := decide_eq_false (by omega)
    have d2 : decide (100 < s.length) = false := decide_eq_false (by omega)
    have e0 : (nameL a == nameL a) = true := beq_self_eq_true _
    generalize nameL a = n0 at *
    rw [kindR_eq] at cK
    generalize (kindL s).getD 0 = k at *
    generalize (kindL s).isSome = ok at *
    have e1 : (k == k) = true := beq_self_eq_true _
    have e2 : (ok == ok) = true := beq_self_eq_true _
    clear hl
    go_enter Tryd.func6, Tryd.ntmps6
    go_wp2_with fail
    refine (cA.out).mono ?_
    rintro e w1 ⟨rfl, B1⟩
    have HB1 := Lib.hid B1
    clear B1 cA
    go_wp2_with fail
    refine (cK.out _ HB1.out).mono ?_
    rintro e w2 ⟨rfl, B2⟩
    have HB2 := Lib.hid (low17 HB1.out B2)
    clear B2 cK HB1
    go_wp2_with fail
    refine (cL.out _).mono ?_
    rintro e w3 ⟨rfl, B3⟩
    have HB3 := Lib.hid (low17 HB2.out B3)
    clear B3 cL HB2
    go_wp2_with fail
    refine (cN.out _ HB3.out).mono ?_
    rintro e w4 ⟨rfl, B4⟩
    have HB4 := Lib.hid (low17 HB3.out B4)
    clear B4 cN HB3
    go_wp2_with fail
    refine (cM.out _).mono ?_
    rintro e w5 ⟨rfl, B5⟩
    have HB5 := Lib.hid (low17 HB4.out B5)
    clear B5 cM HB4
    go_wp2_with fail
    go_ret
    exact ⟨rfl, HB5.out⟩
  · have d1 : decide (100 < (s.length : Int)) = true := decide_eq_true (by omega)
    have d2 : decide (100 < s.length) = true := decide_eq_true (by omega)
    clear cK cL cN cM hl
    go_enter Tryd.func6, Tryd.ntmps6
    go_wp2_with fail
    refine (cA.out).mono ?_
    rintro e w1 ⟨rfl, B1⟩
    have HB1 := Lib.hid B1
    clear B1 cA
    go_wp2_with fail
    go_ret
    exact ⟨rfl, HB1.out⟩
end Go.Proofs.YtfpocpmcoobjkaaDoor
