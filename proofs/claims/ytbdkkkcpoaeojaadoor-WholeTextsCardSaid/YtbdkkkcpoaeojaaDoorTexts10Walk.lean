/-
  The walk of the law WholeTexts; no condition but that the number is one of 64 bits, and that the package-level variables hold what the statement lists.
-/
import Derived.Test.YtbdkkkcpoaeojaaDoorAwake10
namespace Go.Proofs.YtbdkkkcpoaeojaaDoor
open Go.RowKit
open Go.Lib (itoa)

def numOr (r : Option Int) : Int := r.getD 0
theorem parR_eq (r : Option Int) : parR r = .tuple #[.int .i64 (numOr r), .bool r.isSome] := by cases r <;> rfl

set_option maxHeartbeats 1000000 in
theorem texts_any (v : Int) (h0 : lowest ≤ v) (h1 : v ≤ highest) (s : List UInt8) (w : World) (hL : Laid w) :
    Calls Tryd.prog 3 #[.int .i64 v, .string ⟨s.toArray⟩] w fun x w' => x = .returned (.bool true) ∧ Below w.heap.size w w' := by
  have cA := Lib.hid (awake_any w hL)
  by_cases hl : 100 < s.length
  · have d1 : decide (100 < (s.length : Int)) = true := by simp; omega
    have d1n : decide (100 < s.length) = true := by simpa using hl
    clear hl
    go_enter Tryd.func3, Tryd.ntmps3
    go_wp2_with (go_at_call 7; with_reducible refine (cA.out).mono ?_; rintro e w1 ⟨rfl, b1⟩; refine Hid.out ?_)
    refine Lib.hid ?_
    go_wp2_with fail
    go_ret
    exact ⟨rfl, b1⟩
  · have d1 : decide (100 < (s.length : Int)) = false := by simp; omega
    have d1n : decide (100 < s.length) = false := by simpa using hl
    have hle := itoa_le h0 h1
    have c1 := Lib.hid (fun w hw => text_any v h0 h1 w hw)
    have c2 := Lib.hid (fun w hw => parse_any (itoa v) (by omega) w hw)
    rw [pOf_itoa h0 h1] at c2
    have c3 := Lib.hid (fun w hw => parse_any s (by omega) w hw)
    rw [pOf_eq] at c3
    have c4 := Lib.hid (fun w => refParse_any s (by omega) w)
    have c5 := Lib.hid (fun w => refInt_any v h0 h1 w)
    generalize refP s = r at c3 c4
    rw [parR_eq] at c3 c4
    generalize itoa v = t at c1 c2 c5
    generalize numOr r = rn at c3 c4
    generalize r.isSome = rb at c3 c4
    clear hl hle h0 h1
    go_enter Tryd.func3, Tryd.ntmps3
    go_wp2_with (go_at_call 7; with_reducible refine (cA.out).mono ?_; rintro e w1 ⟨rfl, b1⟩; refine Hid.out ?_)
    have l1 := hL.after b1
    refine Lib.hid ?_
    go_wp2_with (go_at_call 8; with_reducible refine (c1.out _ l1).mono ?_; rintro e w2 ⟨rfl, b2⟩; refine Hid.out ?_)
    have k2 : Below w.heap.size w w2 := b1.trans (b2.mono b1.size)
    have l2 := l1.after b2
    refine Lib.hid ?_
    go_wp2_with (go_at_call 9; with_reducible refine (c2.out _ l2).mono ?_; rintro e w3 ⟨rfl, b3⟩; unfold parR; refine Hid.out ?_)
    have k3 : Below w.heap.size w w3 := k2.trans (b3.mono k2.size)
    have l3 := l2.after b3
    refine Lib.hid ?_
    go_wp2_with (go_at_call 9; with_reducible refine (c3.out _ l3).mono ?_; rintro e w4 ⟨rfl, b4⟩; refine Hid.out ?_)
    have k4 : Below w.heap.size w w4 := k3.trans (b4.mono k3.size)
    refine Lib.hid ?_
    go_wp2_with (go_at_call 10; with_reducible refine (c4.out _).mono ?_; rintro e w5 ⟨rfl, b5⟩; subst b5; refine Hid.out ?_)
    refine Lib.hid ?_
    go_wp2_with (go_at_call 11; with_reducible refine (c5.out _).mono ?_; rintro e w6 ⟨rfl, b6⟩; refine Hid.out ?_)
    have k6 : Below w.heap.size w w6 := k4.trans (b6.mono k4.size)
    refine Lib.hid ?_
    go_wp2_with fail
    go_ret
    exact ⟨by simp, k6⟩

end Go.Proofs.YtbdkkkcpoaeojaaDoor
