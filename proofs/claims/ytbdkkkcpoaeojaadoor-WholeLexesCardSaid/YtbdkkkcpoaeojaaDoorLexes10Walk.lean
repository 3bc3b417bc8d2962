/-
  The walk of the law WholeLexes; no condition but that the package-level variables hold what the statement lists.
-/
import Derived.Test.YtbdkkkcpoaeojaaDoorAwake10
namespace Go.Proofs.YtbdkkkcpoaeojaaDoor
open Go.RowKit

set_option maxHeartbeats 1000000 in
theorem lexes_any (s : List UInt8) (w : World) (hL : Laid w) :
    Calls Tryd.prog 4 #[.string ⟨s.toArray⟩] w fun x w' => x = .returned (.bool true) ∧ Below w.heap.size w w' := by
  have cA := Lib.hid (awake_any w hL)
  by_cases hl : 400 < s.length
  · have d1 : decide (400 < (s.length : Int)) = true := by simp; omega
    have d1n : decide (400 < s.length) = true := by simpa using hl
    clear hl
    go_enter Tryd.func4, Tryd.ntmps4
    go_wp2_with (go_at_call 7; with_reducible refine (cA.out).mono ?_; rintro e w1 ⟨rfl, b1⟩; refine Hid.out ?_)
    refine Lib.hid ?_
    go_wp2_with fail
    go_ret
    exact ⟨rfl, b1⟩
  · have d1 : decide (400 < (s.length : Int)) = false := by simp; omega
    have d1n : decide (400 < s.length) = false := by simpa using hl
    have c1 := Lib.hid (fun w hw => lexeme_any s (by omega) w hw)
    have c2 := Lib.hid (fun w => refLexeme_any s (by omega) w)
    rw [lexD_eq] at c2
    generalize lexP s = k at c1 c2
    clear hl
    go_enter Tryd.func4, Tryd.ntmps4
    go_wp2_with (go_at_call 7; with_reducible refine (cA.out).mono ?_; rintro e w1 ⟨rfl, b1⟩; refine Hid.out ?_)
    have l1 := hL.after b1
    refine Lib.hid ?_
    go_wp2_with (go_at_call 12; with_reducible refine (c1.out _ l1).mono ?_; rintro e w2 ⟨rfl, b2⟩; refine Hid.out ?_)
    have k2 : Below w.heap.size w w2 := b1.trans (b2.mono b1.size)
    refine Lib.hid ?_
    go_wp2_with (go_at_call 13; with_reducible refine (c2.out _).mono ?_; rintro e w3 ⟨rfl, b3⟩; refine Hid.out ?_)
    have k3 : Below w.heap.size w w3 := k2.trans (b3.mono k2.size)
    refine Lib.hid ?_
    go_wp2_with fail
    go_ret
    exact ⟨by simp, k3⟩

end Go.Proofs.YtbdkkkcpoaeojaaDoor
