/-
  The walk of the law WholeIs; no condition but that the numbers are ones of 64 bits, and that the package-level variables hold what the statement lists.
-/
import Derived.Test.YtbdkkkcpoaeojaaDoorAwake10
namespace Go.Proofs.YtbdkkkcpoaeojaaDoor
open Go.RowKit
open Go.Lib (itoa)

theorem itoa_beq (v u : Int) : (itoa v == itoa u) = (v == u) := by
  by_cases h : v = u
  · subst h; simp
  · have : itoa v ≠ itoa u := fun e => h (itoa_inj e)
    rw [beq_eq_false_iff_ne.2 this, beq_eq_false_iff_ne.2 h]

set_option maxHeartbeats 1000000 in
theorem is_any (v u : Int) (h0 : lowest ≤ v) (h1 : v ≤ highest) (g0 : lowest ≤ u) (g1 : u ≤ highest) (w : World) (hL : Laid w) :
    Calls Tryd.prog 5 #[.int .i64 v, .int .i64 u] w fun x w' => x = .returned (.bool true) ∧ Below w.heap.size w w' := by
  have cA := Lib.hid (awake_any w hL)
  have hle := itoa_le h0 h1
  have c1 := Lib.hid (fun w hw => text_any v h0 h1 w hw)
  have c2 := Lib.hid (fun w hw => lexeme_any (itoa v) (by omega) w hw)
  rw [lexP_itoa] at c2
  have c3 := Lib.hid (fun w hw => text_any u g0 g1 w hw)
  have hq := itoa_beq v u
  generalize itoa v = t at c1 c2 hq
  generalize itoa u = t2 at c3 hq
  have HQ := Lib.hid hq
  clear hle h0 h1 g0 g1 hq
  go_enter Tryd.func5, Tryd.ntmps5
  go_wp2_with (go_at_call 7; with_reducible refine (cA.out).mono ?_; rintro e w1 ⟨rfl, b1⟩; refine Hid.out ?_)
  have l1 := hL.after b1
  refine Lib.hid ?_
  go_wp2_with (go_at_call 8; with_reducible refine (c1.out _ l1).mono ?_; rintro e w2 ⟨rfl, b2⟩; refine Hid.out ?_)
  have k2 : Below w.heap.size w w2 := b1.trans (b2.mono b1.size)
  have l2 := l1.after b2
  refine Lib.hid ?_
  go_wp2_with (go_at_call 12; with_reducible refine (c2.out _ l2).mono ?_; rintro e w3 ⟨rfl, b3⟩; refine Hid.out ?_)
  have k3 : Below w.heap.size w w3 := k2.trans (b3.mono k2.size)
  have l3 := l2.after b3
  refine Lib.hid ?_
  go_wp2_with (go_at_call 8; with_reducible refine (c1.out _ l3).mono ?_; rintro e w4 ⟨rfl, b4⟩; refine Hid.out ?_)
  have k4 : Below w.heap.size w w4 := k3.trans (b4.mono k3.size)
  have l4 := l3.after b4
  refine Lib.hid ?_
  go_wp2_with (go_at_call 8; with_reducible refine (c3.out _ l4).mono ?_; rintro e w5 ⟨rfl, b5⟩; refine Hid.out ?_)
  have k5 : Below w.heap.size w w5 := k4.trans (b5.mono k4.size)
  refine Lib.hid ?_
  go_wp2_with fail
  go_ret
  exact ⟨by rw [HQ.out]; simp, k5⟩

end Go.Proofs.YtbdkkkcpoaeojaaDoor
