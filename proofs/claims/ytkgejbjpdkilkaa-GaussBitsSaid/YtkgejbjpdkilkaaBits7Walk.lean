/-
  The law GaussBits, walked: it returns true and writes nothing that was there; for all patterns.
-/
import Derived.Test.YtkgejbjpdkilkaaAwake7
import Derived.Test.YtkgejbjpdkilkaaRefW7
import Derived.Laws.Externs
namespace Go.Proofs.Ytkgejbjpdkilkaa
open Go.RowKit

theorem run_bits (x : Nat) (w : World) : (callFunc 13 #[.int .u64 (x : Int)]).run Try.prog w = .ok (.value (.float .f64 x)) w := by
  rw [run_callFunc_extern Try.func13 (by kernel_rfl) (by kernel_rfl) (by kernel_rfl) (e := Extern.MathFloatBits.float64frombits) (by kernel_rfl)]
  rfl

theorem refWhole_yes {x : Nat} {a : Int} (h : Whole x a) (g : Great a) (w : World) :
    Calls Try.prog 14 #[.int .u64 (x : Int)] w fun r w' => r = .returned (.tuple #[.int .i64 a, .bool true]) ∧ w' = w := by
  refine (refWhole_any x h.1 w).mono ?_
  rintro r w' ⟨⟨p, f, rfl, ⟨rfl, hp, _⟩ | ⟨rfl, _, hn⟩⟩, rfl⟩
  · cases hp.one h
    exact ⟨rfl, rfl⟩
  · exact (hn a h g).elim

set_option maxHeartbeats 1000000 in
theorem bits7_yes (x y : Nat) (a b : Int) (w : World) (d1 : decide (a < -4503599627370496) = false) (d2 : decide (4503599627370496 < a) = false) (d3 : decide (b < -4503599627370496) = false) (d4 : decide (4503599627370496 < b) = false)
    (cP : Hid (∀ w, Calls Try.prog 10 #[.complex .f64 x y] w fun e w' => e = .returned (.tuple #[.int .i64 a, .int .i64 b, .bool true]) ∧ w' = w))
    (cX : Hid (∀ w, Calls Try.prog 14 #[.int .u64 (x : Int)] w fun e w' => e = .returned (.tuple #[.int .i64 a, .bool true]) ∧ w' = w))
    (cY : Hid (∀ w, Calls Try.prog 14 #[.int .u64 (y : Int)] w fun e w' => e = .returned (.tuple #[.int .i64 b, .bool true]) ∧ w' = w)) :
    Calls Try.prog 4 #[.int .u64 (x : Int), .int .u64 (y : Int)] w fun e w' => e = .returned (.bool true) ∧ Below w.heap.size w w' := by
  have b1 := run_bits x
  have b2 := run_bits y
  go_enter Try.func4, Try.ntmps4
  go_wp2_with fail
  refine (awake_any _).mono ?_
  rintro e w1 ⟨rfl, hw⟩; subst w1
  go_wp2_with fail
  refine (cP.out _).mono ?_
  rintro e w1 ⟨rfl, hw⟩; subst w1
  go_wp2_with fail
  refine (cX.out _).mono ?_
  rintro e w1 ⟨rfl, hw⟩; subst w1
  go_wp2_with fail
  refine (cY.out _).mono ?_
  rintro e w1 ⟨rfl, hw⟩; subst w1
  go_wp2_with fail
  go_ret
  exact ⟨by simp, Below.refl _ _⟩

theorem great_or (p : Int) : Great p ∨ (p < -4503599627370496 ∨ (¬ p < -4503599627370496 ∧ 4503599627370496 < p)) := by unfold Great; omega

set_option maxHeartbeats 1000000 in
theorem bits7_no (x y : Nat) (w : World) (hx : Hid (x < 18446744073709551616)) (hy : Hid (y < 18446744073709551616)) (hn : Hid (∀ m n, Whole x m → Great m → Whole y n → Great n → False))
    (cP : Hid (∀ w, Calls Try.prog 10 #[.complex .f64 x y] w fun e w' => e = .returned (.tuple #[.int .i64 0, .int .i64 0, .bool false]) ∧ w' = w)) :
    Calls Try.prog 4 #[.int .u64 (x : Int), .int .u64 (y : Int)] w fun e w' => e = .returned (.bool true) ∧ Below w.heap.size w w' := by
  have b1 := run_bits x
  have b2 := run_bits y
  go_enter Try.func4, Try.ntmps4
  go_wp2_with fail
  refine (awake_any _).mono ?_
  rintro e w1 ⟨rfl, hw⟩; subst w1
  go_wp2_with fail
  refine (cP.out _).mono ?_
  rintro e w1 ⟨rfl, hw⟩; subst w1
  clear cP b1 b2
  go_wp2_with fail
  refine (refWhole_any x hx.out _).mono ?_
  rintro e w1 ⟨⟨p, f, rfl, hp⟩, hw⟩; subst w1
  have HP := Lib.hid hp
  clear hp
  go_wp2_with fail
  refine (refWhole_any y hy.out _).mono ?_
  rintro e w1 ⟨⟨q, g, rfl, hq⟩, hw⟩; subst w1
  have HQ := Lib.hid hq
  clear hq
  cases f
  · go_wp2_with fail
    go_ret
    exact ⟨rfl, Below.refl _ _⟩
  · cases g
    · go_wp2_with fail
      go_ret
      exact ⟨rfl, Below.refl _ _⟩
    · have hp : Whole x p := by
        rcases HP.out with ⟨_, h, _⟩ | ⟨h, _⟩
        · exact h
        · cases h
      have hq : Whole y q := by
        rcases HQ.out with ⟨_, h, _⟩ | ⟨h, _⟩
        · exact h
        · cases h
      rcases great_or p with gp | c1 | ⟨c1, c2⟩
      · rcases great_or q with gq | c3 | ⟨c3, c4⟩
        · exact (hn.out p q hp gp hq gq).elim
        · have d1 : decide (p < -4503599627370496) = false := by have := gp.1; simp; omega
          have d2 : decide (4503599627370496 < p) = false := by have := gp.2; simp; omega
          have d3 : decide (q < -4503599627370496) = true := by simpa using c3
          clear HP HQ hp hq gp hn hx hy c3
          go_wp2_with fail
          go_ret
          exact ⟨rfl, Below.refl _ _⟩
        · have d1 : decide (p < -4503599627370496) = false := by have := gp.1; simp; omega
          have d2 : decide (4503599627370496 < p) = false := by have := gp.2; simp; omega
          have d3 : decide (q < -4503599627370496) = false := by simpa using c3
          have d4 : decide (4503599627370496 < q) = true := by simpa using c4
          clear HP HQ hp hq gp hn hx hy c3 c4
          go_wp2_with fail
          go_ret
          exact ⟨rfl, Below.refl _ _⟩
      · have d1 : decide (p < -4503599627370496) = true := by simpa using c1
        clear HP HQ hp hq hn hx hy c1
        go_wp2_with fail
        go_ret
        exact ⟨rfl, Below.refl _ _⟩
      · have d1 : decide (p < -4503599627370496) = false := by simpa using c1
        have d2 : decide (4503599627370496 < p) = true := by simpa using c2
        clear HP HQ hp hq hn hx hy c1 c2
        go_wp2_with fail
        go_ret
        exact ⟨rfl, Below.refl _ _⟩

theorem bits7_any (x y : Int) (hx : (Lit.int .u64 x).wf = true) (hy : (Lit.int .u64 y).wf = true) (w : World) :
    Calls Try.prog 4 #[.int .u64 x, .int .u64 y] w fun e w' => e = .returned (.bool true) ∧ Below w.heap.size w w' := by
  obtain ⟨x1, x2⟩ := Go.bounds_u64 hx
  obtain ⟨y1, y2⟩ := Go.bounds_u64 hy
  obtain ⟨a, rfl⟩ : ∃ a : Nat, x = (a : Int) := ⟨x.toNat, by omega⟩
  obtain ⟨b, rfl⟩ : ∃ b : Nat, y = (b : Int) := ⟨y.toNat, by omega⟩
  by_cases h : ∃ m n, Whole a m ∧ Great m ∧ Whole b n ∧ Great n
  · obtain ⟨m, n, hm, gm, hn, gn⟩ := h
    obtain ⟨m1, m2⟩ := id gm
    obtain ⟨n1, n2⟩ := id gn
    exact bits7_yes a b m n w (by simp; omega) (by simp; omega) (by simp; omega) (by simp; omega) (Lib.hid (parts_yes hm hn gm gn)) (Lib.hid (refWhole_yes hm gm)) (Lib.hid (refWhole_yes hn gn))
  · have hn : ∀ m n, Whole a m → Great m → Whole b n → Great n → False := fun m n h1 h2 h3 h4 => h ⟨m, n, h1, h2, h3, h4⟩
    exact bits7_no a b w (show _ < _ by omega) (show _ < _ by omega) (Lib.hid hn) (Lib.hid (parts_no (by omega) (by omega) hn))

end Go.Proofs.Ytkgejbjpdkilkaa
