/-
  What the layer's first calls come to ('awake'); no condition beyond what the contract asks.
-/
import Derived.Test.YtbdkkkcpoaeojaaDoorRefX10
namespace Go.Proofs.YtbdkkkcpoaeojaaDoor
open Go.RowKit
open Go.Lib (decDigits itoa)

theorem itoa_12 : itoa (-12) = [45, 49, 50] := by
  rw [itoa_neg (by decide), show (-12 : Int).natAbs = 12 from rfl, Lib.decDigits_two (by decide) (by decide)]
  rfl
theorem pOf_nought : pOf [45, 48] = none := by
  cases h : pOf [45, 48] with
  | none => rfl
  | some v =>
    exfalso
    have hi := ((pOf_iff _ _).1 h).1
    by_cases hv : v < 0
    · rw [itoa_neg hv] at hi
      have h0 : decDigits 0 = [48] := Lib.decDigits_one (by decide)
      have := dec_inj ((List.cons.inj hi).2.trans h0.symm)
      omega
    · rw [itoa_pos hv] at hi
      exact dec_front v.toNat (by rw [hi]; rfl)
theorem pOf_12 : pOf [45, 49, 50] = some (-12) := by
  rw [← itoa_12]
  exact pOf_itoa (by decide) (by decide)

set_option maxHeartbeats 2000000 in
theorem awake_any (w : World) (hL : Laid w) : Calls Tryd.prog 7 #[] w fun x w' => x = .returned (.bool true) ∧ Below w.heap.size w w' := by
  have c1 : Hid (∀ w, Laid w → Calls Tryd.prog 9 #[.string ⟨#[45, 48]⟩] w fun x w' => x = .returned (parR none) ∧ Below w.heap.size w w') := fun w hw => by
    have := parse_any [45, 48] (by decide) w hw
    rw [pOf_nought] at this
    exact this
  have c2 : Hid (∀ w, Laid w → Calls Tryd.prog 9 #[.string ⟨#[45, 49, 50]⟩] w fun x w' => x = .returned (parR (some (-12))) ∧ Below w.heap.size w w') := fun w hw => by
    have := parse_any [45, 49, 50] (by decide) w hw
    rw [pOf_12] at this
    exact this
  have c3 : Hid (∀ w, Laid w → Calls Tryd.prog 12 #[.string ⟨#[45, 48]⟩] w fun x w' => x = .returned (.int .i64 1) ∧ Below w.heap.size w w') := fun w hw => lexeme_any [45, 48] (by decide) w hw
  have c4 : Hid (∀ w, Laid w → Calls Tryd.prog 12 #[.string ⟨#[49, 101, 53]⟩] w fun x w' => x = .returned (.int .i64 2) ∧ Below w.heap.size w w') := fun w hw => lexeme_any [49, 101, 53] (by decide) w hw
  have c5 : Hid (∀ w, Laid w → Calls Tryd.prog 8 #[.int .i64 (-12)] w fun x w' => x = .returned (.string ⟨#[45, 49, 50]⟩) ∧ Below w.heap.size w w') := fun w hw => by
    have := text_any (-12) (by decide) (by decide) w hw
    rw [itoa_12] at this
    exact this
  go_enter Tryd.func7, Tryd.ntmps7
  go_wp2_with (go_at_call 9; with_reducible refine (c1.out _ hL).mono ?_; rintro e w1 ⟨rfl, b1⟩; unfold parR; refine Hid.out ?_)
  have l1 := hL.after b1
  refine Lib.hid ?_
  go_wp2_with (go_at_call 9; with_reducible refine (c2.out _ l1).mono ?_; rintro e w2 ⟨rfl, b2⟩; unfold parR; refine Hid.out ?_)
  have l2 := l1.after b2
  have k2 : Below w.heap.size w w2 := b1.trans (b2.mono b1.size)
  clear b1 b2
  refine Lib.hid ?_
  go_wp2_with (go_at_call 12; with_reducible refine (c3.out _ l2).mono ?_; rintro e w3 ⟨rfl, b3⟩; refine Hid.out ?_)
  have l3 := l2.after b3
  have k3 : Below w.heap.size w w3 := k2.trans (b3.mono k2.size)
  clear b3 k2
  refine Lib.hid ?_
  go_wp2_with (go_at_call 12; with_reducible refine (c4.out _ l3).mono ?_; rintro e w4 ⟨rfl, b4⟩; refine Hid.out ?_)
  have l4 := l3.after b4
  have k4 : Below w.heap.size w w4 := k3.trans (b4.mono k3.size)
  clear b4 k3
  refine Lib.hid ?_
  go_wp2_with (go_at_call 8; with_reducible refine (c5.out _ l4).mono ?_; rintro e w5 ⟨rfl, b5⟩; refine Hid.out ?_)
  have k5 : Below w.heap.size w w5 := k4.trans (b5.mono k4.size)
  refine Lib.hid ?_
  go_wp2_with fail
  go_ret
  exact ⟨rfl, k5⟩

end Go.Proofs.YtbdkkkcpoaeojaaDoor
