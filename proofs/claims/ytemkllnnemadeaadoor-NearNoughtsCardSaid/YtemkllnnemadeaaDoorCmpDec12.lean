/-
  What the document's CmpDec answers. For all arguments; no condition.
-/
import Derived.Test.YtemkllnnemadeaaDoorDecMath
namespace Go.Proofs.YtemkllnnemadeaaDoor
open Go.RowKit

set_option maxHeartbeats 400000 in
theorem cmpDec_any (a b : List UInt8) (x y : Int) (w : World) :
    Calls Tryd.prog 21 #[.string ⟨a.toArray⟩, .int .i64 x, .string ⟨b.toArray⟩, .int .i64 y] w fun r w' => r = .returned (.int .i64 (cmpD a x b y)) ∧ w' = w := by
  have hc : (decide (x < y) = true ∧ cmpD a x b y = -1) ∨ (decide (x < y) = false ∧ (x == y) = true ∧ Op.bytesLess a b = true ∧ cmpD a x b y = -1) ∨ (decide (x < y) = false ∧ (x == y) = true ∧ Op.bytesLess a b = false ∧ (a == b) = true ∧ cmpD a x b y = 0) ∨
      (decide (x < y) = false ∧ (x == y) = true ∧ Op.bytesLess a b = false ∧ (a == b) = false ∧ cmpD a x b y = 1) ∨ (decide (x < y) = false ∧ (x == y) = false ∧ cmpD a x b y = 1) := by
    unfold cmpD
    by_cases h1 : x < y
    · exact .inl ⟨by simpa using h1, by rw [if_pos (.inl h1)]⟩
    · by_cases h2 : x = y
      · have e2 : (x == y) = true := by simpa using h2
        cases h3 : Op.bytesLess a b with
        | true => exact .inr (.inl ⟨by simpa using h1, e2, rfl, by rw [if_pos (.inr ⟨h2, rfl⟩)]⟩)
        | false =>
          have n1 : ¬ (x < y ∨ (x = y ∧ false = true)) := fun h => h.elim h1 (fun k => by simpa using k.2)
          by_cases h4 : a = b
          · exact .inr (.inr (.inl ⟨by simpa using h1, e2, rfl, by simpa using h4, by rw [if_neg n1, if_pos ⟨h2, h4⟩]⟩))
          · exact .inr (.inr (.inr (.inl ⟨by simpa using h1, e2, rfl, by simpa using h4, by rw [if_neg n1, if_neg (fun h => h4 h.2)]⟩)))
      · exact .inr (.inr (.inr (.inr ⟨by simpa using h1, by simpa using h2, by rw [if_neg (fun h => h.elim h1 (fun k => h2 k.1)), if_neg (fun h => h2 h.1)]⟩)))
  rcases hc with ⟨d1, h⟩ | ⟨d1, d2, d3, h⟩ | ⟨d1, d2, d3, d4, h⟩ | ⟨d1, d2, d3, d4, h⟩ | ⟨d1, d2, h⟩
  all_goals
    rw [h]
    clear h
    go_enter Tryd.func21, Tryd.ntmps21
    go_wp2_with fail
    go_ret
    exact ⟨rfl, rfl⟩

end Go.Proofs.YtemkllnnemadeaaDoor
