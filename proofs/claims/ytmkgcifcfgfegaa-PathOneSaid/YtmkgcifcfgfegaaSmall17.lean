/-
  What is left of some room, and the book's Place (chapter 17's laws); no condition but bounds.
-/
import Derived.Test.YtmkgcifcfgfegaaRefC17

namespace Go.Proofs.Ytmkgcifcfgfegaa
set_option maxRecDepth 100000
open Go.RowKit
theorem roomL_each : ∀ (xs : List Nat) (a : Int), -1 ≤ a → 0 ≤ roomL a xs → ∀ x ∈ xs, (x : Int) ≤ a
  | [], _, _, _, x, hx => by cases hx
  | y :: ys, a, h, g, x, hx => by
    rw [roomL] at g
    split at g
    · omega
    · rename_i q
      rcases List.mem_cons.1 hx with rfl | hx
      · omega
      · have := roomL_each ys (a - y) (by omega) g x hx
        omega
/-- A place among n. -/
theorem place_any (k : Int) (n : Nat) (w : World) (h0 : 0 < n) (h1 : n ≤ 1000000) :
    Calls Try.prog 20 #[.int .i64 k, .int .i64 (n : Int)] w fun e w' => (∃ j : Nat, j < n ∧ e = .returned (.int .i64 (j : Int))) ∧ w' = w := by
  have r1 := Int.tmod_lt_of_pos k (show (0 : Int) < (n : Int) by omega)
  have r2 : -(n : Int) < Int.tmod k (n : Int) := by
    have h := Int.tmod_lt_of_pos (-k) (show (0 : Int) < (n : Int) by omega)
    rw [Int.neg_tmod] at h
    omega
  obtain ⟨a, ha⟩ : ∃ a, a = Int.tmod k (n : Int) := ⟨_, rfl⟩
  rw [← ha] at r1 r2
  obtain ⟨m, hm⟩ : ∃ m : Nat, a + (n : Int) = (m : Int) := ⟨(a + n).toNat, by omega⟩
  have u1 : wrap64 (a + (n : Int)) = (m : Int) := w64 hm (by omega)
  have hj : Int.tmod (m : Int) (n : Int) = ((m % n : Nat) : Int) := by rw [Int.ofNat_tmod]
  have hz : ¬ (n : Int) = 0 := by omega
  have hz2 : ((n : Int) == 0) = false := beq_eq_false_iff_ne.2 hz
  have hlt := Nat.mod_lt m h0
  have ha' := ha.symm
  clear ha r1 r2 hm h1
  go_enter Try.func20, Try.ntmps20
  go_wp2_with fail
  go_ret
  exact ⟨⟨_, hlt, rfl⟩, rfl⟩
end Go.Proofs.Ytmkgcifcfgfegaa
