/-
  What a small tree says of its texts, and the book's Place (chapter 17's laws); no condition but bounds.
-/
import Derived.Test.YtfpocpmcoobjkaaDoorRefC17
namespace Go.Proofs.YtfpocpmcoobjkaaDoor
set_option maxRecDepth 100000
open Go.RowKit

theorem roomL_each : ∀ (xs : List Nat) (a : Int), -1 ≤ a → 0 ≤ roomL a xs → ∀ x ∈ xs, (x : Int) ≤ a
  | [], _, _, _, x, hx => by cases hx
  | y :: ys, a, h, g, x, hx => by
    rw [roomL] at g
    split at g
    · omega
    · rename_i q
      rcases List.mem_cons.1 hx with rfl | hx
      · omega
      · have := roomL_each ys (a - y) (by omega) g x hx
        omega
theorem room_few : ∀ (t : Tree) (a : Int), -1 ≤ a → a ≤ 100000000 → 0 ≤ roomT a t → fewT t := by
  refine Tree.ind ?_
  intro o l ih a h h2 g
  rw [roomT] at g
  rw [fewT]
  have h1 := roomL_le [2, o.text.length, o.more.length, o.bytes.length] a h
  have e1 := roomL_each [2, o.text.length, o.more.length, o.bytes.length] a h
  generalize roomL a [2, o.text.length, o.more.length, o.bytes.length] = z at *
  have q : ∀ m : List Kid, (∀ x ∈ m, x ∈ l) → ∀ a, -1 ≤ a → a ≤ 100000000 → 0 ≤ roomK a m → fewK m := fun m => by
    induction m with
    | nil => intro _ a _ _ _; rw [fewK]; trivial
    | cons x m ihm =>
      intro hm a h h2 g
      obtain ⟨n, t⟩ := x
      rw [roomK] at g
      rw [fewK]
      split at g
      · omega
      · have h4 := roomL_le [n.length] a h
        have e2 := roomL_each [n.length] a h
        have h3 := roomT_le t (roomL a [n.length]) h4.1
        have h5 : 0 ≤ roomT (roomL a [n.length]) t := by
          rcases Int.lt_or_le (roomT (roomL a [n.length]) t) 0 with q | q
          · rw [roomK_neg q] at g; omega
          · exact q
        have h6 : fewT t := ih (n, t) (hm _ (.head _)) _ h4.1 (by omega) h5
        have h7 := e2 (by omega) n.length (.head _)
        exact ⟨by omega, h6, ihm (fun y hy => hm y (.tail _ hy)) _ h3.1 (by omega) g⟩
  have h3 : 0 ≤ z := by
    rcases Int.lt_or_le z 0 with p | p
    · rw [roomK_neg p] at g; omega
    · exact p
  have a1 := e1 h3 o.text.length (by simp)
  have a2 := e1 h3 o.more.length (by simp)
  exact ⟨by omega, by omega, q l (fun _ h => h) z h1.1 (by omega) g⟩
theorem small_few {t : Tree} (h : smallB t = true) : fewT t :=
  room_few t 1200 (by omega) (by omega) (of_decide_eq_true h)

/-- A place among n. -/
theorem place_any (k : Int) (n : Nat) (w : World) (h0 : 0 < n) (h1 : n ≤ 1000000) :
    Calls Tryd.prog 27 #[.int .i64 k, .int .i64 (n : Int)] w fun e w' => (∃ j : Nat, j < n ∧ e = .returned (.int .i64 (j : Int))) ∧ w' = w := by
  have r1 := Int.tmod_lt_of_pos k (show (0 : Int) < (n : Int) by omega)
  have r2 : -(n : Int) < Int.tmod k (n : Int) := by
    have h := Int.tmod_lt_of_pos (-k) (show (0 : Int) < (n : Int) by omega)
    rw [Int.neg_tmod] at h
    omega
  obtain ⟨a, ha⟩ : ∃ a, a = Int.tmod k (n : Int) := ⟨_, rfl⟩
  rw [← ha] at r1 r2
  obtain ⟨m, hm⟩ : ∃ m : Nat, a + (n : Int) = (m : Int) := ⟨(a + n).toNat, by omega⟩
  have u1 : wrap64 (a + (n : Int)) = (m : Int) := w64 hm (by omega)
  have hj : Int.tmod (m : Int) (n : Int) = ((m % n : Nat) : Int) := by rw [Int.ofNat_tmod]
  have hz : ¬ (n : Int) = 0 := by omega
  have hz2 : ((n : Int) == 0) = false := beq_eq_false_iff_ne.2 hz
  have hlt := Nat.mod_lt m h0
  have ha' := ha.symm
  clear ha r1 r2 hm h1
  go_enter Tryd.func27, Tryd.ntmps27
  go_wp2_with fail
  go_ret
  exact ⟨⟨_, hlt, rfl⟩, rfl⟩
end Go.Proofs.YtfpocpmcoobjkaaDoor
