/-
  What the book's Room, Value and Small do, for every tree: whether a tree is small, and what that says of it; no condition but bounds.
-/
import Derived.Test.YtdaoekcabfapaaaRefA17

namespace Go.Proofs.Ytdaoekcabfapaaa
set_option maxRecDepth 100000
open Go.RowKit
/-- How much room is left behind parts of these sizes; -1: none. -/
def roomL : Int → List Nat → Int
  | left, [] => left
  | left, x :: xs => if left < 0 ∨ left < (x : Int) then -1 else roomL (left - x) xs
theorem roomL_le : ∀ (xs : List Nat) (a : Int), -1 ≤ a → -1 ≤ roomL a xs ∧ roomL a xs ≤ a
  | [], a, h => ⟨h, Int.le_refl _⟩
  | x :: xs, a, h => by
    rw [roomL]
    split
    · exact ⟨by omega, h⟩
    · have := roomL_le xs (a - x) (by omega)
      omega
theorem nats_get {xs : List Nat} {i : Nat} (h : i < xs.length) : (xs.map fun n : Nat => (n : Int)).getD i 0 = ((xs.getD i 0 : Nat) : Int) := by
  simp [List.getD, h]
set_option maxHeartbeats 2000000 in
theorem room_any (left : Int) (A : Option Addr) (c : Nat) (xs : List Nat) (w : World) (M : Nat → Prop) (hI : Ints w M A xs.length (xs.map fun n : Nat => (n : Int))) (h0 : -1 ≤ left) (h1 : left ≤ 1000000) (hn : xs.length ≤ 1000) :
    Calls Try.prog 23 #[.int .i64 left, .slice A xs.length c] w fun e w' => e = .returned (.int .i64 (roomL left xs)) ∧ w' = w := by
  obtain ⟨R, hR⟩ : ∃ R, R = roomL left xs := ⟨_, rfl⟩
  rw [← hR]
  have HI := Lib.hid hI.2
  have HN := Lib.hid hn
  have HR : Hid (R = roomL left (xs.drop 0)) := hR
  have H0 : Hid (-1 ≤ left ∧ left ≤ 1000000) := ⟨h0, h1⟩
  clear hI hR h0 h1 hn
  go_enter Try.func23, Try.ntmps23
  go_wp2_with fail
  go_loopw [0, 5] (fun a i wr => wr = w ∧ ∃ (k : Nat) (z : Int), k ≤ xs.length ∧ i = .int .i64 (k : Int) ∧ a = .int .i64 z ∧ R = roomL z (xs.drop k) ∧ -1 ≤ z ∧ z ≤ 1000000) (fun _ i _ => xs.length - natV i)
  case atStart => exact ⟨rfl, 0, left, Nat.zero_le _, rfl, rfl, HR.out, H0.out.1, H0.out.2⟩
  case round =>
    obtain ⟨rfl, k, z, hk, rfl, rfl, hr, z0, z1⟩ := hrel
    have hnn := HN.out
    by_cases hlt : k < xs.length
    · have d1 : decide ((k : Int) < (xs.length : Int)) = true := decide_eq_true (by omega)
      have d1n : decide (k < xs.length) = true := decide_eq_true hlt
      have hdr : xs.drop k = xs[k] :: xs.drop (k + 1) := List.drop_eq_getElem_cons hlt
      rw [hdr, roomL] at hr
      obtain ⟨b, o, rfl, _, hc⟩ := HI.out (by omega)
      have c0 := hc k (by omega)
      rw [nats_get hlt, show xs.getD k 0 = xs[k] by simp [List.getD, hlt]] at c0
      obtain ⟨x, hx⟩ : ∃ x, x = xs[k] := ⟨_, rfl⟩
      rw [← hx] at hr c0
      have f2 : (k : Int) + 1 = ((k + 1 : Nat) : Int) := by omega
      have b2 : k + 1 ≤ 4000000000000000000 := by omega
      have HK1 : Hid (k + 1 ≤ xs.length) := hlt
      by_cases hz : z < 0
      · have d2 : decide (z < 0) = true := decide_eq_true hz
        rw [if_pos (.inl hz)] at hr
        have HE := Lib.hid hr
        clear hr hdr hc hx f2 b2 hz z0 z1 hlt hk hnn
        go_wp2_with fail
        go_ret
        exact ⟨by rw [HE.out]; rfl, rfl⟩
      · have d2 : decide (z < 0) = false := decide_eq_false hz
        by_cases hzx : z < (x : Int)
        · have d3 : decide (z < (x : Int)) = true := decide_eq_true hzx
          rw [if_pos (.inr hzx)] at hr
          have HE := Lib.hid hr
          clear hr hdr hc hx f2 b2 hz z0 z1 hzx hlt hk hnn
          go_wp2_with fail
          go_ret
          exact ⟨by rw [HE.out]; rfl, rfl⟩
        · have d3 : decide (z < (x : Int)) = false := decide_eq_false hzx
          rw [if_neg (fun h => h.elim hz hzx)] at hr
          obtain ⟨z2, hz2⟩ : ∃ z2, z2 = z - (x : Int) := ⟨_, rfl⟩
          rw [← hz2] at hr
          have HE := Lib.hid hr
          have HZ : Hid (-1 ≤ z2 ∧ z2 ≤ 1000000) := show _ ∧ _ from ⟨by omega, by omega⟩
          have w1 : wrap64 (z - (x : Int)) = z2 := by unfold wrap64; omega
          clear hr hdr hc hx hz z0 z1 hzx hk hnn hz2
          have u2 : Hid (wrap64 ((k : Int) + 1) = ((k + 1 : Nat) : Int)) := w64 f2 b2
          clear f2 b2 hlt
          go_wp2_with fail
          go_roundw
          case rel => exact ⟨trivial, k + 1, z2, HK1.out, by rw [u2.out], by first | rfl | rw [w1], HE.out, HZ.out.1, HZ.out.2⟩
          case measure => rw [u2.out]; have := HK1.out; simp [natV]; omega
    · obtain rfl : k = xs.length := by omega
      have d1 : decide ((xs.length : Int) < (xs.length : Int)) = false := decide_eq_false (by omega)
      have d1n : decide (xs.length < xs.length) = false := decide_eq_false (by omega)
      rw [List.drop_length, roomL] at hr
      have HE := Lib.hid hr
      clear hr hlt hk hnn z0 z1
      go_wp2_with fail
      go_ret
      exact ⟨by rw [HE.out]; rfl, rfl⟩
end Go.Proofs.Ytdaoekcabfapaaa
