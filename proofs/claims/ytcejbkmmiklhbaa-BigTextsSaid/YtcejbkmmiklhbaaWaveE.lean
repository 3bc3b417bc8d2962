/-
  wave's digits and values: which lists are folded, and the values of each part of two numbers. No condition beyond what each contract says.
-/
import Derived.Test.YtcejbkmmiklhbaaWaveD
import Derived.StillTailTactics
namespace Go.Proofs.Ytcejbkmmiklhbaa
open Go.RowKit

/-- A list that may be folded. -/
def Dig (xs : List Int) : Prop := xs.length ≤ 256 ∧ ∀ i, i < xs.length → 0 ≤ xs.getD i 0 ∧ xs.getD i 0 ≤ 65535

set_option maxHeartbeats 2000000 in
theorem digits_any (A : Option Addr) (n c : Nat) (xs : List Int) (w : World) (h : Ints w (· < w.heap.size) A n xs) (hn : n ≤ 9223372036854775807) (r : Bool) (hr : r = true ↔ Dig xs) :
    Calls Try.prog 51 #[.slice A n c] w fun e w' => e = .returned (.bool r) ∧ w' = w := by
  have H := Lib.hid h
  have HR := Lib.hid hr
  clear hr h
  by_cases h256 : n ≤ 256
  · have d0 : decide ((256 : Int) < (n : Int)) = false := by simp; omega
    have d0n : decide (256 < n) = false := by simp; omega
    go_enter Try.func51, Try.ntmps51
    go_wp2_with fail
    go_loopw [10] (fun i wr => wr = w ∧ ∃ k : Nat, k ≤ n ∧ i = .int .i64 (k : Int) ∧ ∀ j, j < k → 0 ≤ xs.getD j 0 ∧ xs.getD j 0 ≤ 65535) (fun i _ => n - (intOf i).toNat)
    case atStart => exact ⟨rfl, 0, by omega, rfl, fun j hj => absurd hj (by omega)⟩
    case round =>
      obtain ⟨rfl, k, hk, rfl, hal⟩ := hrel
      have HAl := Lib.hid hal
      clear hal
      by_cases hlt : k < n
      · have d1 : decide ((k : Int) < (n : Int)) = true := by simp; omega
        have d1n : decide (k < n) = true := by simp; omega
        have i0 : (0 : Int) ≤ (k : Int) := by omega
        have i1 : (k : Int) < (n : Int) := by omega
        obtain ⟨b0, o, rfl, m1, hc⟩ := H.out.2 (by omega)
        have x1 := hc k hlt
        clear hc m1
        have HA2 : Hid (0 ≤ xs.getD k 0 ∧ xs.getD k 0 ≤ 65535 → ∀ j, j < k + 1 → 0 ≤ xs.getD j 0 ∧ xs.getD j 0 ≤ 65535) := fun hh j hj => by
          by_cases hjk : j < k
          · exact HAl.out j hjk
          · obtain rfl : j = k := by omega
            exact hh
        have HF : Hid (¬ (0 ≤ xs.getD k 0 ∧ xs.getD k 0 ≤ 65535) → r = false) := fun hh => by
          cases hr : r with
          | false => rfl
          | true => exact absurd ((HR.out.1 hr).2 k (by rw [H.out.1]; exact hlt)) hh
        generalize xs.getD k 0 = x at x1 HA2 HF
        clear HAl
        by_cases h0 : x < 0
        · have e0 : decide (x < 0) = true := by simpa using h0
          have HE := Lib.hid (HF.out (by omega))
          clear HF HA2 h0
          go_wp2_with fail
          go_ret
          exact ⟨ret_bool HE.out.symm, rfl⟩
        · have e0 : decide (x < 0) = false := by simpa using h0
          by_cases h1 : 65535 < x
          · have e1 : decide (65535 < x) = true := by simpa using h1
            have HE := Lib.hid (HF.out (by omega))
            clear HF HA2 h0 h1
            go_wp2_with fail
            go_ret
            exact ⟨ret_bool HE.out.symm, rfl⟩
          · have e1 : decide (65535 < x) = false := by simpa using h1
            have HE := Lib.hid (HA2.out (by omega))
            clear HF HA2 h0 h1
            go_wp2_with fail
            go_roundw
            case rel => exact ⟨by trivial, k + 1, by omega, ret_val (by omega), HE.out⟩
            case measure => simp [intOf]; omega
      · obtain rfl : k = n := by omega
        have d1 : decide ((k : Int) < (k : Int)) = false := by simp
        have HE : Hid (r = true) := HR.out.2 ⟨by rw [H.out.1]; exact h256, fun i hi => HAl.out i (by rw [H.out.1] at hi; exact hi)⟩
        clear HAl
        go_wp2_with fail
        go_ret
        exact ⟨ret_bool HE.out.symm, rfl⟩
  · have d0 : decide ((256 : Int) < (n : Int)) = true := by simp; omega
    have d0n : decide (256 < n) = true := by simp; omega
    have HE : Hid (r = false) := show _ = _ by
      cases hr : r with
      | false => rfl
      | true => exact absurd (HR.out.1 hr).1 (by rw [H.out.1]; exact h256)
    go_enter Try.func51, Try.ntmps51
    go_wp2_with fail
    go_ret
    exact ⟨ret_bool HE.out.symm, rfl⟩

end Go.Proofs.Ytcejbkmmiklhbaa
