/-
  The walk of the law WavePoint: for all lists that came in, at every place. No condition.
-/
import Derived.Test.YtdclgdpifamomaaFew8
namespace Go.Proofs.Ytdclgdpifamomaa
open Go.RowKit

theorem few_dig (xs : List Int) (h : xs.length ≤ 256) : Dig (fewL xs) := ⟨by rw [fewL_length]; exact h, fun i _ => by rw [fewL_get]; omega⟩

set_option maxHeartbeats 4000000 in
theorem wavePoint_any (A : Option Addr) (n c : Nat) (xs : List Int) (B : Option Addr) (m d : Nat) (ys : List Int) (X : Int) (w : World) (h1 : Ints w (· < w.heap.size) A n xs) (h2 : Ints w (· < w.heap.size) B m ys) :
    Calls Try.prog 8 #[.slice A n c, .slice B m d, .int .u64 X] w fun e w' => e = .returned (.bool true) ∧ Below w.heap.size w w' := by
  have H1 := Lib.hid h1; have H2 := Lib.hid h2
  clear h1 h2
  by_cases hn : n ≤ 100
  · have d0 : decide ((100 : Int) < (n : Int)) = false := by simp; omega
    have d0n : decide (100 < n) = false := by simp; omega
    by_cases hm : m ≤ 100
    · have d1 : decide ((100 : Int) < (m : Int)) = false := by simp; omega
      have d1n : decide (100 < m) = false := by simp; omega
      have nx := Lib.hid H1.out.1; have ny := Lib.hid H2.out.1
      have HM : Hid (IntKind.u64.wrap (ev X (fewL xs) % 18446744073709551616 * (ev X (fewL ys) % 18446744073709551616)) = ev X (foldL (fewL xs) (fewL ys)) % 18446744073709551616) := show _ = _ by
        rw [IntKind.wrap_u64, ev_fold]
        exact (Int.mul_emod _ _ _).symm
      go_enter Try.func8, Try.ntmps8
      go_wp2_with fail
      refine (awake_any w).mono ?_
      rintro e w1 ⟨rfl, B1⟩
      have c1 := Lib.hid (few_any A n c xs w1 (H1.out.below B1) (by omega))
      have H2' := Lib.hid (H2.out.below B1); have HB1 := Lib.hid B1
      clear B1 H1 H2
      go_wp2_with fail
      refine c1.out.mono ?_
      rintro e w2 ⟨R1, k1, rfl, I1, B2⟩
      have c2 := Lib.hid (few_any B m d ys w2 (H2'.out.below B2) (by omega))
      have HI1 := Lib.hid I1; have HB2 := Lib.hid (HB1.out.trans (B2.mono HB1.out.size))
      clear I1 B2 c1 H2' HB1
      go_wp2_with fail
      refine c2.out.mono ?_
      rintro e w3 ⟨R2, k2, rfl, I2, B3⟩
      have I1 := HI1.out.below B3
      have c3 := Lib.hid (fold_any R1 n k1 (fewL xs) R2 m k2 (fewL ys) w3 I1 I2 (by omega) (by omega) true ⟨fun _ => ⟨few_dig xs (by rw [nx.out]; omega), few_dig ys (by rw [ny.out]; omega)⟩, fun _ => rfl⟩)
      have HI1' := Lib.hid I1; have HI2 := Lib.hid I2; have HB3 := Lib.hid (HB2.out.trans (B3.mono HB2.out.size))
      clear I1 I2 B3 c2 HB2 HI1
      go_wp2_with fail
      refine c3.out.mono ?_
      rintro e w4 ⟨R3, k3, rfl, I3, B4⟩
      simp only [if_true] at I3
      have hk3 : k3 ≤ 1000000 := by
        have := I3.1
        unfold foldL at this
        split at this
        · simp at this; omega
        · simp [fewL_length] at this
          have := nx.out; have := ny.out; omega
      have v1 := Lib.hid (value_any R3 k3 k3 _ X w4 I3 hk3)
      have v2 := Lib.hid (value_any R1 n k1 _ X w4 (HI1'.out.below B4) (by omega))
      have v3 := Lib.hid (value_any R2 m k2 _ X w4 (HI2.out.below B4) (by omega))
      have HB4 := Lib.hid (HB3.out.trans (B4.mono HB3.out.size))
      clear I3 B4 HI1' HI2 HB3 c3 hk3 nx ny
      generalize ev X (foldL (fewL xs) (fewL ys)) % 18446744073709551616 = E1 at *
      generalize ev X (fewL xs) % 18446744073709551616 = E2 at *
      generalize ev X (fewL ys) % 18446744073709551616 = E3 at *
      have hm1 := HM.out
      have hee : (E1 == E1) = true := by simp
      clear HM
      go_wp2_with fail
      refine v1.out.mono ?_
      rintro e w5 ⟨rfl, hw⟩; subst w5
      go_wp2_with fail
      refine v2.out.mono ?_
      rintro e w5 ⟨rfl, hw⟩; subst w5
      go_wp2_with fail
      refine v3.out.mono ?_
      rintro e w5 ⟨rfl, hw⟩; subst w5
      go_wp2_with fail
      go_ret
      exact ⟨by first | rfl | simp [hm1], HB4.out⟩
    · have d1 : decide ((100 : Int) < (m : Int)) = true := by simp; omega
      have d1n : decide (100 < m) = true := by simp; omega
      go_enter Try.func8, Try.ntmps8
      go_wp2_with fail
      refine (awake_any w).mono ?_
      rintro e w1 ⟨rfl, B1⟩
      have HB1 := Lib.hid B1
      clear B1 H1 H2
      go_wp2_with fail
      go_ret
      exact ⟨rfl, HB1.out⟩
  · have d0 : decide ((100 : Int) < (n : Int)) = true := by simp; omega
    have d0n : decide (100 < n) = true := by simp; omega
    go_enter Try.func8, Try.ntmps8
    go_wp2_with fail
    refine (awake_any w).mono ?_
    rintro e w1 ⟨rfl, B1⟩
    have HB1 := Lib.hid B1
    clear B1 H1 H2
    go_wp2_with fail
    go_ret
    exact ⟨rfl, HB1.out⟩

end Go.Proofs.Ytdclgdpifamomaa
