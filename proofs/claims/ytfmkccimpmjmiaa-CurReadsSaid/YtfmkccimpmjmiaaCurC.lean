/-
  What the Reader's Low and High of package cur do, one contract each; no condition beyond what each contract asks.
-/
import Derived.Test.YtfmkccimpmjmiaaCurB
import Derived.Test.YtfmkccimpmjmiaaNum
namespace Go.Proofs.Ytfmkccimpmjmiaa
open Go.RowKit

set_option maxHeartbeats 400000 in
theorem rlow_ok (q g : Nat) (bs : List UInt8) (k n : Nat) (w : World) (h : Rd w q g bs k) (h1 : 1 ≤ n) (h8 : n ≤ 8) (hn : k + n ≤ bs.length) :
    Calls Try.prog 12 #[.pointer (some ⟨q, 0, none⟩), .int .i64 (n : Int)] w (NumPost q g bs k n .u64 (leNat ((bs.drop k).take n) : Int) w) := by
  have H := Lib.hid h
  clear h
  obtain ⟨cs, hcs⟩ : ∃ cs, cs = (bs.drop k).take n := ⟨_, rfl⟩
  have HC := Lib.hid hcs
  clear hcs
  go_enter Try.func12, Try.ntmps12
  go_wp2_with fail
  refine (number_ok q g bs k n _ H.out h1 h8 hn).mono ?_
  rintro e w1 ⟨A, c, rfl, hh, hR, hK⟩
  rw [← HC.out] at hh
  have HR := Lib.hid hR
  obtain ⟨b, o, rfl, rfl, hc⟩ := hh.2 (by omega)
  have HL := Lib.hid hh.1
  have HCell := Lib.hid hc
  clear hh hR hc
  go_wp2_with fail
  go_loop [8, 20] (fun v i => ∃ j : Nat, j ≤ n ∧ i = .int .i64 (j : Int) ∧ v = .int .u64 (leNat (cs.take j) : Int)) (fun _ i => n - (intOf i).toNat)
  case atStart => exact ⟨0, Nat.zero_le _, rfl, rfl⟩
  case round =>
    obtain ⟨j, hj, rfl, rfl⟩ := hrel
    by_cases hlt : j < n
    · have hcell := HCell.out j hlt
      obtain ⟨x, hx⟩ : ∃ x, x = (cs.getD j 0).toNat := ⟨_, rfl⟩
      have hx8 : x < 256 := by rw [hx]; exact (cs.getD j 0).toNat_lt
      rw [← hx] at hcell
      have HX := Lib.hid hx
      clear hx
      go_wp2_with fail
      go_round
      case rel =>
        refine ⟨j + 1, by omega, by go_num, ?_⟩
        rw [take_succ_getD cs j (by rw [HL.out]; exact hlt), leNat_append, or_low _ x j (by have := leNat_lt (cs.take j); rwa [List.length_take, HL.out, Nat.min_eq_left hj] at this) hx8 (by omega), List.length_take, HL.out, Nat.min_eq_left hj]
        simp [leNat, HX.out]
      case measure => simp [intOf]; omega
    · go_wp2_with fail
      go_ret2
      refine ⟨?_, HR.out, hK⟩
      rw [← HC.out, show cs = cs.take j by rw [List.take_of_length_le (by rw [HL.out]; omega)]]
      rw [List.take_take, Nat.min_self]
      rfl

set_option maxHeartbeats 400000 in
theorem rhigh_ok (q g : Nat) (bs : List UInt8) (k n : Nat) (w : World) (h : Rd w q g bs k) (h1 : 1 ≤ n) (h8 : n ≤ 8) (hn : k + n ≤ bs.length) :
    Calls Try.prog 14 #[.pointer (some ⟨q, 0, none⟩), .int .i64 (n : Int)] w (NumPost q g bs k n .u64 (beNat ((bs.drop k).take n) : Int) w) := by
  have H := Lib.hid h
  clear h
  obtain ⟨cs, hcs⟩ : ∃ cs, cs = (bs.drop k).take n := ⟨_, rfl⟩
  have HC := Lib.hid hcs
  clear hcs
  go_enter Try.func14, Try.ntmps14
  go_wp2_with fail
  refine (number_ok q g bs k n _ H.out h1 h8 hn).mono ?_
  rintro e w1 ⟨A, c, rfl, hh, hR, hK⟩
  rw [← HC.out] at hh
  have HR := Lib.hid hR
  obtain ⟨b, o, rfl, rfl, hc⟩ := hh.2 (by omega)
  have HL := Lib.hid hh.1
  have HCell := Lib.hid hc
  clear hh hR hc
  go_wp2_with fail
  go_loop [8, 20] (fun v i => ∃ j : Nat, j ≤ n ∧ i = .int .i64 (j : Int) ∧ v = .int .u64 (beNat (cs.take j) : Int)) (fun _ i => n - (intOf i).toNat)
  case atStart => exact ⟨0, Nat.zero_le _, rfl, rfl⟩
  case round =>
    obtain ⟨j, hj, rfl, rfl⟩ := hrel
    by_cases hlt : j < n
    · have hcell := HCell.out j hlt
      obtain ⟨x, hx⟩ : ∃ x, x = (cs.getD j 0).toNat := ⟨_, rfl⟩
      have hx8 : x < 256 := by rw [hx]; exact (cs.getD j 0).toNat_lt
      rw [← hx] at hcell
      have HX := Lib.hid hx
      clear hx
      go_wp2_with fail
      go_round
      case rel =>
        refine ⟨j + 1, by omega, by go_num, ?_⟩
        rw [take_succ_getD cs j (by rw [HL.out]; exact hlt), beNat_append, or_high _ x (beNat_take_small cs j (by omega)) hx8, HX.out]
      case measure => simp [intOf]; omega
    · go_wp2_with fail
      go_ret2
      refine ⟨?_, HR.out, hK⟩
      rw [← HC.out, show cs = cs.take j by rw [List.take_of_length_le (by rw [HL.out]; omega)]]
      rw [List.take_take, Nat.min_self]
      rfl

set_option maxHeartbeats 400000 in
theorem rlow_no (q g : Nat) (bs : List UInt8) (k : Nat) (n : Int) (w : World) (h : Rd w q g bs k) (hn : NoNum bs k n) :
    Calls Try.prog 12 #[.pointer (some ⟨q, 0, none⟩), .int .i64 n] w (NoPost (.int .u64 0) w) := by
  have H := Lib.hid h
  clear h
  have HN := Lib.hid hn
  clear hn
  go_enter Try.func12, Try.ntmps12
  go_wp2_with fail
  refine (number_no q g bs k n _ H.out HN.out).mono ?_
  rintro e w1 ⟨rfl, m, rfl⟩
  go_wp2_with fail
  go_ret2
  exact ⟨rfl, _, rfl⟩

set_option maxHeartbeats 400000 in
theorem rhigh_no (q g : Nat) (bs : List UInt8) (k : Nat) (n : Int) (w : World) (h : Rd w q g bs k) (hn : NoNum bs k n) :
    Calls Try.prog 14 #[.pointer (some ⟨q, 0, none⟩), .int .i64 n] w (NoPost (.int .u64 0) w) := by
  have H := Lib.hid h
  clear h
  have HN := Lib.hid hn
  clear hn
  go_enter Try.func14, Try.ntmps14
  go_wp2_with fail
  refine (number_no q g bs k n _ H.out HN.out).mono ?_
  rintro e w1 ⟨rfl, m, rfl⟩
  go_wp2_with fail
  go_ret2
  exact ⟨rfl, _, rfl⟩

end Go.Proofs.Ytfmkccimpmjmiaa
