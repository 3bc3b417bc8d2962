/-
  What Low and High of package propylonref1 do, one contract each; no condition beyond what each contract asks.
-/
import Derived.Test.YtfmkccimpmjmiaaAwake
namespace Go.Proofs.Ytfmkccimpmjmiaa
open Go.RowKit

theorem leNat_drop (cs : List UInt8) (m : Nat) (h : m < cs.length) : leNat (cs.drop m) = leNat (cs.drop (m + 1)) * 256 + (cs.getD m 0).toNat := by
  rw [List.drop_eq_getElem_cons h, leNat]
  simp [List.getD, h]
  omega
theorem leNat_small (cs : List UInt8) (h : cs.length ≤ 8) : leNat cs < 18446744073709551616 := by
  have h1 := leNat_lt cs
  have h3 : (256 : Nat) ^ cs.length ≤ 256 ^ 8 := Nat.pow_le_pow_right (by omega) h
  omega
theorem beNat_small (cs : List UInt8) (h : cs.length ≤ 8) : beNat cs < 18446744073709551616 := by
  rw [beNat_eq]
  exact leNat_small _ (by simpa using h)

def RefPost (v : Int) (w : World) (e : Ending) (w' : World) : Prop := e = .returned (.tuple #[.int .u64 v, .bool true]) ∧ w = w'

set_option maxHeartbeats 1000000 in
theorem refLow_ok (A : Option Addr) (len cap : Nat) (bs : List UInt8) (k n : Nat) (w : World) (M : Nat → Prop) (hh : Held w M A len bs) (hlen : len ≤ 100000) (h1 : 1 ≤ n) (h8 : n ≤ 8) (hn : k + n ≤ len) :
    Calls Try.prog 13 #[.slice A len cap, .int .i64 (k : Int), .int .i64 (n : Int)] w (RefPost (leNat ((bs.drop k).take n) : Int) w) := by
  obtain ⟨b, o, rfl, _, hc⟩ := hh.2 (by omega)
  have HBL := Lib.hid hh.1
  have HC := Lib.hid hc
  clear hh hc
  obtain ⟨cs, hcs⟩ : ∃ cs, cs = (bs.drop k).take n := ⟨_, rfl⟩
  have HCS := Lib.hid hcs
  have HL : Hid (cs.length = n) := show _ = _ by rw [hcs, List.length_take, List.length_drop, HBL.out]; omega
  have HG : Hid (∀ i, i < n → cs.getD i 0 = bs.getD (k + i) 0) := by
    intro i hi
    rw [hcs]
    simp [List.getD, hi]
  clear hcs
  have d1 : decide ((n : Int) < 1) = false := by simp; omega
  have d2 : decide ((8 : Int) < (n : Int)) = false := by simp; omega
  have d3 : decide ((k : Int) < 0) = false := by simp
  have d4 : decide ((len : Int) < (k : Int)) = false := by simp; omega
  have d4' : decide (len < k) = false := by simp; omega
  have d5 : decide ((len : Int) - (k : Int) < (n : Int)) = false := by simp; omega
  go_enter Try.func13, Try.ntmps13
  go_wp2_with fail
  go_loop [8, 9] (fun v i => ∃ j : Nat, j ≤ n ∧ i = .int .i64 ((j : Int) - 1) ∧ v = .int .u64 (leNat (cs.drop j) : Int)) (fun _ i => (intOf i + 1).toNat)
  case atStart => exact ⟨n, Nat.le_refl _, rfl, by rw [List.drop_of_length_le (by rw [HL.out]; omega)]; rfl⟩
  case round =>
    obtain ⟨j, hj, rfl, rfl⟩ := hrel
    rcases j with _ | m
    · go_wp2_with fail
      go_ret2
      exact ⟨by rw [← HCS.out]; rfl, rfl⟩
    · rw [show ((m + 1 : Nat) : Int) - 1 = (m : Int) by omega]
      have hcell := HC.out (k + m) (by omega)
      rw [← HG.out m (by omega)] at hcell
      have hx8 := (cs.getD m 0).toNat_lt
      have hst := leNat_drop cs m (by rw [HL.out]; omega)
      have hsm := leNat_small (cs.drop m) (by rw [List.length_drop, HL.out]; omega)
      obtain ⟨x, ex⟩ : ∃ x, x = (cs.getD m 0).toNat := ⟨_, rfl⟩
      obtain ⟨y, ey⟩ : ∃ y, y = leNat (cs.drop (m + 1)) := ⟨_, rfl⟩
      rw [← ex] at hcell hx8 hst
      rw [← ey] at hst ⊢
      have HS := Lib.hid hst
      have hsm2 : y * 256 + x < 18446744073709551616 := by rw [hst] at hsm; exact hsm
      clear hst hsm ex ey
      have s1 : (k : Int) + (m : Int) < (len : Int) := by omega
      have s4 : ((k : Int) + (m : Int)).toNat = k + m := by omega
      go_wp2_with fail
      go_round
      case rel => exact ⟨m, by omega, rfl, congrArg (Value.int .u64) (by rw [HS.out]; omega)⟩
      case measure => simp [intOf]

set_option maxHeartbeats 1000000 in
theorem refHigh_ok (A : Option Addr) (len cap : Nat) (bs : List UInt8) (k n : Nat) (w : World) (M : Nat → Prop) (hh : Held w M A len bs) (hlen : len ≤ 100000) (h1 : 1 ≤ n) (h8 : n ≤ 8) (hn : k + n ≤ len) :
    Calls Try.prog 15 #[.slice A len cap, .int .i64 (k : Int), .int .i64 (n : Int)] w (RefPost (beNat ((bs.drop k).take n) : Int) w) := by
  obtain ⟨b, o, rfl, _, hc⟩ := hh.2 (by omega)
  have HBL := Lib.hid hh.1
  have HC := Lib.hid hc
  clear hh hc
  obtain ⟨cs, hcs⟩ : ∃ cs, cs = (bs.drop k).take n := ⟨_, rfl⟩
  have HCS := Lib.hid hcs
  have HL : Hid (cs.length = n) := show _ = _ by rw [hcs, List.length_take, List.length_drop, HBL.out]; omega
  have HG : Hid (∀ i, i < n → cs.getD i 0 = bs.getD (k + i) 0) := by
    intro i hi
    rw [hcs]
    simp [List.getD, hi]
  clear hcs
  have d1 : decide ((n : Int) < 1) = false := by simp; omega
  have d2 : decide ((8 : Int) < (n : Int)) = false := by simp; omega
  have d3 : decide ((k : Int) < 0) = false := by simp
  have d4 : decide ((len : Int) < (k : Int)) = false := by simp; omega
  have d4' : decide (len < k) = false := by simp; omega
  have d5 : decide ((len : Int) - (k : Int) < (n : Int)) = false := by simp; omega
  go_enter Try.func15, Try.ntmps15
  go_wp2_with fail
  go_loop [8, 9] (fun v i => ∃ j : Nat, j ≤ n ∧ i = .int .i64 (j : Int) ∧ v = .int .u64 (beNat (cs.take j) : Int)) (fun _ i => n - (intOf i).toNat)
  case atStart => exact ⟨0, Nat.zero_le _, rfl, rfl⟩
  case round =>
    obtain ⟨m, hj, rfl, rfl⟩ := hrel
    by_cases hlt : m < n
    · have hcell := HC.out (k + m) (by omega)
      rw [← HG.out m (by omega)] at hcell
      have hx8 := (cs.getD m 0).toNat_lt
      have hst := take_succ_getD cs m (by rw [HL.out]; omega)
      have hsm := beNat_small (cs.take (m + 1)) (by rw [List.length_take, HL.out]; omega)
      rw [hst, beNat_append] at hsm
      have hst2 := beNat_append (cs.take m) (cs.getD m 0)
      rw [← hst] at hst2
      obtain ⟨x, ex⟩ : ∃ x, x = (cs.getD m 0).toNat := ⟨_, rfl⟩
      obtain ⟨y, ey⟩ : ∃ y, y = beNat (cs.take m) := ⟨_, rfl⟩
      rw [← ex] at hcell hx8 hst2 hsm
      rw [← ey] at hst2 hsm ⊢
      have HS := Lib.hid hst2
      clear hst hst2 ex ey
      have s1 : (k : Int) + (m : Int) < (len : Int) := by omega
      have s4 : ((k : Int) + (m : Int)).toNat = k + m := by omega
      go_wp2_with fail
      go_round
      case rel => exact ⟨m + 1, by omega, by go_num, congrArg (Value.int .u64) (by rw [HS.out]; omega)⟩
      case measure => simp [intOf]; omega
    · go_wp2_with fail
      go_ret2
      refine ⟨?_, rfl⟩
      rw [← HCS.out, show cs = cs.take m by rw [List.take_of_length_le (by rw [HL.out]; omega)]]
      rw [List.take_take, Nat.min_self]
      rfl

/-- When Low and High of the reference tell nothing: a place that is in the bytes, and a number of bytes that is not there. -/
def RefNo (w : World) (e : Ending) (w' : World) : Prop := e = .returned (.tuple #[.int .u64 0, .bool false]) ∧ w = w'

set_option maxHeartbeats 1000000 in
theorem refLow_no (A : Option Addr) (len cap k : Nat) (n : Int) (w : World) (hlen : len ≤ 100000) (hk : k ≤ len) (hn : n < 1 ∨ 8 < n ∨ (len : Int) - (k : Int) < n) :
    Calls Try.prog 13 #[.slice A len cap, .int .i64 (k : Int), .int .i64 n] w (RefNo w) := by
  by_cases x1 : n < 1
  · have d1 : decide (n < 1) = true := by simp; omega
    clear hn
    go_enter Try.func13, Try.ntmps13
    go_wp2_with fail
    go_ret2
    exact ⟨rfl, rfl⟩
  · have d1 : decide (n < 1) = false := by simp; omega
    by_cases x2 : 8 < n
    · have d2 : decide (8 < n) = true := by simp; omega
      clear hn
      go_enter Try.func13, Try.ntmps13
      go_wp2_with fail
      go_ret2
      exact ⟨rfl, rfl⟩
    · have d2 : decide (8 < n) = false := by simp; omega
      have d3 : decide ((k : Int) < 0) = false := by simp
      have d4 : decide ((len : Int) < (k : Int)) = false := by simp; omega
      have d4' : decide (len < k) = false := by simp; omega
      have d5 : decide ((len : Int) - (k : Int) < n) = true := by simp; omega
      clear hn
      go_enter Try.func13, Try.ntmps13
      go_wp2_with fail
      go_ret2
      exact ⟨rfl, rfl⟩

set_option maxHeartbeats 1000000 in
theorem refHigh_no (A : Option Addr) (len cap k : Nat) (n : Int) (w : World) (hlen : len ≤ 100000) (hk : k ≤ len) (hn : n < 1 ∨ 8 < n ∨ (len : Int) - (k : Int) < n) :
    Calls Try.prog 15 #[.slice A len cap, .int .i64 (k : Int), .int .i64 n] w (RefNo w) := by
  by_cases x1 : n < 1
  · have d1 : decide (n < 1) = true := by simp; omega
    clear hn
    go_enter Try.func15, Try.ntmps15
    go_wp2_with fail
    go_ret2
    exact ⟨rfl, rfl⟩
  · have d1 : decide (n < 1) = false := by simp; omega
    by_cases x2 : 8 < n
    · have d2 : decide (8 < n) = true := by simp; omega
      clear hn
      go_enter Try.func15, Try.ntmps15
      go_wp2_with fail
      go_ret2
      exact ⟨rfl, rfl⟩
    · have d2 : decide (8 < n) = false := by simp; omega
      have d3 : decide ((k : Int) < 0) = false := by simp
      have d4 : decide ((len : Int) < (k : Int)) = false := by simp; omega
      have d4' : decide (len < k) = false := by simp; omega
      have d5 : decide ((len : Int) - (k : Int) < n) = true := by simp; omega
      clear hn
      go_enter Try.func15, Try.ntmps15
      go_wp2_with fail
      go_ret2
      exact ⟨rfl, rfl⟩

end Go.Proofs.Ytfmkccimpmjmiaa
