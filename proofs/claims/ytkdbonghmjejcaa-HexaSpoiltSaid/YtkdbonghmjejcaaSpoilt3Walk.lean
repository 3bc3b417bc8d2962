/-
  The law HexaSpoilt, walked: it returns true and writes nothing that was there; for all slices of bytes, all places and all bytes.
-/
import Derived.Test.YtkdbonghmjejcaaAwake3
import Derived.Test.YtkdbonghmjejcaaOfStr
namespace Go.Proofs.Ytkdbonghmjejcaa
open Go.RowKit

set_option maxHeartbeats 1000000 in
theorem spoilt_out0 (a0 : Option Addr) (len0 cap0 : Nat) (k z : Int) (w : World) (h : len0 < 1) :
    Calls Try.prog 6 #[.slice a0 len0 cap0, .int .i64 k, .int .u8 z] w fun e w' => e = .returned (.bool true) ∧ Below w.heap.size w w' := by
  have d0 : decide ((len0 : Int) < 1) = true := by simp; omega
  go_enter Try.func6, Try.ntmps6
  go_wp2_with fail
  refine (awake_any _).mono ?_
  rintro e w1 ⟨rfl, B1⟩
  go_wp2_with fail
  go_ret
  exact ⟨rfl, B1⟩

set_option maxHeartbeats 1000000 in
theorem spoilt_out1 (a0 : Option Addr) (len0 cap0 : Nat) (k z : Int) (w : World) (h : 1 ≤ len0 ∧ 500 < len0) :
    Calls Try.prog 6 #[.slice a0 len0 cap0, .int .i64 k, .int .u8 z] w fun e w' => e = .returned (.bool true) ∧ Below w.heap.size w w' := by
  have d0 : decide ((len0 : Int) < 1) = false := by simp; omega
  have d1 : decide ((500 : Int) < (len0 : Int)) = true := by simp; omega
  go_enter Try.func6, Try.ntmps6
  go_wp2_with fail
  refine (awake_any _).mono ?_
  rintro e w1 ⟨rfl, B1⟩
  go_wp2_with fail
  go_ret
  exact ⟨rfl, B1⟩

set_option maxHeartbeats 1000000 in
theorem spoilt_out2 (a0 : Option Addr) (len0 cap0 : Nat) (k z : Int) (w : World) (h : 1 ≤ len0 ∧ len0 ≤ 500 ∧ k < 0) :
    Calls Try.prog 6 #[.slice a0 len0 cap0, .int .i64 k, .int .u8 z] w fun e w' => e = .returned (.bool true) ∧ Below w.heap.size w w' := by
  have d0 : decide ((len0 : Int) < 1) = false := by simp; omega
  have d1 : decide ((500 : Int) < (len0 : Int)) = false := by simp; omega
  have d2 : decide (k < 0) = true := by simp; omega
  go_enter Try.func6, Try.ntmps6
  go_wp2_with fail
  refine (awake_any _).mono ?_
  rintro e w1 ⟨rfl, B1⟩
  go_wp2_with fail
  go_ret
  exact ⟨rfl, B1⟩

set_option maxHeartbeats 1000000 in
theorem spoilt_out3 (a0 : Option Addr) (len0 cap0 : Nat) (k z : Int) (w : World) (h : 1 ≤ len0 ∧ len0 ≤ 500 ∧ 0 ≤ k ∧ 2 * (len0 : Int) ≤ k) :
    Calls Try.prog 6 #[.slice a0 len0 cap0, .int .i64 k, .int .u8 z] w fun e w' => e = .returned (.bool true) ∧ Below w.heap.size w w' := by
  have d0 : decide ((len0 : Int) < 1) = false := by simp; omega
  have d1 : decide ((500 : Int) < (len0 : Int)) = false := by simp; omega
  have d2 : decide (k < 0) = false := by simp; omega
  have d3 : decide (2 * (len0 : Int) ≤ k) = true := by simp; omega
  go_enter Try.func6, Try.ntmps6
  go_wp2_with fail
  refine (awake_any _).mono ?_
  rintro e w1 ⟨rfl, B1⟩
  go_wp2_with fail
  go_ret
  exact ⟨rfl, B1⟩

theorem spoilt_yes (bs : List UInt8) (j : Nat) (c : UInt8) (h : val c < 16) : ∃ m, unhex ((hex bs).set j c) = some m := by
  obtain ⟨m, hm, _⟩ := unhex_some ((hex bs).set j c) (by rw [List.length_set, hex_length]; omega) (fun x hx => by
    rcases List.mem_or_eq_of_mem_set hx with h1 | h1
    · exact hex_dig bs x h1
    · rw [h1]; exact h)
  exact ⟨m, hm⟩
theorem spoilt_no (bs : List UInt8) (j : Nat) (hj : j < 2 * bs.length) (c : UInt8) (h : ¬ val c < 16) : unhex ((hex bs).set j c) = none :=
  unhex_none _ ⟨c, List.mem_set (by rw [hex_length]; exact hj) c, h⟩
theorem spoilt_odd (bs : List UInt8) (j : Nat) (c : UInt8) : unhex ((hex bs).set j c ++ [48]) = none :=
  unhex_odd _ (by rw [List.length_append, List.length_set, hex_length, List.length_singleton]; omega)

set_option maxHeartbeats 8000000 in
theorem spoilt_walk (a0 : Option Addr) (len0 cap0 : Nat) (xs : List UInt8) (j : Nat) (c : UInt8) (w : World) (hh0 : Held w (· < w.heap.size) a0 len0 xs) (h1 : 1 ≤ len0) (h0 : len0 ≤ 500) (hj : j < 2 * len0) :
    Calls Try.prog 6 #[.slice a0 len0 cap0, .int .i64 (j : Int), .int .u8 (c.toNat : Int)] w fun e w' => e = .returned (.bool true) ∧ Below w.heap.size w w' := by
  have HA := Lib.hid hh0
  clear hh0
  have d1 : decide ((len0 : Int) < 1) = false := by simp; omega
  have d2 : decide ((500 : Int) < (len0 : Int)) = false := by simp; omega
  have d3 : decide ((j : Int) < 0) = false := by simp
  have d4 : decide (2 * (len0 : Int) ≤ (j : Int)) = false := by simp; omega
  go_enter Try.func6, Try.ntmps6
  go_wp2_with fail
  refine (awake_any _).mono ?_
  rintro e w1 ⟨rfl, B1⟩
  go_wp2_with fail
  refine (text_any a0 len0 cap0 xs w1 (HA.out.on B1) (by omega)).mono ?_
  rintro e w2 ⟨rfl, B2⟩
  have B2' : Below w.heap.size w w2 := B1.trans (B2.mono B1.size)
  clear B2 B1
  obtain ⟨cc, w3, hcv, hrow, B3⟩ := bytes_of_str (hex xs) w2
  have hwg : w.heap.size ≤ w2.heap.size := B2'.size
  have B3' : Below w.heap.size w w3 := B2'.trans (B3.mono B2'.size)
  have hul : (hex xs).length = 2 * len0 := by rw [hex_length, HA.out.1]
  have hc := hrow.cell (i := j) (by omega)
  have hf := hrow.frozen (i := j) (by omega)
  have HS := Lib.hid (hrow.set (i := j) (by omega) c)
  have BS : Below w.heap.size w (w3.setCell ⟨w2.heap.size, j, none⟩ (.int .u8 (c.toNat : Int))) := B3'.setCell (p := ⟨w2.heap.size, j, none⟩) hwg _
  have HY := Lib.hid (spoilt_yes xs j c)
  have HN := Lib.hid (spoilt_no xs j (by rw [HA.out.1]; exact hj) c)
  have HOdd := Lib.hid (spoilt_odd xs j c)
  clear hrow B3 B2' B3'
  have hx : c.toNat < 256 := c.toNat_lt
  generalize hex xs = u at *
  generalize (u.getD j 0).toNat = old at *
  rw [hul] at hcv
  have HL : Hid ((u.set j c).length = 2 * len0) := show _ = _ by rw [List.length_set, hul]
  clear hul
  have d5 : ((2 * (len0 : Int)) != 2 * (len0 : Int)) = false := by simp
  have HV1 := Lib.hid (val_low (c := c)); have HV2 := Lib.hid (val_num (c := c)); have HV3 := Lib.hid (val_mid (c := c)); have HV4 := Lib.hid (val_great (c := c))
  have HV5 := Lib.hid (val_gap (c := c)); have HV6 := Lib.hid (val_small (c := c)); have HV7 := Lib.hid (val_high (c := c))
  obtain ⟨x, hxe⟩ : ∃ x, x = c.toNat := ⟨_, rfl⟩
  rw [← hxe] at hx HS BS HV1 HV2 HV3 HV4 HV5 HV6 HV7 ⊢
  clear hxe
  generalize u.set j c = v at *
  have s1 := str_of (HS.out.held HL.out) cc
  by_cases q0 : x < 48
  · have ea : decide ((48 : Int) ≤ (x : Int)) = false := by simp; omega
    have ee : decide ((97 : Int) ≤ (x : Int)) = false := by simp; omega
    have eg : decide ((65 : Int) ≤ (x : Int)) = false := by simp; omega
    have HV : Hid (val c = _) := show _ from HV1.out (by omega)
    have HM := Lib.hid (HN.out (by rw [HV.out]; omega))
    clear HV HV1 HV2 HV3 HV4 HV5 HV6 HV7 HY HN
    go_wp2_with fail
    refine (bytes_any v (by rw [HL.out]; omega) _).mono ?_
    rw [HM.out]
    rintro e w5 ⟨A5, c5, rfl, g5, B5⟩
    simp only [Option.getD_none, Option.isSome_none, List.length_nil] at g5 ⊢
    have B5' : Below w.heap.size w w5 := BS.trans (B5.mono BS.size)
    have s2 := str_of ((HS.out.held HL.out).on B5) cc
    have hq : ¬ 9223372036854775807 < v.length + 1 := by rw [HL.out]; omega
    clear g5 B5 s1
    go_wp2_with fail
    rw [cat_str v [48]]
    refine (bytes_any (v ++ [48]) (by rw [List.length_append, HL.out]; simp; omega) w5).mono ?_
    rw [HOdd.out]
    rintro e w6 ⟨A6, c6, rfl, g6, B6⟩
    simp only [Option.getD_none, Option.isSome_none, List.length_nil] at g6 ⊢
    have B6' : Below w.heap.size w w6 := B5'.trans (B6.mono B5'.size)
    clear g6 B6 s2
    go_wp2_with fail
    go_ret
    exact ⟨rfl, B6'⟩
  by_cases q1 : x ≤ 57
  · have ea : decide ((48 : Int) ≤ (x : Int)) = true := by simp; omega
    have eb : decide ((x : Int) ≤ 57) = true := by simp; omega
    have HV : Hid (val c = _) := show _ from HV2.out (by omega) (by omega)
    obtain ⟨m, hm⟩ := HY.out (by rw [HV.out]; omega)
    have HM := Lib.hid hm
    clear hm
    clear HV HV1 HV2 HV3 HV4 HV5 HV6 HV7 HY HN
    go_wp2_with fail
    refine (bytes_any v (by rw [HL.out]; omega) _).mono ?_
    rw [HM.out]
    rintro e w5 ⟨A5, c5, rfl, g5, B5⟩
    simp only [Option.getD_some, Option.isSome_some] at g5 ⊢
    have B5' : Below w.heap.size w w5 := BS.trans (B5.mono BS.size)
    have s2 := str_of ((HS.out.held HL.out).on B5) cc
    have hq : ¬ 9223372036854775807 < v.length + 1 := by rw [HL.out]; omega
    clear g5 B5 s1
    go_wp2_with fail
    rw [cat_str v [48]]
    refine (bytes_any (v ++ [48]) (by rw [List.length_append, HL.out]; simp; omega) w5).mono ?_
    rw [HOdd.out]
    rintro e w6 ⟨A6, c6, rfl, g6, B6⟩
    simp only [Option.getD_none, Option.isSome_none, List.length_nil] at g6 ⊢
    have B6' : Below w.heap.size w w6 := B5'.trans (B6.mono B5'.size)
    clear g6 B6 s2
    go_wp2_with fail
    go_ret
    exact ⟨rfl, B6'⟩
  by_cases q2 : x < 65
  · have ea : decide ((48 : Int) ≤ (x : Int)) = true := by simp; omega
    have eb : decide ((x : Int) ≤ 57) = false := by simp; omega
    have ee : decide ((97 : Int) ≤ (x : Int)) = false := by simp; omega
    have eg : decide ((65 : Int) ≤ (x : Int)) = false := by simp; omega
    have HV : Hid (val c = _) := show _ from HV3.out (by omega) (by omega)
    have HM := Lib.hid (HN.out (by rw [HV.out]; omega))
    clear HV HV1 HV2 HV3 HV4 HV5 HV6 HV7 HY HN
    go_wp2_with fail
    refine (bytes_any v (by rw [HL.out]; omega) _).mono ?_
    rw [HM.out]
    rintro e w5 ⟨A5, c5, rfl, g5, B5⟩
    simp only [Option.getD_none, Option.isSome_none, List.length_nil] at g5 ⊢
    have B5' : Below w.heap.size w w5 := BS.trans (B5.mono BS.size)
    have s2 := str_of ((HS.out.held HL.out).on B5) cc
    have hq : ¬ 9223372036854775807 < v.length + 1 := by rw [HL.out]; omega
    clear g5 B5 s1
    go_wp2_with fail
    rw [cat_str v [48]]
    refine (bytes_any (v ++ [48]) (by rw [List.length_append, HL.out]; simp; omega) w5).mono ?_
    rw [HOdd.out]
    rintro e w6 ⟨A6, c6, rfl, g6, B6⟩
    simp only [Option.getD_none, Option.isSome_none, List.length_nil] at g6 ⊢
    have B6' : Below w.heap.size w w6 := B5'.trans (B6.mono B5'.size)
    clear g6 B6 s2
    go_wp2_with fail
    go_ret
    exact ⟨rfl, B6'⟩
  by_cases q3 : x ≤ 70
  · have ea : decide ((48 : Int) ≤ (x : Int)) = true := by simp; omega
    have eb : decide ((x : Int) ≤ 57) = false := by simp; omega
    have ee : decide ((97 : Int) ≤ (x : Int)) = false := by simp; omega
    have eg : decide ((65 : Int) ≤ (x : Int)) = true := by simp; omega
    have eh : decide ((x : Int) ≤ 70) = true := by simp; omega
    have HV : Hid (val c = _) := show _ from HV4.out (by omega) (by omega)
    obtain ⟨m, hm⟩ := HY.out (by rw [HV.out]; omega)
    have HM := Lib.hid hm
    clear hm
    clear HV HV1 HV2 HV3 HV4 HV5 HV6 HV7 HY HN
    go_wp2_with fail
    refine (bytes_any v (by rw [HL.out]; omega) _).mono ?_
    rw [HM.out]
    rintro e w5 ⟨A5, c5, rfl, g5, B5⟩
    simp only [Option.getD_some, Option.isSome_some] at g5 ⊢
    have B5' : Below w.heap.size w w5 := BS.trans (B5.mono BS.size)
    have s2 := str_of ((HS.out.held HL.out).on B5) cc
    have hq : ¬ 9223372036854775807 < v.length + 1 := by rw [HL.out]; omega
    clear g5 B5 s1
    go_wp2_with fail
    rw [cat_str v [48]]
    refine (bytes_any (v ++ [48]) (by rw [List.length_append, HL.out]; simp; omega) w5).mono ?_
    rw [HOdd.out]
    rintro e w6 ⟨A6, c6, rfl, g6, B6⟩
    simp only [Option.getD_none, Option.isSome_none, List.length_nil] at g6 ⊢
    have B6' : Below w.heap.size w w6 := B5'.trans (B6.mono B5'.size)
    clear g6 B6 s2
    go_wp2_with fail
    go_ret
    exact ⟨rfl, B6'⟩
  by_cases q4 : x < 97
  · have ea : decide ((48 : Int) ≤ (x : Int)) = true := by simp; omega
    have eb : decide ((x : Int) ≤ 57) = false := by simp; omega
    have ee : decide ((97 : Int) ≤ (x : Int)) = false := by simp; omega
    have eg : decide ((65 : Int) ≤ (x : Int)) = true := by simp; omega
    have eh : decide ((x : Int) ≤ 70) = false := by simp; omega
    have HV : Hid (val c = _) := show _ from HV5.out (by omega) (by omega)
    have HM := Lib.hid (HN.out (by rw [HV.out]; omega))
    clear HV HV1 HV2 HV3 HV4 HV5 HV6 HV7 HY HN
    go_wp2_with fail
    refine (bytes_any v (by rw [HL.out]; omega) _).mono ?_
    rw [HM.out]
    rintro e w5 ⟨A5, c5, rfl, g5, B5⟩
    simp only [Option.getD_none, Option.isSome_none, List.length_nil] at g5 ⊢
    have B5' : Below w.heap.size w w5 := BS.trans (B5.mono BS.size)
    have s2 := str_of ((HS.out.held HL.out).on B5) cc
    have hq : ¬ 9223372036854775807 < v.length + 1 := by rw [HL.out]; omega
    clear g5 B5 s1
    go_wp2_with fail
    rw [cat_str v [48]]
    refine (bytes_any (v ++ [48]) (by rw [List.length_append, HL.out]; simp; omega) w5).mono ?_
    rw [HOdd.out]
    rintro e w6 ⟨A6, c6, rfl, g6, B6⟩
    simp only [Option.getD_none, Option.isSome_none, List.length_nil] at g6 ⊢
    have B6' : Below w.heap.size w w6 := B5'.trans (B6.mono B5'.size)
    clear g6 B6 s2
    go_wp2_with fail
    go_ret
    exact ⟨rfl, B6'⟩
  by_cases q5 : x ≤ 102
  · have ea : decide ((48 : Int) ≤ (x : Int)) = true := by simp; omega
    have eb : decide ((x : Int) ≤ 57) = false := by simp; omega
    have ee : decide ((97 : Int) ≤ (x : Int)) = true := by simp; omega
    have ef : decide ((x : Int) ≤ 102) = true := by simp; omega
    have HV : Hid (val c = _) := show _ from HV6.out (by omega) (by omega)
    obtain ⟨m, hm⟩ := HY.out (by rw [HV.out]; omega)
    have HM := Lib.hid hm
    clear hm
    clear HV HV1 HV2 HV3 HV4 HV5 HV6 HV7 HY HN
    go_wp2_with fail
    refine (bytes_any v (by rw [HL.out]; omega) _).mono ?_
    rw [HM.out]
    rintro e w5 ⟨A5, c5, rfl, g5, B5⟩
    simp only [Option.getD_some, Option.isSome_some] at g5 ⊢
    have B5' : Below w.heap.size w w5 := BS.trans (B5.mono BS.size)
    have s2 := str_of ((HS.out.held HL.out).on B5) cc
    have hq : ¬ 9223372036854775807 < v.length + 1 := by rw [HL.out]; omega
    clear g5 B5 s1
    go_wp2_with fail
    rw [cat_str v [48]]
    refine (bytes_any (v ++ [48]) (by rw [List.length_append, HL.out]; simp; omega) w5).mono ?_
    rw [HOdd.out]
    rintro e w6 ⟨A6, c6, rfl, g6, B6⟩
    simp only [Option.getD_none, Option.isSome_none, List.length_nil] at g6 ⊢
    have B6' : Below w.heap.size w w6 := B5'.trans (B6.mono B5'.size)
    clear g6 B6 s2
    go_wp2_with fail
    go_ret
    exact ⟨rfl, B6'⟩
  have ea : decide ((48 : Int) ≤ (x : Int)) = true := by simp; omega
  have eb : decide ((x : Int) ≤ 57) = false := by simp; omega
  have ee : decide ((97 : Int) ≤ (x : Int)) = true := by simp; omega
  have ef : decide ((x : Int) ≤ 102) = false := by simp; omega
  have eg : decide ((65 : Int) ≤ (x : Int)) = true := by simp; omega
  have eh : decide ((x : Int) ≤ 70) = false := by simp; omega
  have HV : Hid (val c = _) := show _ from HV7.out (by omega)
  have HM := Lib.hid (HN.out (by rw [HV.out]; omega))
  clear HV HV1 HV2 HV3 HV4 HV5 HV6 HV7 HY HN
  go_wp2_with fail
  refine (bytes_any v (by rw [HL.out]; omega) _).mono ?_
  rw [HM.out]
  rintro e w5 ⟨A5, c5, rfl, g5, B5⟩
  simp only [Option.getD_none, Option.isSome_none, List.length_nil] at g5 ⊢
  have B5' : Below w.heap.size w w5 := BS.trans (B5.mono BS.size)
  have s2 := str_of ((HS.out.held HL.out).on B5) cc
  have hq : ¬ 9223372036854775807 < v.length + 1 := by rw [HL.out]; omega
  clear g5 B5 s1
  go_wp2_with fail
  rw [cat_str v [48]]
  refine (bytes_any (v ++ [48]) (by rw [List.length_append, HL.out]; simp; omega) w5).mono ?_
  rw [HOdd.out]
  rintro e w6 ⟨A6, c6, rfl, g6, B6⟩
  simp only [Option.getD_none, Option.isSome_none, List.length_nil] at g6 ⊢
  have B6' : Below w.heap.size w w6 := B5'.trans (B6.mono B5'.size)
  clear g6 B6 s2
  go_wp2_with fail
  go_ret
  exact ⟨rfl, B6'⟩

theorem spoilt_any (a0 : Option Addr) (len0 cap0 : Nat) (xs : List UInt8) (k z : Int) (w : World) (hh0 : Held w (· < w.heap.size) a0 len0 xs) (hz : 0 ≤ z ∧ z ≤ 255) :
    Calls Try.prog 6 #[.slice a0 len0 cap0, .int .i64 k, .int .u8 z] w fun e w' => e = .returned (.bool true) ∧ Below w.heap.size w w' := by
  by_cases c1 : len0 < 1
  · exact spoilt_out0 a0 len0 cap0 k z w c1
  by_cases c2 : 500 < len0
  · exact spoilt_out1 a0 len0 cap0 k z w ⟨by omega, c2⟩
  by_cases c3 : k < 0
  · exact spoilt_out2 a0 len0 cap0 k z w ⟨by omega, by omega, c3⟩
  by_cases c4 : 2 * (len0 : Int) ≤ k
  · exact spoilt_out3 a0 len0 cap0 k z w ⟨by omega, by omega, by omega, c4⟩
  obtain ⟨j, rfl⟩ := Int.eq_ofNat_of_zero_le (show 0 ≤ k by omega)
  obtain ⟨c, rfl⟩ : ∃ c : UInt8, z = (c.toNat : Int) := ⟨UInt8.ofNat z.toNat, by rw [UInt8.toNat_ofNat', Nat.mod_eq_of_lt (by omega)]; omega⟩
  exact spoilt_walk a0 len0 cap0 xs j c w hh0 (by omega) (by omega) (by omega)

end Go.Proofs.Ytkdbonghmjejcaa
