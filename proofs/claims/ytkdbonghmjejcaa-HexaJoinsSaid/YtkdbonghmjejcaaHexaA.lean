/-
  What hexa.value, hexa.Text and the document's digit and Hex do, one contract each; no condition beyond what each contract asks.
-/
import Derived.Test.YtkdbonghmjejcaaHexaMath
import Derived.Test.YtkdbonghmjejcaaBuild
import Derived.Test.YtkdbonghmjejcaaOwnRow
import Derived.IntWalk
namespace Go.Proofs.Ytkdbonghmjejcaa
open Go.RowKit

/-- Bytes of memory that was there are still read as they were. -/
theorem Held.on {w w' : World} {A : Option Addr} {n : Nat} {bs : List UInt8} (h : Held w (· < w.heap.size) A n bs) (b : Below w.heap.size w w') : Held w' (· < w'.heap.size) A n bs :=
  (h.keep fun k hk => b.block k hk).weaken fun _ hk => Nat.lt_of_lt_of_le hk b.size

theorem val_low {c : UInt8} (h : c.toNat < 48) : val c = 16 := by unfold val; rw [if_neg (by omega), if_neg (by omega), if_neg (by omega)]
theorem val_num {c : UInt8} (h : 48 ≤ c.toNat) (h' : c.toNat ≤ 57) : val c = c.toNat - 48 := by unfold val; rw [if_pos ⟨h, h'⟩]
theorem val_mid {c : UInt8} (h : 57 < c.toNat) (h' : c.toNat < 65) : val c = 16 := by unfold val; rw [if_neg (by omega), if_neg (by omega), if_neg (by omega)]
theorem val_great {c : UInt8} (h : 65 ≤ c.toNat) (h' : c.toNat ≤ 70) : val c = c.toNat - 55 := by unfold val; rw [if_neg (by omega), if_neg (by omega), if_pos ⟨h, h'⟩]
theorem val_gap {c : UInt8} (h : 70 < c.toNat) (h' : c.toNat < 97) : val c = 16 := by unfold val; rw [if_neg (by omega), if_neg (by omega), if_neg (by omega)]
theorem val_small {c : UInt8} (h : 97 ≤ c.toNat) (h' : c.toNat ≤ 102) : val c = c.toNat - 87 := by unfold val; rw [if_neg (by omega), if_pos ⟨h, h'⟩]
theorem val_high {c : UInt8} (h : 102 < c.toNat) : val c = 16 := by unfold val; rw [if_neg (by omega), if_neg (by omega), if_neg (by omega)]

/-- A digit's number as hexa.value tells it. -/
def valV (c : UInt8) : Value := .tuple #[.int .u8 ((val c % 16 : Nat) : Int), .bool (decide (val c < 16))]
theorem valV_none {c : UInt8} (h : val c = 16) : Ending.returned (.tuple #[.int .u8 0, .bool false]) = .returned (valV c) := by unfold valV; rw [h]; rfl
theorem valV_some {c : UInt8} {y : Int} (h : y = (val c : Int)) (h' : val c < 16) : Ending.returned (.tuple #[.int .u8 y, .bool true]) = .returned (valV c) := by
  unfold valV
  rw [h, Nat.mod_eq_of_lt h', decide_eq_true h']
/-- A digit's number as the document's digit tells it. -/
def digI (c : UInt8) : Int := if val c < 16 then (val c : Int) else -1
theorem digI_none {c : UInt8} (h : val c = 16) : digI c = -1 := by unfold digI; rw [if_neg (by omega)]
theorem digI_some {c : UInt8} (h : val c < 16) : digI c = (val c : Int) := by unfold digI; rw [if_pos h]
set_option maxHeartbeats 400000 in
theorem value_low (x : Nat) (hx : x < 256) (hc : x < 48) (y : UInt8) (hy : y.toNat = x) (w : World) :
    Calls Try.prog 12 #[.int .u8 (x : Int)] w fun e w' => e = .returned (valV y) ∧ w = w' := by
  have HV : Hid (val y = _) := show _ from val_low (by omega)
  have da : decide ((48 : Int) ≤ (x : Int)) = false := by simp; omega
  have de : decide ((97 : Int) ≤ (x : Int)) = false := by simp; omega
  have dg : decide ((65 : Int) ≤ (x : Int)) = false := by simp; omega
  clear hy
  go_enter Try.func12, Try.ntmps12
  go_wp2_with fail
  go_ret2
  exact ⟨valV_none HV.out, rfl⟩

set_option maxHeartbeats 400000 in
theorem value_num (x : Nat) (hx : x < 256) (hc : 48 ≤ x ∧ x ≤ 57) (y : UInt8) (hy : y.toNat = x) (w : World) :
    Calls Try.prog 12 #[.int .u8 (x : Int)] w fun e w' => e = .returned (valV y) ∧ w = w' := by
  have HV : Hid (val y = _) := show _ from val_num (by omega) (by omega)
  rw [hy] at HV
  have da : decide ((48 : Int) ≤ (x : Int)) = true := by simp; omega
  have db : decide ((x : Int) ≤ 57) = true := by simp; omega
  clear hy
  go_enter Try.func12, Try.ntmps12
  go_wp2_with fail
  go_ret2
  exact ⟨valV_some (by rw [HV.out]; omega) (by rw [HV.out]; omega), rfl⟩

set_option maxHeartbeats 400000 in
theorem value_mid (x : Nat) (hx : x < 256) (hc : 57 < x ∧ x < 65) (y : UInt8) (hy : y.toNat = x) (w : World) :
    Calls Try.prog 12 #[.int .u8 (x : Int)] w fun e w' => e = .returned (valV y) ∧ w = w' := by
  have HV : Hid (val y = _) := show _ from val_mid (by omega) (by omega)
  have da : decide ((48 : Int) ≤ (x : Int)) = true := by simp; omega
  have db : decide ((x : Int) ≤ 57) = false := by simp; omega
  have de : decide ((97 : Int) ≤ (x : Int)) = false := by simp; omega
  have dg : decide ((65 : Int) ≤ (x : Int)) = false := by simp; omega
  clear hy
  go_enter Try.func12, Try.ntmps12
  go_wp2_with fail
  go_ret2
  exact ⟨valV_none HV.out, rfl⟩

set_option maxHeartbeats 400000 in
theorem value_great (x : Nat) (hx : x < 256) (hc : 65 ≤ x ∧ x ≤ 70) (y : UInt8) (hy : y.toNat = x) (w : World) :
    Calls Try.prog 12 #[.int .u8 (x : Int)] w fun e w' => e = .returned (valV y) ∧ w = w' := by
  have HV : Hid (val y = _) := show _ from val_great (by omega) (by omega)
  rw [hy] at HV
  have da : decide ((48 : Int) ≤ (x : Int)) = true := by simp; omega
  have db : decide ((x : Int) ≤ 57) = false := by simp; omega
  have de : decide ((97 : Int) ≤ (x : Int)) = false := by simp; omega
  have dg : decide ((65 : Int) ≤ (x : Int)) = true := by simp; omega
  have dh : decide ((x : Int) ≤ 70) = true := by simp; omega
  clear hy
  go_enter Try.func12, Try.ntmps12
  go_wp2_with fail
  go_ret2
  exact ⟨valV_some (by rw [HV.out]; omega) (by rw [HV.out]; omega), rfl⟩

set_option maxHeartbeats 400000 in
theorem value_gap (x : Nat) (hx : x < 256) (hc : 70 < x ∧ x < 97) (y : UInt8) (hy : y.toNat = x) (w : World) :
    Calls Try.prog 12 #[.int .u8 (x : Int)] w fun e w' => e = .returned (valV y) ∧ w = w' := by
  have HV : Hid (val y = _) := show _ from val_gap (by omega) (by omega)
  have da : decide ((48 : Int) ≤ (x : Int)) = true := by simp; omega
  have db : decide ((x : Int) ≤ 57) = false := by simp; omega
  have de : decide ((97 : Int) ≤ (x : Int)) = false := by simp; omega
  have dg : decide ((65 : Int) ≤ (x : Int)) = true := by simp; omega
  have dh : decide ((x : Int) ≤ 70) = false := by simp; omega
  clear hy
  go_enter Try.func12, Try.ntmps12
  go_wp2_with fail
  go_ret2
  exact ⟨valV_none HV.out, rfl⟩

set_option maxHeartbeats 400000 in
theorem value_small (x : Nat) (hx : x < 256) (hc : 97 ≤ x ∧ x ≤ 102) (y : UInt8) (hy : y.toNat = x) (w : World) :
    Calls Try.prog 12 #[.int .u8 (x : Int)] w fun e w' => e = .returned (valV y) ∧ w = w' := by
  have HV : Hid (val y = _) := show _ from val_small (by omega) (by omega)
  rw [hy] at HV
  have da : decide ((48 : Int) ≤ (x : Int)) = true := by simp; omega
  have db : decide ((x : Int) ≤ 57) = false := by simp; omega
  have de : decide ((97 : Int) ≤ (x : Int)) = true := by simp; omega
  have df : decide ((x : Int) ≤ 102) = true := by simp; omega
  clear hy
  go_enter Try.func12, Try.ntmps12
  go_wp2_with fail
  go_ret2
  exact ⟨valV_some (by rw [HV.out]; omega) (by rw [HV.out]; omega), rfl⟩

set_option maxHeartbeats 400000 in
theorem value_high (x : Nat) (hx : x < 256) (hc : 102 < x) (y : UInt8) (hy : y.toNat = x) (w : World) :
    Calls Try.prog 12 #[.int .u8 (x : Int)] w fun e w' => e = .returned (valV y) ∧ w = w' := by
  have HV : Hid (val y = _) := show _ from val_high (by omega)
  have da : decide ((48 : Int) ≤ (x : Int)) = true := by simp; omega
  have db : decide ((x : Int) ≤ 57) = false := by simp; omega
  have de : decide ((97 : Int) ≤ (x : Int)) = true := by simp; omega
  have df : decide ((x : Int) ≤ 102) = false := by simp; omega
  have dg : decide ((65 : Int) ≤ (x : Int)) = true := by simp; omega
  have dh : decide ((x : Int) ≤ 70) = false := by simp; omega
  clear hy
  go_enter Try.func12, Try.ntmps12
  go_wp2_with fail
  go_ret2
  exact ⟨valV_none HV.out, rfl⟩

theorem value_any (c : UInt8) (w : World) :
    Calls Try.prog 12 #[.int .u8 (c.toNat : Int)] w fun e w' => e = .returned (valV c) ∧ w = w' := by
  have hx : c.toNat < 256 := c.toNat_lt
  by_cases h1 : c.toNat < 48
  · exact value_low _ hx h1 c rfl w
  by_cases h2 : c.toNat ≤ 57
  · exact value_num _ hx ⟨by omega, h2⟩ c rfl w
  by_cases h3 : c.toNat < 65
  · exact value_mid _ hx ⟨by omega, h3⟩ c rfl w
  by_cases h4 : c.toNat ≤ 70
  · exact value_great _ hx ⟨by omega, h4⟩ c rfl w
  by_cases h5 : c.toNat < 97
  · exact value_gap _ hx ⟨by omega, h5⟩ c rfl w
  by_cases h6 : c.toNat ≤ 102
  · exact value_small _ hx ⟨by omega, h6⟩ c rfl w
  exact value_high _ hx (by omega) c rfl w
set_option maxHeartbeats 400000 in
theorem digit_low (x : Nat) (hx : x < 256) (hc : x < 48) (y : UInt8) (hy : y.toNat = x) (w : World) :
    Calls Try.prog 13 #[.int .u8 (x : Int)] w fun e w' => e = .returned (.int .i64 (digI y)) ∧ w = w' := by
  have HV : Hid (val y = _) := show _ from val_low (by omega)
  have da : decide ((48 : Int) ≤ (x : Int)) = false := by simp; omega
  have de : decide ((97 : Int) ≤ (x : Int)) = false := by simp; omega
  have dg : decide ((65 : Int) ≤ (x : Int)) = false := by simp; omega
  clear hy
  go_enter Try.func13, Try.ntmps13
  go_wp2_with fail
  go_ret
  exact ⟨ret_num (by rw [digI_none HV.out]), rfl⟩

set_option maxHeartbeats 400000 in
theorem digit_num (x : Nat) (hx : x < 256) (hc : 48 ≤ x ∧ x ≤ 57) (y : UInt8) (hy : y.toNat = x) (w : World) :
    Calls Try.prog 13 #[.int .u8 (x : Int)] w fun e w' => e = .returned (.int .i64 (digI y)) ∧ w = w' := by
  have HV : Hid (val y = _) := show _ from val_num (by omega) (by omega)
  rw [hy] at HV
  have da : decide ((48 : Int) ≤ (x : Int)) = true := by simp; omega
  have db : decide ((x : Int) ≤ 57) = true := by simp; omega
  clear hy
  go_enter Try.func13, Try.ntmps13
  go_wp2_with fail
  go_ret
  exact ⟨ret_num (by rw [digI_some (by rw [HV.out]; omega), HV.out]; omega), rfl⟩

set_option maxHeartbeats 400000 in
theorem digit_mid (x : Nat) (hx : x < 256) (hc : 57 < x ∧ x < 65) (y : UInt8) (hy : y.toNat = x) (w : World) :
    Calls Try.prog 13 #[.int .u8 (x : Int)] w fun e w' => e = .returned (.int .i64 (digI y)) ∧ w = w' := by
  have HV : Hid (val y = _) := show _ from val_mid (by omega) (by omega)
  have da : decide ((48 : Int) ≤ (x : Int)) = true := by simp; omega
  have db : decide ((x : Int) ≤ 57) = false := by simp; omega
  have de : decide ((97 : Int) ≤ (x : Int)) = false := by simp; omega
  have dg : decide ((65 : Int) ≤ (x : Int)) = false := by simp; omega
  clear hy
  go_enter Try.func13, Try.ntmps13
  go_wp2_with fail
  go_ret
  exact ⟨ret_num (by rw [digI_none HV.out]), rfl⟩

set_option maxHeartbeats 400000 in
theorem digit_great (x : Nat) (hx : x < 256) (hc : 65 ≤ x ∧ x ≤ 70) (y : UInt8) (hy : y.toNat = x) (w : World) :
    Calls Try.prog 13 #[.int .u8 (x : Int)] w fun e w' => e = .returned (.int .i64 (digI y)) ∧ w = w' := by
  have HV : Hid (val y = _) := show _ from val_great (by omega) (by omega)
  rw [hy] at HV
  have da : decide ((48 : Int) ≤ (x : Int)) = true := by simp; omega
  have db : decide ((x : Int) ≤ 57) = false := by simp; omega
  have de : decide ((97 : Int) ≤ (x : Int)) = false := by simp; omega
  have dg : decide ((65 : Int) ≤ (x : Int)) = true := by simp; omega
  have dh : decide ((x : Int) ≤ 70) = true := by simp; omega
  clear hy
  go_enter Try.func13, Try.ntmps13
  go_wp2_with fail
  go_ret
  exact ⟨ret_num (by rw [digI_some (by rw [HV.out]; omega), HV.out]; omega), rfl⟩

set_option maxHeartbeats 400000 in
theorem digit_gap (x : Nat) (hx : x < 256) (hc : 70 < x ∧ x < 97) (y : UInt8) (hy : y.toNat = x) (w : World) :
    Calls Try.prog 13 #[.int .u8 (x : Int)] w fun e w' => e = .returned (.int .i64 (digI y)) ∧ w = w' := by
  have HV : Hid (val y = _) := show _ from val_gap (by omega) (by omega)
  have da : decide ((48 : Int) ≤ (x : Int)) = true := by simp; omega
  have db : decide ((x : Int) ≤ 57) = false := by simp; omega
  have de : decide ((97 : Int) ≤ (x : Int)) = false := by simp; omega
  have dg : decide ((65 : Int) ≤ (x : Int)) = true := by simp; omega
  have dh : decide ((x : Int) ≤ 70) = false := by simp; omega
  clear hy
  go_enter Try.func13, Try.ntmps13
  go_wp2_with fail
  go_ret
  exact ⟨ret_num (by rw [digI_none HV.out]), rfl⟩

set_option maxHeartbeats 400000 in
theorem digit_small (x : Nat) (hx : x < 256) (hc : 97 ≤ x ∧ x ≤ 102) (y : UInt8) (hy : y.toNat = x) (w : World) :
    Calls Try.prog 13 #[.int .u8 (x : Int)] w fun e w' => e = .returned (.int .i64 (digI y)) ∧ w = w' := by
  have HV : Hid (val y = _) := show _ from val_small (by omega) (by omega)
  rw [hy] at HV
  have da : decide ((48 : Int) ≤ (x : Int)) = true := by simp; omega
  have db : decide ((x : Int) ≤ 57) = false := by simp; omega
  have de : decide ((97 : Int) ≤ (x : Int)) = true := by simp; omega
  have df : decide ((x : Int) ≤ 102) = true := by simp; omega
  clear hy
  go_enter Try.func13, Try.ntmps13
  go_wp2_with fail
  go_ret
  exact ⟨ret_num (by rw [digI_some (by rw [HV.out]; omega), HV.out]; omega), rfl⟩

set_option maxHeartbeats 400000 in
theorem digit_high (x : Nat) (hx : x < 256) (hc : 102 < x) (y : UInt8) (hy : y.toNat = x) (w : World) :
    Calls Try.prog 13 #[.int .u8 (x : Int)] w fun e w' => e = .returned (.int .i64 (digI y)) ∧ w = w' := by
  have HV : Hid (val y = _) := show _ from val_high (by omega)
  have da : decide ((48 : Int) ≤ (x : Int)) = true := by simp; omega
  have db : decide ((x : Int) ≤ 57) = false := by simp; omega
  have de : decide ((97 : Int) ≤ (x : Int)) = true := by simp; omega
  have df : decide ((x : Int) ≤ 102) = false := by simp; omega
  have dg : decide ((65 : Int) ≤ (x : Int)) = true := by simp; omega
  have dh : decide ((x : Int) ≤ 70) = false := by simp; omega
  clear hy
  go_enter Try.func13, Try.ntmps13
  go_wp2_with fail
  go_ret
  exact ⟨ret_num (by rw [digI_none HV.out]), rfl⟩

theorem digit_any (c : UInt8) (w : World) :
    Calls Try.prog 13 #[.int .u8 (c.toNat : Int)] w fun e w' => e = .returned (.int .i64 (digI c)) ∧ w = w' := by
  have hx : c.toNat < 256 := c.toNat_lt
  by_cases h1 : c.toNat < 48
  · exact digit_low _ hx h1 c rfl w
  by_cases h2 : c.toNat ≤ 57
  · exact digit_num _ hx ⟨by omega, h2⟩ c rfl w
  by_cases h3 : c.toNat < 65
  · exact digit_mid _ hx ⟨by omega, h3⟩ c rfl w
  by_cases h4 : c.toNat ≤ 70
  · exact digit_great _ hx ⟨by omega, h4⟩ c rfl w
  by_cases h5 : c.toNat < 97
  · exact digit_gap _ hx ⟨by omega, h5⟩ c rfl w
  by_cases h6 : c.toNat ≤ 102
  · exact digit_small _ hx ⟨by omega, h6⟩ c rfl w
  exact digit_high _ hx (by omega) c rfl w

end Go.Proofs.Ytkdbonghmjejcaa
