/-
  What base.value and the document's sign do, one contract each; no condition beyond what each contract asks.
-/
import Derived.Test.YtlimkiebbmidiaaSixMath
import Derived.Test.YtlimkiebbmidiaaBuildStr
import Derived.Test.YtlimkiebbmidiaaOwnRow
import Derived.IntWalk
namespace Go.Proofs.Ytlimkiebbmidiaa
open Go.RowKit

/-- Bytes of memory that was there are still read as they were. -/
theorem Held.on {w w' : World} {A : Option Addr} {n : Nat} {bs : List UInt8} (h : Held w (· < w.heap.size) A n bs) (b : Below w.heap.size w w') : Held w' (· < w'.heap.size) A n bs :=
  (h.keep fun k hk => b.block k hk).weaken fun _ hk => Nat.lt_of_lt_of_le hk b.size

/-- A sign's number as base.value tells it. -/
def svV (c : UInt8) : Value := .tuple #[.int .u8 ((sz c : Nat) : Int), .bool (decide (sv c < 64))]
theorem svV_none {c : UInt8} (h : sv c = 64) : Ending.returned (.tuple #[.int .u8 0, .bool false]) = .returned (svV c) := by unfold svV sz; rw [h]; rfl
theorem svV_some {c : UInt8} {y : Int} (h : y = (sv c : Int)) (h' : sv c < 64) : Ending.returned (.tuple #[.int .u8 y, .bool true]) = .returned (svV c) := by
  unfold svV sz
  rw [h, if_pos h', decide_eq_true h']
theorem sv_r0 {c : UInt8} (h : 0 ≤ c.toNat) (h' : c.toNat ≤ 42) : sv c = 64 := by
  have hc : c.toNat < 256 := c.toNat_lt
  unfold sv
  (repeat' split) <;> omega
theorem sv_plus {c : UInt8} (h : 43 ≤ c.toNat) (h' : c.toNat ≤ 43) : sv c = 62 := by
  have hc : c.toNat < 256 := c.toNat_lt
  unfold sv
  (repeat' split) <;> omega
theorem sv_r1 {c : UInt8} (h : 44 ≤ c.toNat) (h' : c.toNat ≤ 46) : sv c = 64 := by
  have hc : c.toNat < 256 := c.toNat_lt
  unfold sv
  (repeat' split) <;> omega
theorem sv_slash {c : UInt8} (h : 47 ≤ c.toNat) (h' : c.toNat ≤ 47) : sv c = 63 := by
  have hc : c.toNat < 256 := c.toNat_lt
  unfold sv
  (repeat' split) <;> omega
theorem sv_num {c : UInt8} (h : 48 ≤ c.toNat) (h' : c.toNat ≤ 57) : sv c = c.toNat + 4 := by
  have hc : c.toNat < 256 := c.toNat_lt
  unfold sv
  (repeat' split) <;> omega
theorem sv_r2 {c : UInt8} (h : 58 ≤ c.toNat) (h' : c.toNat ≤ 64) : sv c = 64 := by
  have hc : c.toNat < 256 := c.toNat_lt
  unfold sv
  (repeat' split) <;> omega
theorem sv_great {c : UInt8} (h : 65 ≤ c.toNat) (h' : c.toNat ≤ 90) : sv c = c.toNat - 65 := by
  have hc : c.toNat < 256 := c.toNat_lt
  unfold sv
  (repeat' split) <;> omega
theorem sv_r3 {c : UInt8} (h : 91 ≤ c.toNat) (h' : c.toNat ≤ 96) : sv c = 64 := by
  have hc : c.toNat < 256 := c.toNat_lt
  unfold sv
  (repeat' split) <;> omega
theorem sv_small {c : UInt8} (h : 97 ≤ c.toNat) (h' : c.toNat ≤ 122) : sv c = c.toNat - 71 := by
  have hc : c.toNat < 256 := c.toNat_lt
  unfold sv
  (repeat' split) <;> omega
theorem sv_r4 {c : UInt8} (h : 123 ≤ c.toNat) (h' : c.toNat ≤ 255) : sv c = 64 := by
  have hc : c.toNat < 256 := c.toNat_lt
  unfold sv
  (repeat' split) <;> omega
set_option maxHeartbeats 400000 in
theorem value_r0 (x : Nat) (hx : x < 256) (hc : 0 ≤ x ∧ x ≤ 42) (y : UInt8) (hy : y.toNat = x) (w : World) :
    Calls Try.prog 23 #[.int .u8 (x : Int)] w fun e w' => e = .returned (svV y) ∧ w = w' := by
  have HV : Hid (sv y = _) := show _ from sv_r0 (by omega) (by omega)
  have da : decide ((65 : Int) ≤ (x : Int)) = false := by simp; omega
  have db : decide ((x : Int) ≤ 90) = true := by simp; omega
  have dc : decide ((97 : Int) ≤ (x : Int)) = false := by simp; omega
  have dd : decide ((x : Int) ≤ 122) = true := by simp; omega
  have de : decide ((48 : Int) ≤ (x : Int)) = false := by simp; omega
  have df : decide ((x : Int) ≤ 57) = true := by simp; omega
  have dg : ((x : Int) == 43) = false := by simp; omega
  have dh : ((x : Int) == 47) = false := by simp; omega
  clear hy
  go_enter Try.func23, Try.ntmps23
  go_wp2_with fail
  go_ret2
  exact ⟨svV_none HV.out, rfl⟩

set_option maxHeartbeats 400000 in
theorem value_plus (x : Nat) (hx : x < 256) (hc : 43 ≤ x ∧ x ≤ 43) (y : UInt8) (hy : y.toNat = x) (w : World) :
    Calls Try.prog 23 #[.int .u8 (x : Int)] w fun e w' => e = .returned (svV y) ∧ w = w' := by
  have HV : Hid (sv y = _) := show _ from sv_plus (by omega) (by omega)
  have da : decide ((65 : Int) ≤ (x : Int)) = false := by simp; omega
  have db : decide ((x : Int) ≤ 90) = true := by simp; omega
  have dc : decide ((97 : Int) ≤ (x : Int)) = false := by simp; omega
  have dd : decide ((x : Int) ≤ 122) = true := by simp; omega
  have de : decide ((48 : Int) ≤ (x : Int)) = false := by simp; omega
  have df : decide ((x : Int) ≤ 57) = true := by simp; omega
  have dg : ((x : Int) == 43) = true := by simp; omega
  have dh : ((x : Int) == 47) = false := by simp; omega
  clear hy
  go_enter Try.func23, Try.ntmps23
  go_wp2_with fail
  go_ret2
  exact ⟨svV_some (by rw [HV.out]; omega) (by rw [HV.out]; omega), rfl⟩

set_option maxHeartbeats 400000 in
theorem value_r1 (x : Nat) (hx : x < 256) (hc : 44 ≤ x ∧ x ≤ 46) (y : UInt8) (hy : y.toNat = x) (w : World) :
    Calls Try.prog 23 #[.int .u8 (x : Int)] w fun e w' => e = .returned (svV y) ∧ w = w' := by
  have HV : Hid (sv y = _) := show _ from sv_r1 (by omega) (by omega)
  have da : decide ((65 : Int) ≤ (x : Int)) = false := by simp; omega
  have db : decide ((x : Int) ≤ 90) = true := by simp; omega
  have dc : decide ((97 : Int) ≤ (x : Int)) = false := by simp; omega
  have dd : decide ((x : Int) ≤ 122) = true := by simp; omega
  have de : decide ((48 : Int) ≤ (x : Int)) = false := by simp; omega
  have df : decide ((x : Int) ≤ 57) = true := by simp; omega
  have dg : ((x : Int) == 43) = false := by simp; omega
  have dh : ((x : Int) == 47) = false := by simp; omega
  clear hy
  go_enter Try.func23, Try.ntmps23
  go_wp2_with fail
  go_ret2
  exact ⟨svV_none HV.out, rfl⟩

set_option maxHeartbeats 400000 in
theorem value_slash (x : Nat) (hx : x < 256) (hc : 47 ≤ x ∧ x ≤ 47) (y : UInt8) (hy : y.toNat = x) (w : World) :
    Calls Try.prog 23 #[.int .u8 (x : Int)] w fun e w' => e = .returned (svV y) ∧ w = w' := by
  have HV : Hid (sv y = _) := show _ from sv_slash (by omega) (by omega)
  have da : decide ((65 : Int) ≤ (x : Int)) = false := by simp; omega
  have db : decide ((x : Int) ≤ 90) = true := by simp; omega
  have dc : decide ((97 : Int) ≤ (x : Int)) = false := by simp; omega
  have dd : decide ((x : Int) ≤ 122) = true := by simp; omega
  have de : decide ((48 : Int) ≤ (x : Int)) = false := by simp; omega
  have df : decide ((x : Int) ≤ 57) = true := by simp; omega
  have dg : ((x : Int) == 43) = false := by simp; omega
  have dh : ((x : Int) == 47) = true := by simp; omega
  clear hy
  go_enter Try.func23, Try.ntmps23
  go_wp2_with fail
  go_ret2
  exact ⟨svV_some (by rw [HV.out]; omega) (by rw [HV.out]; omega), rfl⟩

set_option maxHeartbeats 400000 in
theorem value_num (x : Nat) (hx : x < 256) (hc : 48 ≤ x ∧ x ≤ 57) (y : UInt8) (hy : y.toNat = x) (w : World) :
    Calls Try.prog 23 #[.int .u8 (x : Int)] w fun e w' => e = .returned (svV y) ∧ w = w' := by
  have HV : Hid (sv y = _) := show _ from sv_num (by omega) (by omega)
  rw [hy] at HV
  have da : decide ((65 : Int) ≤ (x : Int)) = false := by simp; omega
  have db : decide ((x : Int) ≤ 90) = true := by simp; omega
  have dc : decide ((97 : Int) ≤ (x : Int)) = false := by simp; omega
  have dd : decide ((x : Int) ≤ 122) = true := by simp; omega
  have de : decide ((48 : Int) ≤ (x : Int)) = true := by simp; omega
  have df : decide ((x : Int) ≤ 57) = true := by simp; omega
  have dg : ((x : Int) == 43) = false := by simp; omega
  have dh : ((x : Int) == 47) = false := by simp; omega
  clear hy
  go_enter Try.func23, Try.ntmps23
  go_wp2_with fail
  go_ret2
  exact ⟨svV_some (by rw [HV.out]; omega) (by rw [HV.out]; omega), rfl⟩

set_option maxHeartbeats 400000 in
theorem value_r2 (x : Nat) (hx : x < 256) (hc : 58 ≤ x ∧ x ≤ 64) (y : UInt8) (hy : y.toNat = x) (w : World) :
    Calls Try.prog 23 #[.int .u8 (x : Int)] w fun e w' => e = .returned (svV y) ∧ w = w' := by
  have HV : Hid (sv y = _) := show _ from sv_r2 (by omega) (by omega)
  have da : decide ((65 : Int) ≤ (x : Int)) = false := by simp; omega
  have db : decide ((x : Int) ≤ 90) = true := by simp; omega
  have dc : decide ((97 : Int) ≤ (x : Int)) = false := by simp; omega
  have dd : decide ((x : Int) ≤ 122) = true := by simp; omega
  have de : decide ((48 : Int) ≤ (x : Int)) = true := by simp; omega
  have df : decide ((x : Int) ≤ 57) = false := by simp; omega
  have dg : ((x : Int) == 43) = false := by simp; omega
  have dh : ((x : Int) == 47) = false := by simp; omega
  clear hy
  go_enter Try.func23, Try.ntmps23
  go_wp2_with fail
  go_ret2
  exact ⟨svV_none HV.out, rfl⟩

set_option maxHeartbeats 400000 in
theorem value_great (x : Nat) (hx : x < 256) (hc : 65 ≤ x ∧ x ≤ 90) (y : UInt8) (hy : y.toNat = x) (w : World) :
    Calls Try.prog 23 #[.int .u8 (x : Int)] w fun e w' => e = .returned (svV y) ∧ w = w' := by
  have HV : Hid (sv y = _) := show _ from sv_great (by omega) (by omega)
  rw [hy] at HV
  have da : decide ((65 : Int) ≤ (x : Int)) = true := by simp; omega
  have db : decide ((x : Int) ≤ 90) = true := by simp; omega
  have dc : decide ((97 : Int) ≤ (x : Int)) = false := by simp; omega
  have dd : decide ((x : Int) ≤ 122) = true := by simp; omega
  have de : decide ((48 : Int) ≤ (x : Int)) = true := by simp; omega
  have df : decide ((x : Int) ≤ 57) = false := by simp; omega
  have dg : ((x : Int) == 43) = false := by simp; omega
  have dh : ((x : Int) == 47) = false := by simp; omega
  clear hy
  go_enter Try.func23, Try.ntmps23
  go_wp2_with fail
  go_ret2
  exact ⟨svV_some (by rw [HV.out]; omega) (by rw [HV.out]; omega), rfl⟩

set_option maxHeartbeats 400000 in
theorem value_r3 (x : Nat) (hx : x < 256) (hc : 91 ≤ x ∧ x ≤ 96) (y : UInt8) (hy : y.toNat = x) (w : World) :
    Calls Try.prog 23 #[.int .u8 (x : Int)] w fun e w' => e = .returned (svV y) ∧ w = w' := by
  have HV : Hid (sv y = _) := show _ from sv_r3 (by omega) (by omega)
  have da : decide ((65 : Int) ≤ (x : Int)) = true := by simp; omega
  have db : decide ((x : Int) ≤ 90) = false := by simp; omega
  have dc : decide ((97 : Int) ≤ (x : Int)) = false := by simp; omega
  have dd : decide ((x : Int) ≤ 122) = true := by simp; omega
  have de : decide ((48 : Int) ≤ (x : Int)) = true := by simp; omega
  have df : decide ((x : Int) ≤ 57) = false := by simp; omega
  have dg : ((x : Int) == 43) = false := by simp; omega
  have dh : ((x : Int) == 47) = false := by simp; omega
  clear hy
  go_enter Try.func23, Try.ntmps23
  go_wp2_with fail
  go_ret2
  exact ⟨svV_none HV.out, rfl⟩

set_option maxHeartbeats 400000 in
theorem value_small (x : Nat) (hx : x < 256) (hc : 97 ≤ x ∧ x ≤ 122) (y : UInt8) (hy : y.toNat = x) (w : World) :
    Calls Try.prog 23 #[.int .u8 (x : Int)] w fun e w' => e = .returned (svV y) ∧ w = w' := by
  have HV : Hid (sv y = _) := show _ from sv_small (by omega) (by omega)
  rw [hy] at HV
  have da : decide ((65 : Int) ≤ (x : Int)) = true := by simp; omega
  have db : decide ((x : Int) ≤ 90) = false := by simp; omega
  have dc : decide ((97 : Int) ≤ (x : Int)) = true := by simp; omega
  have dd : decide ((x : Int) ≤ 122) = true := by simp; omega
  have de : decide ((48 : Int) ≤ (x : Int)) = true := by simp; omega
  have df : decide ((x : Int) ≤ 57) = false := by simp; omega
  have dg : ((x : Int) == 43) = false := by simp; omega
  have dh : ((x : Int) == 47) = false := by simp; omega
  clear hy
  go_enter Try.func23, Try.ntmps23
  go_wp2_with fail
  go_ret2
  exact ⟨svV_some (by rw [HV.out]; omega) (by rw [HV.out]; omega), rfl⟩

set_option maxHeartbeats 400000 in
theorem value_r4 (x : Nat) (hx : x < 256) (hc : 123 ≤ x ∧ x ≤ 255) (y : UInt8) (hy : y.toNat = x) (w : World) :
    Calls Try.prog 23 #[.int .u8 (x : Int)] w fun e w' => e = .returned (svV y) ∧ w = w' := by
  have HV : Hid (sv y = _) := show _ from sv_r4 (by omega) (by omega)
  have da : decide ((65 : Int) ≤ (x : Int)) = true := by simp; omega
  have db : decide ((x : Int) ≤ 90) = false := by simp; omega
  have dc : decide ((97 : Int) ≤ (x : Int)) = true := by simp; omega
  have dd : decide ((x : Int) ≤ 122) = false := by simp; omega
  have de : decide ((48 : Int) ≤ (x : Int)) = true := by simp; omega
  have df : decide ((x : Int) ≤ 57) = false := by simp; omega
  have dg : ((x : Int) == 43) = false := by simp; omega
  have dh : ((x : Int) == 47) = false := by simp; omega
  clear hy
  go_enter Try.func23, Try.ntmps23
  go_wp2_with fail
  go_ret2
  exact ⟨svV_none HV.out, rfl⟩

theorem value_any (c : UInt8) (w : World) :
    Calls Try.prog 23 #[.int .u8 (c.toNat : Int)] w fun e w' => e = .returned (svV c) ∧ w = w' := by
  have hx : c.toNat < 256 := c.toNat_lt
  by_cases h_r0 : c.toNat ≤ 42
  · exact value_r0 _ hx ⟨by omega, h_r0⟩ c rfl w
  by_cases h_plus : c.toNat ≤ 43
  · exact value_plus _ hx ⟨by omega, h_plus⟩ c rfl w
  by_cases h_r1 : c.toNat ≤ 46
  · exact value_r1 _ hx ⟨by omega, h_r1⟩ c rfl w
  by_cases h_slash : c.toNat ≤ 47
  · exact value_slash _ hx ⟨by omega, h_slash⟩ c rfl w
  by_cases h_num : c.toNat ≤ 57
  · exact value_num _ hx ⟨by omega, h_num⟩ c rfl w
  by_cases h_r2 : c.toNat ≤ 64
  · exact value_r2 _ hx ⟨by omega, h_r2⟩ c rfl w
  by_cases h_great : c.toNat ≤ 90
  · exact value_great _ hx ⟨by omega, h_great⟩ c rfl w
  by_cases h_r3 : c.toNat ≤ 96
  · exact value_r3 _ hx ⟨by omega, h_r3⟩ c rfl w
  by_cases h_small : c.toNat ≤ 122
  · exact value_small _ hx ⟨by omega, h_small⟩ c rfl w
  exact value_r4 _ hx ⟨by omega, by omega⟩ c rfl w
theorem value_same (c : UInt8) (w : World) :
    Calls Try.prog 23 #[.int .u8 (c.toNat : Int)] w fun e w' => e = .returned (.tuple #[.int .u8 ((sz c : Nat) : Int), .bool (decide (sv c < 64))]) ∧ w' = w :=
  (value_any c w).mono fun _ _ ⟨he, hw⟩ => ⟨he, hw.symm⟩

end Go.Proofs.Ytlimkiebbmidiaa
