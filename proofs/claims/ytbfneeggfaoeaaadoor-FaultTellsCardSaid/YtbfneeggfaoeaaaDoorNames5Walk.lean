/-
  The walk of the law FaultNames; no condition beyond what the package-level variables hold.
-/
import Derived.Test.YtbfneeggfaoeaaaDoorAwake5
namespace Go.Proofs.YtbfneeggfaoeaaaDoor
open Go.RowKit

theorem bytes_eq (s : ByteArray) : s = ⟨s.data.toList.toArray⟩ := by cases s; simp

set_option maxHeartbeats 2000000 in
theorem names_walk (e : Int) (l : List UInt8) (w : World) (hL : Laid w) :
    Calls Tryd.prog 3 #[.int .i64 e, .string ⟨l.toArray⟩] w fun x w' => x = .returned (.bool true) ∧ Below w.heap.size w w' := by
  go_enter Tryd.func3, Tryd.ntmps3
  go_wp2_with fail
  refine (awake_any w hL).mono ?_
  rintro x w1 ⟨rfl, B1⟩
  have L1 := hL.on B1 hL.size
  by_cases hl : 100 < l.length
  · have d1 : decide (100 < (l.length : Int)) = true := by simp; omega
    have d1n : decide (100 < l.length) = true := by simp; omega
    go_wp2_with fail
    go_ret
    exact ⟨rfl, B1⟩
  · have d1 : decide (100 < (l.length : Int)) = false := by simp; omega
    have d1n : decide (100 < l.length) = false := by simp; omega
    go_wp2_with fail
    refine (code_any l w1 L1).mono ?_
    rintro x w2 ⟨rfl, hw2⟩
    subst w2
    rw [codeR_eq]
    generalize hc0 : (codeOf l).getD 0 = c0
    generalize hk0 : (codeOf l).isSome = k0
    have HC0 := Lib.hid hc0; have HK0 := Lib.hid hk0
    clear hc0 hk0
    go_wp2_with fail
    refine (refCode_any l w1).mono ?_
    rintro x w2 ⟨rfl, k2⟩
    rw [codeR_eq, HC0.out, HK0.out]
    have B2 : Below w.heap.size w w2 := B1.trans (k2.mono B1.size)
    have L2 := hL.on B2 hL.size
    clear k2 B1 L1
    go_wp2_with fail
    refine (name_any e w2 L2).mono ?_
    rintro x w3 ⟨rfl, hw3⟩
    subst w3
    go_wp2_with fail
    refine (refName_any e w2).mono ?_
    rintro x w3 ⟨rfl, k3⟩
    have B3 : Below w.heap.size w w3 := B2.trans (k3.mono B2.size)
    clear k3 B2 L2
    generalize nameOf e = nm
    go_wp2_with fail
    go_ret
    exact ⟨rfl, B3⟩

end Go.Proofs.YtbfneeggfaoeaaaDoor
