/-
  The law UtfTells, walked: it returns true and writes nothing that was there; for every slice of bytes and every int.
-/
import Derived.Test.YthaboikiobmfbaaAwake2
namespace Go.Proofs.Ythaboikiobmfbaa
open Go.RowKit

set_option maxHeartbeats 1000000 in
theorem tells_out (a0 : Option Addr) (len cap : Nat) (k : Int) (w : World) (h : 1000 < len) :
    Calls Try.prog 3 #[.slice a0 len cap, .int .i64 k] w fun e w' => e = .returned (.bool true) ∧ Below w.heap.size w w' := by
  have d1 : decide ((1000 : Int) < (len : Int)) = true := by simp; omega
  go_enter Try.func3, Try.ntmps3
  go_wp2_with fail
  refine (awake_any _).mono ?_
  rintro e w1 ⟨rfl, B1⟩
  go_wp2_with fail
  go_ret
  exact ⟨rfl, B1⟩

set_option maxHeartbeats 1000000 in
theorem tells_walk (a0 : Option Addr) (len cap : Nat) (bs : List UInt8) (k : Int) (w : World) (hh : Held w (· < w.heap.size) a0 len bs) (hl : len ≤ 1000) :
    Calls Try.prog 3 #[.slice a0 len cap, .int .i64 k] w fun e w' => e = .returned (.bool true) ∧ Below w.heap.size w w' := by
  have HH := Lib.hid hh
  clear hh
  have d1 : decide ((1000 : Int) < (len : Int)) = false := by simp; omega
  go_enter Try.func3, Try.ntmps3
  go_wp2_with fail
  refine (awake_any _).mono ?_
  rintro e w1 ⟨rfl, B1⟩
  go_wp2_with fail
  refine (rune_any a0 len cap bs k w1 (HH.out.on B1) (by omega)).mono ?_
  rintro e w2 ⟨rfl, B2⟩
  have B2' : Below w.heap.size w w2 := B1.trans (B2.mono B1.size)
  clear B2
  go_wp2_with fail
  refine (ref_rune_any a0 len cap bs k w2 (HH.out.on B2') (by omega)).mono ?_
  rintro e w3 ⟨rfl, rfl⟩
  generalize runeI bs k = r
  obtain ⟨r1, r2⟩ := r
  go_wp2_with fail
  refine (check_any a0 len cap bs w2 (HH.out.on B2') (by omega)).mono ?_
  rintro e w3 ⟨rfl, B3⟩
  have B3' : Below w.heap.size w w3 := B2'.trans (B3.mono B2'.size)
  clear B3
  go_wp2_with fail
  refine (ref_check_any a0 len cap bs w3 (HH.out.on B3') (by omega)).mono ?_
  rintro e w4 ⟨rfl, rfl⟩
  generalize stop bs 0 = s
  generalize wholeB bs = t
  go_wp2_with fail
  refine (count_any a0 len cap bs w3 (HH.out.on B3') (by omega)).mono ?_
  rintro e w4 ⟨rfl, B4⟩
  have B4' : Below w.heap.size w w4 := B3'.trans (B4.mono B3'.size)
  clear B4
  go_wp2_with fail
  refine (ref_count_any a0 len cap bs w4 (HH.out.on B4') (by omega)).mono ?_
  rintro e w5 ⟨rfl, rfl⟩
  generalize cnt bs 0 = u
  go_wp2_with fail
  go_ret
  exact ⟨by simp, B4'⟩

theorem tells_any (a0 : Option Addr) (len cap : Nat) (bs : List UInt8) (k : Int) (w : World) (hh : Held w (· < w.heap.size) a0 len bs) :
    Calls Try.prog 3 #[.slice a0 len cap, .int .i64 k] w fun e w' => e = .returned (.bool true) ∧ Below w.heap.size w w' := by
  by_cases h : 1000 < len
  · exact tells_out a0 len cap k w h
  · exact tells_walk a0 len cap bs k w hh (by omega)

end Go.Proofs.Ythaboikiobmfbaa
