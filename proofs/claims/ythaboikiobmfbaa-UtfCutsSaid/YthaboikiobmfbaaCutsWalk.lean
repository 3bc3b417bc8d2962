/-
  The law UtfCuts, walked: it returns true and writes nothing that was there; for every slice of bytes and every int.
-/
import Derived.Test.YthaboikiobmfbaaAwake2
namespace Go.Proofs.Ythaboikiobmfbaa
open Go.RowKit

set_option maxHeartbeats 1000000 in
theorem cuts_out (a0 : Option Addr) (len cap : Nat) (k : Int) (w : World) (h : 1000 < len) :
    Calls Try.prog 6 #[.slice a0 len cap, .int .i64 k] w fun e w' => e = .returned (.bool true) ∧ Below w.heap.size w w' := by
  have d1 : decide ((1000 : Int) < (len : Int)) = true := by simp; omega
  go_enter Try.func6, Try.ntmps6
  go_wp2_with fail
  refine (awake_any _).mono ?_
  rintro e w1 ⟨rfl, B1⟩
  go_wp2_with fail
  go_ret
  exact ⟨rfl, B1⟩

set_option maxHeartbeats 1000000 in
theorem cuts_walk (a0 : Option Addr) (len cap : Nat) (bs : List UInt8) (k : Int) (w : World) (hh : Held w (· < w.heap.size) a0 len bs) (hcap : len ≤ cap) (hl : len ≤ 1000) :
    Calls Try.prog 6 #[.slice a0 len cap, .int .i64 k] w fun e w' => e = .returned (.bool true) ∧ Below w.heap.size w w' := by
  have HH := Lib.hid hh
  clear hh
  have d1 : decide ((1000 : Int) < (len : Int)) = false := by simp; omega
  go_enter Try.func6, Try.ntmps6
  go_wp2_with fail
  refine (awake_any _).mono ?_
  rintro e w1 ⟨rfl, B1⟩
  go_wp2_with fail
  refine (ctext_any a0 len cap bs k w1 (HH.out.on B1) hcap (by omega)).mono ?_
  rintro e w2 ⟨rfl, B2⟩
  have B2' : Below w.heap.size w w2 := B1.trans (B2.mono B1.size)
  clear B2
  go_wp2_with fail
  refine (ref_ctext_any a0 len cap bs k w2 (HH.out.on B2') hcap (by omega)).mono ?_
  rintro e w3 ⟨rfl, B3⟩
  have B3' : Below w.heap.size w w3 := B2'.trans (B3.mono B2'.size)
  clear B3
  generalize ctext bs k = r
  obtain ⟨r1, r2, r3⟩ := r
  go_wp2_with fail
  go_ret
  exact ⟨by simp, B3'⟩

theorem cuts_any (a0 : Option Addr) (len cap : Nat) (bs : List UInt8) (k : Int) (w : World) (hh : Held w (· < w.heap.size) a0 len bs) (hcap : len ≤ cap) :
    Calls Try.prog 6 #[.slice a0 len cap, .int .i64 k] w fun e w' => e = .returned (.bool true) ∧ Below w.heap.size w w' := by
  by_cases h : 1000 < len
  · exact cuts_out a0 len cap k w h
  · exact cuts_walk a0 len cap bs k w hh hcap (by omega)

end Go.Proofs.Ythaboikiobmfbaa
