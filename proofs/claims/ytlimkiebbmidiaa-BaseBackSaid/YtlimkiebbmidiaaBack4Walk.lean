/-
  The law BaseBack, walked: it returns true and writes nothing that was there; for all slices of bytes.
-/
import Derived.Test.YtlimkiebbmidiaaAwake4
namespace Go.Proofs.Ytlimkiebbmidiaa
open Go.RowKit

set_option maxHeartbeats 1000000 in
theorem back_any (a0 : Option Addr) (len0 cap0 : Nat) (xs : List UInt8) (w : World) (hh0 : Held w (· < w.heap.size) a0 len0 xs) :
    Calls Try.prog 4 #[.slice a0 len0 cap0] w fun e w' => e = .returned (.bool true) ∧ Below w.heap.size w w' := by
  by_cases c : 600 < len0
  · have d1 : decide ((600 : Int) < (len0 : Int)) = true := by simp; omega
    clear hh0
    go_enter Try.func4, Try.ntmps4
    go_wp2_with fail
    refine (awake_any _).mono ?_
    rintro e w1 ⟨rfl, B1⟩
    go_wp2_with fail
    go_ret
    exact ⟨rfl, B1⟩
  · have d1 : decide ((600 : Int) < (len0 : Int)) = false := by simp; omega
    have HA := Lib.hid hh0
    clear hh0
    go_enter Try.func4, Try.ntmps4
    go_wp2_with fail
    refine (awake_any _).mono ?_
    rintro e w1 ⟨rfl, B1⟩
    go_wp2_with fail
    refine (text_any a0 len0 cap0 xs w1 (HA.out.on B1) (by omega)).mono ?_
    rintro e w2 ⟨rfl, B2⟩
    have B2' : Below w.heap.size w w2 := B1.trans (B2.mono B1.size)
    clear B2 B1
    have hl : (b64 xs).length = (len0 + 2) / 3 * 4 := by rw [b64_length, HA.out.1]
    have hu := unb_b64 xs
    generalize b64 xs = t at *
    go_wp2_with fail
    refine (bytes_any t (by omega) w2).mono ?_
    rw [hu]
    rintro e w3 ⟨A3, c3, rfl, g3, B3⟩
    have B3' : Below w.heap.size w w3 := B2'.trans (B3.mono B2'.size)
    simp only [Option.getD_some, Option.isSome_some] at g3 ⊢
    have s1 := str_of g3 c3
    have s2 := str_of (HA.out.on B3') cap0
    have d2 : ((t.length : Int) == ((len0 : Int) + 2) / 3 * 4) = true := by simp; omega
    clear B3 B2' g3 hu
    go_wp2_with fail
    go_ret
    exact ⟨by simp, B3'⟩

end Go.Proofs.Ytlimkiebbmidiaa
