/-
  The law BaseTells, walked: it returns true and writes nothing that was there; for all slices of bytes and all texts.
-/
import Derived.Test.YtlimkiebbmidiaaAwake4
import Derived.Test.YtlimkiebbmidiaaSixY
namespace Go.Proofs.Ytlimkiebbmidiaa
open Go.RowKit

set_option maxHeartbeats 600000 in
theorem tells_out (a0 : Option Addr) (len0 cap0 : Nat) (l : List UInt8) (w : World) (h : 600 < len0 ∨ 600 < l.length) :
    Calls Try.prog 3 #[.slice a0 len0 cap0, .string ⟨l.toArray⟩] w fun e w' => e = .returned (.bool true) ∧ Below w.heap.size w w' := by
  by_cases c : 600 < len0
  · have d1 : decide ((600 : Int) < (len0 : Int)) = true := by simp; omega
    clear h
    go_enter Try.func3, Try.ntmps3
    go_wp2_with fail
    refine (awake_any _).mono ?_
    rintro e w1 ⟨rfl, B1⟩
    go_wp2_with fail
    go_ret
    exact ⟨rfl, B1⟩
  · have d1 : decide ((600 : Int) < (len0 : Int)) = false := by simp; omega
    have d2 : decide ((600 : Int) < (l.length : Int)) = true := by simp; omega
    clear h
    go_enter Try.func3, Try.ntmps3
    go_wp2_with fail
    refine (awake_any _).mono ?_
    rintro e w1 ⟨rfl, B1⟩
    go_wp2_with fail
    go_ret
    exact ⟨rfl, B1⟩

set_option maxHeartbeats 600000 in
theorem tells_walk (a0 : Option Addr) (len0 cap0 : Nat) (xs : List UInt8) (l : List UInt8) (w : World) (hh0 : Held w (· < w.heap.size) a0 len0 xs) (h0 : len0 ≤ 600) (h1 : l.length ≤ 600) :
    Calls Try.prog 3 #[.slice a0 len0 cap0, .string ⟨l.toArray⟩] w fun e w' => e = .returned (.bool true) ∧ Below w.heap.size w w' := by
  have HA := Lib.hid hh0
  clear hh0
  have d1 : decide ((600 : Int) < (len0 : Int)) = false := by simp; omega
  have d2 : decide ((600 : Int) < (l.length : Int)) = false := by simp; omega
  go_enter Try.func3, Try.ntmps3
  go_wp2_with fail
  refine (awake_any _).mono ?_
  rintro e w1 ⟨rfl, B1⟩
  go_wp2_with fail
  refine (bytes_any l (by omega) w1).mono ?_
  rintro e w2 ⟨A2, c2, rfl, g2, B2⟩
  have B2' : Below w.heap.size w w2 := B1.trans (B2.mono B1.size)
  have H2 := Lib.hid g2
  clear B2 g2 B1
  go_wp2_with fail
  refine (refUnbase_any l (by omega) w2).mono ?_
  rintro e w3 ⟨A3, c3, rfl, g3, B3⟩
  have B3' : Below w.heap.size w w3 := B2'.trans (B3.mono B2'.size)
  have H2' := Lib.hid (H2.out.on B3)
  have H3 := Lib.hid g3
  clear B3 g3 B2' H2
  generalize (unb l).isSome = t at *
  generalize (unb l).getD [] = m at *
  go_wp2_with fail
  refine (text_any a0 len0 cap0 xs w3 (HA.out.on B3') (by omega)).mono ?_
  rintro e w4 ⟨rfl, B4⟩
  have B4' : Below w.heap.size w w4 := B3'.trans (B4.mono B3'.size)
  have H2'' := Lib.hid (H2'.out.on B4)
  have H3' := Lib.hid (H3.out.on B4)
  clear B4 B3' H2' H3
  go_wp2_with fail
  refine (refBase_any a0 len0 cap0 xs w4 (HA.out.on B4') (by omega)).mono ?_
  rintro e w5 ⟨rfl, B5⟩
  have B5' : Below w.heap.size w w5 := B4'.trans (B5.mono B4'.size)
  have s1 := str_of (H2''.out.on B5) c2
  have s2 := str_of (H3'.out.on B5) c3
  clear B5 B4' H2'' H3'
  have d3 : (t == t) = true := by simp
  generalize b64 xs = u at *
  go_wp2_with fail
  go_ret
  exact ⟨rfl, B5'⟩

theorem tells_any (a0 : Option Addr) (len0 cap0 : Nat) (xs : List UInt8) (s : ByteArray) (w : World) (hh0 : Held w (· < w.heap.size) a0 len0 xs) :
    Calls Try.prog 3 #[.slice a0 len0 cap0, .string s] w fun e w' => e = .returned (.bool true) ∧ Below w.heap.size w w' := by
  obtain ⟨l, rfl⟩ : ∃ l : List UInt8, s = ⟨l.toArray⟩ := ⟨s.data.toList, by cases s; simp⟩
  by_cases h : 600 < len0 ∨ 600 < l.length
  · exact tells_out a0 len0 cap0 l w h
  · exact tells_walk a0 len0 cap0 xs l w hh0 (by omega) (by omega)

end Go.Proofs.Ytlimkiebbmidiaa
