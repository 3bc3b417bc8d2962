/-
  The law BaseApart, walked: it returns true and writes nothing that was there; for all slices of bytes.
-/
import Derived.Test.YtlimkiebbmidiaaAwake4
import Derived.Deep.RegionHeld3
namespace Go.Proofs.Ytlimkiebbmidiaa
open Go.RowKit

set_option maxHeartbeats 1000000 in
theorem apart_out (a0 : Option Addr) (len0 cap0 : Nat) (a1 : Option Addr) (len1 cap1 : Nat) (w : World) (h : 300 < len0 ∨ 300 < len1) :
    Calls Try.prog 6 #[.slice a0 len0 cap0, .slice a1 len1 cap1] w fun e w' => e = .returned (.bool true) ∧ Below w.heap.size w w' := by
  by_cases c : 300 < len0
  · have d1 : decide ((300 : Int) < (len0 : Int)) = true := by simp; omega
    clear h
    go_enter Try.func6, Try.ntmps6
    go_wp2_with fail
    refine (awake_any _).mono ?_
    rintro e w1 ⟨rfl, B1⟩
    go_wp2_with fail
    go_ret
    exact ⟨rfl, B1⟩
  · have d1 : decide ((300 : Int) < (len0 : Int)) = false := by simp; omega
    have d2 : decide ((300 : Int) < (len1 : Int)) = true := by simp; omega
    clear h
    go_enter Try.func6, Try.ntmps6
    go_wp2_with fail
    refine (awake_any _).mono ?_
    rintro e w1 ⟨rfl, B1⟩
    go_wp2_with fail
    go_ret
    exact ⟨rfl, B1⟩

theorem apart_eq (xs bs : List UInt8) : ((b64 xs == b64 bs) == (xs == bs)) = true := by
  by_cases h : xs = bs
  · subst h
    simp
  · have h1 : ¬ b64 xs = b64 bs := fun e => h (b64_inj e)
    have e1 : (b64 xs == b64 bs) = false := by simpa using h1
    have e2 : (xs == bs) = false := by simpa using h
    rw [e1, e2]
    rfl

set_option maxHeartbeats 2000000 in
theorem apart_walk (a0 : Option Addr) (len0 cap0 : Nat) (xs : List UInt8) (a1 : Option Addr) (len1 cap1 : Nat) (bs : List UInt8) (w : World) (hh0 : Held w (· < w.heap.size) a0 len0 xs) (hh1 : Held w (· < w.heap.size) a1 len1 bs) (hl0 : len0 ≤ 300) (hl1 : len1 ≤ 300) :
    Calls Try.prog 6 #[.slice a0 len0 cap0, .slice a1 len1 cap1] w fun e w' => e = .returned (.bool true) ∧ Below w.heap.size w w' := by
  have HA := Lib.hid hh0; have HB := Lib.hid hh1
  clear hh0 hh1
  have d1 : decide ((300 : Int) < (len0 : Int)) = false := by simp; omega
  have d2 : decide ((300 : Int) < (len1 : Int)) = false := by simp; omega
  have HE : Hid (((b64 xs == b64 bs) == (xs == bs)) = true) := Lib.hid (apart_eq xs bs)
  go_enter Try.func6, Try.ntmps6
  go_wp2_with fail
  refine (awake_any _).mono ?_
  rintro e w1 ⟨rfl, B1⟩
  go_wp2_with fail
  have B1d : Below w.heap.size w w1.drew := B1.drew
  have sa1 := str_of (HA.out.on B1) cap0
  have sb1 := str_of (HB.out.on B1) cap1
  have sa1d := str_of (HA.out.on B1d) cap0
  have sb1d := str_of (HB.out.on B1d) cap1
  go_region_held3 (fun W : World => (convert 22 9 (.slice a0 len0 cap0)).run Try.prog W = .ok (.string ⟨xs.toArray⟩) W ∧ (convert 22 9 (.slice a1 len1 cap1)).run Try.prog W = .ok (.string ⟨bs.toArray⟩) W)
    (first | exact ⟨sa1, sb1⟩ | exact ⟨sa1d, sb1d⟩ | exact ⟨sa2, sb2⟩ | exact ⟨sa3, sb3⟩)
    (first
      | (go_at_call 12
         refine (text_any a1 len1 cap1 bs w2 (HB.out.on B2') (by omega)).mono ?_
         rintro e w3 ⟨rfl, B3⟩
         have B3' : Below w.heap.size w w3 := B2'.trans (B3.mono B2'.size)
         have sa3 := str_of (HA.out.on B3') cap0
         have sb3 := str_of (HB.out.on B3') cap1
         clear B3)
      | (go_at_call 12
         refine (text_any a0 len0 cap0 xs w1.drew (HA.out.on B1d) (by omega)).mono ?_
         rintro e w2 ⟨rfl, B2⟩
         have B2' : Below w.heap.size w w2 := B1d.trans (B2.mono B1d.size)
         have sa2 := str_of (HA.out.on B2') cap0
         have sb2 := str_of (HB.out.on B2') cap1
         clear B2))
  all_goals
    go_wp2_with fail
    go_ret
    exact ⟨congrArg (fun b => Ending.returned (Value.bool b)) HE.out, B3'⟩

theorem apart_any (a0 : Option Addr) (len0 cap0 : Nat) (xs : List UInt8) (a1 : Option Addr) (len1 cap1 : Nat) (bs : List UInt8) (w : World) (hh0 : Held w (· < w.heap.size) a0 len0 xs) (hh1 : Held w (· < w.heap.size) a1 len1 bs) :
    Calls Try.prog 6 #[.slice a0 len0 cap0, .slice a1 len1 cap1] w fun e w' => e = .returned (.bool true) ∧ Below w.heap.size w w' := by
  by_cases h : 300 < len0 ∨ 300 < len1
  · exact apart_out a0 len0 cap0 a1 len1 cap1 w h
  · exact apart_walk a0 len0 cap0 xs a1 len1 cap1 bs w hh0 hh1 (by omega) (by omega)

end Go.Proofs.Ytlimkiebbmidiaa
