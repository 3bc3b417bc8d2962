/-
  The law BaseJoins, walked: it returns true and writes nothing that was there; for all slices of bytes.
-/
import Derived.Test.YtlimkiebbmidiaaAwake4
namespace Go.Proofs.Ytlimkiebbmidiaa
open Go.RowKit

set_option maxHeartbeats 1000000 in
theorem joins_out (a0 : Option Addr) (len0 cap0 : Nat) (a1 : Option Addr) (len1 cap1 : Nat) (w : World) (h : 300 < len0 ∨ 300 < len1 ∨ ¬ len0 % 3 = 0) :
    Calls Try.prog 7 #[.slice a0 len0 cap0, .slice a1 len1 cap1] w fun e w' => e = .returned (.bool true) ∧ Below w.heap.size w w' := by
  by_cases c : 300 < len0
  · have d1 : decide ((300 : Int) < (len0 : Int)) = true := by simp; omega
    clear h
    go_enter Try.func7, Try.ntmps7
    go_wp2_with fail
    refine (awake_any _).mono ?_
    rintro e w1 ⟨rfl, B1⟩
    go_wp2_with fail
    go_ret
    exact ⟨rfl, B1⟩
  · have d1 : decide ((300 : Int) < (len0 : Int)) = false := by simp; omega
    by_cases c' : 300 < len1
    · have d2 : decide ((300 : Int) < (len1 : Int)) = true := by simp; omega
      clear h
      go_enter Try.func7, Try.ntmps7
      go_wp2_with fail
      refine (awake_any _).mono ?_
      rintro e w1 ⟨rfl, B1⟩
      go_wp2_with fail
      go_ret
      exact ⟨rfl, B1⟩
    · have d2 : decide ((300 : Int) < (len1 : Int)) = false := by simp; omega
      have d3 : ((len0 : Int) % 3 != 0) = true := by simp; omega
      clear h
      go_enter Try.func7, Try.ntmps7
      go_wp2_with fail
      refine (awake_any _).mono ?_
      rintro e w1 ⟨rfl, B1⟩
      go_wp2_with fail
      go_ret
      exact ⟨rfl, B1⟩

set_option maxHeartbeats 1000000 in
theorem joins_walk (a0 : Option Addr) (len0 cap0 : Nat) (xs : List UInt8) (a1 : Option Addr) (len1 cap1 : Nat) (bs : List UInt8) (w : World) (hh0 : Held w (· < w.heap.size) a0 len0 xs) (hh1 : Held w (· < w.heap.size) a1 len1 bs) (hl0 : len0 ≤ 300) (hl1 : len1 ≤ 300) (h3 : len0 % 3 = 0) :
    Calls Try.prog 7 #[.slice a0 len0 cap0, .slice a1 len1 cap1] w fun e w' => e = .returned (.bool true) ∧ Below w.heap.size w w' := by
  obtain ⟨i0, hi0, hz0, hz1, hz2⟩ := info_parts info_u8
  have HZ := Lib.hid hz0; have HI := Lib.hid hi0; have H1 := Lib.hid hz1; have H2 := Lib.hid hz2
  have HA := Lib.hid hh0; have HB := Lib.hid hh1
  clear hh0 hh1 hz0 hi0 hz1 hz2
  have d1 : decide ((300 : Int) < (len0 : Int)) = false := by simp; omega
  have d2 : decide ((300 : Int) < (len1 : Int)) = false := by simp; omega
  have d3 : ((len0 : Int) % 3 != 0) = false := by simp; omega
  go_enter Try.func7, Try.ntmps7
  go_wp2_with fail
  refine (awake_any _).mono ?_
  rintro e w3 ⟨rfl, B3'⟩
  have HA3 : Hid (Held (w3.alloc (.cells #[] 5)) (· < w.heap.size) a0 len0 xs) := HA.out.keep (fun k hk => (Below.heap_alloc _ _ _ (Nat.lt_of_lt_of_le hk B3'.size)).trans (B3'.block k hk))
  have HO3 : Hid ((w3.alloc (.cells #[] 5)).ownsRow w3.heap.size 5 1 (.slice (some ⟨w3.heap.size, 0, none⟩) 0 0) 0 []) := World.ownsRow_lit w3 #[] 0 (Nat.le_refl _) (Nat.zero_le _) rfl
  have L1 : Hid ((cellsOf xs).length = len0) := show _ = _ by rw [cellsOf_length, HA.out.1]
  have L2 : 0 + len0 ≤ maxLen := by simp only [maxLen]; omega
  have L3 : (0 + len0) * 1 ≤ 140737488355328 := by omega
  have M1 : Hid ((cellsOf bs).length = len1) := show _ = _ by rw [cellsOf_length, HB.out.1]
  have M2 : len0 + len1 ≤ maxLen := by simp only [maxLen]; omega
  have M3 : (len0 + len1) * 1 ≤ 140737488355328 := by omega
  go_wp2_with (first | (at_builtin; refine wpList_append_held _ rfl (.tmp 21) (.tmp 22) 22 rfl w3.heap.size 5 i0 _ 1 Try.underlying22 HI.out HZ.out H1.out H2.out rfl _ 0 [] rfl HO3.out a0 len0 cap0 (cellsOf xs) rfl L1.out HA3.out.cellsAt (cellsOf_one xs) L2 L3 (by simp) ?_))
  intro A4 c4 w4 ho4 hg4 _
  have B4 : Below w.heap.size w w4 := (B3'.alloc B3'.size _).grown hg4 (by have := B3'.size; simp; omega) (fun k hk => Nat.le_trans B3'.size (HO3.out.lt k hk).1)
  have HO4 : Hid (w4.ownsRow w3.heap.size 5 1 (.slice A4 len0 c4) len0 (cellsOf xs)) := ho4
  have h34 : w3.heap.size ≤ w4.heap.size := by have := hg4.size; simp at this; omega
  have HB4 : Hid (Held w4 (· < w.heap.size) a1 len1 bs) := HB.out.keep (fun k hk => B4.block k hk)
  clear ho4 hg4 HO3 HA3
  have h3b : w.heap.size ≤ w3.heap.size := B3'.size
  clear B3'
  generalize w3.heap.size = base at *
  go_wp2_with (first | (at_builtin; refine wpList_append_held _ rfl (.tmp 23) (.tmp 24) 22 rfl base 5 i0 _ 1 Try.underlying22 HI.out HZ.out H1.out H2.out rfl _ len0 (cellsOf xs) rfl HO4.out a1 len1 cap1 (cellsOf bs) rfl M1.out HB4.out.cellsAt (cellsOf_one bs) M2 M3 h34 ?_))
  intro A5 c5 w5 ho5 hg5 _
  have B5 : Below w.heap.size w w5 := B4.grown hg5 B4.size (fun k hk => Nat.le_trans h3b (HO4.out.lt k hk).1)
  have H5 : Hid (Held w5 (· < w5.heap.size) A5 (len0 + len1) (xs ++ bs)) := by
    have := ho5.out
    rw [← cellsOf_append] at this
    exact own_bytes this
  clear ho5 hg5 HO4 HB4 B4 h34 h3b
  go_wp2_with fail
  refine (text_any A5 (len0 + len1) c5 (xs ++ bs) w5 H5.out (by omega)).mono ?_
  rintro e w6 ⟨rfl, B6⟩
  have B6' : Below w.heap.size w w6 := B5.trans (B6.mono B5.size)
  clear B6 H5 B5
  rw [b64_append xs bs (by rw [HA.out.1]; exact h3)]
  go_wp2_with fail
  refine (text_any a0 len0 cap0 xs w6 (HA.out.on B6') (by omega)).mono ?_
  rintro e w7 ⟨rfl, B7⟩
  have B7' : Below w.heap.size w w7 := B6'.trans (B7.mono B6'.size)
  clear B7 B6'
  go_wp2_with fail
  refine (text_any a1 len1 cap1 bs w7 (HB.out.on B7') (by omega)).mono ?_
  rintro e w8 ⟨rfl, B8⟩
  have B8' : Below w.heap.size w w8 := B7'.trans (B8.mono B7'.size)
  clear B8 B7'
  have hq : ¬ 9223372036854775807 < (b64 xs).length + (b64 bs).length := by rw [b64_length, b64_length, HA.out.1, HB.out.1]; omega
  generalize b64 xs = u at *
  generalize b64 bs = v at *
  go_wp2_with fail
  go_ret
  exact ⟨by rw [cat_str]; simp, B8'⟩

theorem joins_any (a0 : Option Addr) (len0 cap0 : Nat) (xs : List UInt8) (a1 : Option Addr) (len1 cap1 : Nat) (bs : List UInt8) (w : World) (hh0 : Held w (· < w.heap.size) a0 len0 xs) (hh1 : Held w (· < w.heap.size) a1 len1 bs) :
    Calls Try.prog 7 #[.slice a0 len0 cap0, .slice a1 len1 cap1] w fun e w' => e = .returned (.bool true) ∧ Below w.heap.size w w' := by
  by_cases h : 300 < len0 ∨ 300 < len1 ∨ ¬ len0 % 3 = 0
  · exact joins_out a0 len0 cap0 a1 len1 cap1 w h
  · exact joins_walk a0 len0 cap0 xs a1 len1 cap1 bs w hh0 hh1 (by omega) (by omega) (by omega)

end Go.Proofs.Ytlimkiebbmidiaa
