/-
  The law HexaBack, walked: it returns true and writes nothing that was there; for every slice of bytes.
-/
import Derived.Test.YtkdbonghmjejcaaAwake3
import Derived.Test.YtkdbonghmjejcaaOfStr
namespace Go.Proofs.Ytkdbonghmjejcaa
open Go.RowKit

set_option maxHeartbeats 1000000 in
theorem back_out (a0 : Option Addr) (len0 cap0 : Nat) (w : World) (h : 500 < len0) :
    Calls Try.prog 4 #[.slice a0 len0 cap0] w fun e w' => e = .returned (.bool true) ∧ Below w.heap.size w w' := by
  have d1 : decide ((500 : Int) < (len0 : Int)) = true := by simp; omega
  go_enter Try.func4, Try.ntmps4
  go_wp2_with fail
  refine (awake_any _).mono ?_
  rintro e w1 ⟨rfl, B1⟩
  go_wp2_with fail
  go_ret
  exact ⟨rfl, B1⟩

/-- The first k of them are great. -/
def half (u : List UInt8) (k : Nat) : List UInt8 := (u.take k).map great ++ u.drop k
theorem half_length (u : List UInt8) (k : Nat) : (half u k).length = u.length := by simp [half]; omega
theorem half_at (u : List UInt8) (k : Nat) (h : k < u.length) : (half u k).getD k 0 = u.getD k 0 := by
  unfold half
  rw [List.getD_eq_getElem?_getD, List.getElem?_append_right (by simp; omega)]
  simp [List.getD, Nat.min_eq_left (Nat.le_of_lt h)]
theorem half_next (u : List UInt8) (k : Nat) (h : k < u.length) : half u (k + 1) = (half u k).set k (great (u.getD k 0)) := by
  unfold half
  rw [List.set_append_right _ _ (by simp; omega), List.take_add_one, List.getElem?_eq_getElem h, Option.toList_some, List.map_append, List.drop_eq_getElem_cons h]
  rw [show (List.map great (u.take k)).length = k by simp; omega, Nat.sub_self, List.set_cons_zero]
  simp [List.getD, h]
theorem half_same (u : List UInt8) (k : Nat) (h : k < u.length) (hg : great (u.getD k 0) = u.getD k 0) : half u (k + 1) = half u k := by
  rw [half_next u k h, hg, ← half_at u k h]
  have hk : k < (half u k).length := by rw [half_length]; exact h
  have e : (half u k).getD k 0 = (half u k)[k] := by simp [List.getD, hk]
  rw [e]
  exact List.set_getElem_self hk
theorem half_all (u : List UInt8) : half u u.length = u.map great := by simp [half]
theorem great_not {c : UInt8} (h : c.toNat < 97 ∨ 102 < c.toNat) : great c = c := by unfold great; rw [if_neg (by omega)]
theorem great_is {c : UInt8} (h : 97 ≤ c.toNat) (h' : c.toNat ≤ 102) : ((great c).toNat : Int) = (c.toNat : Int) - 32 := by
  unfold great
  rw [if_pos ⟨h, h'⟩, UInt8.toNat_ofNat', Nat.mod_eq_of_lt (by omega)]
  omega

def Back3Rel (w : World) (u : List UInt8) (g : Nat) (i : Value) (wr : World) : Prop :=
  ∃ k : Nat, k ≤ u.length ∧ i = .int .i64 (k : Int) ∧ RowAt wr g (half u k) ∧ Below w.heap.size w wr

set_option maxHeartbeats 4000000 in
theorem back_walk (a0 : Option Addr) (len0 cap0 : Nat) (xs : List UInt8) (w : World) (hh0 : Held w (· < w.heap.size) a0 len0 xs) (h0 : len0 ≤ 500) :
    Calls Try.prog 4 #[.slice a0 len0 cap0] w fun e w' => e = .returned (.bool true) ∧ Below w.heap.size w w' := by
  have HA := Lib.hid hh0
  clear hh0
  have d1 : decide ((500 : Int) < (len0 : Int)) = false := by simp; omega
  go_enter Try.func4, Try.ntmps4
  go_wp2_with fail
  refine (awake_any _).mono ?_
  rintro e w1 ⟨rfl, B1⟩
  go_wp2_with fail
  refine (text_any a0 len0 cap0 xs w1 (HA.out.on B1) (by omega)).mono ?_
  rintro e w2 ⟨rfl, B2⟩
  have B2' : Below w.heap.size w w2 := B1.trans (B2.mono B1.size)
  clear B2 B1
  have HU := Lib.hid (unhex_hex xs)
  have HG := Lib.hid (unhex_great xs)
  have HUL : Hid ((hex xs).length = 2 * len0) := show _ = _ by rw [hex_length, HA.out.1]
  have hub : (hex xs).length ≤ 1000 := by rw [HUL.out]; omega
  generalize hex xs = u at *
  obtain ⟨cc, w3, hcv, hrow, B3⟩ := bytes_of_str u w2
  have hwg : w.heap.size ≤ w2.heap.size := B2'.size
  have B3' : Below w.heap.size w w3 := B2'.trans (B3.mono B2'.size)
  have HRow := Lib.hid hrow
  clear hrow B3 B2'
  go_wp2_with fail
  generalize w2.heap.size = g at *
  clear hcv
  go_loopw [5] (fun i wr => Back3Rel w u g i wr) (fun i _ => u.length - (intOf i).toNat)
  case atStart => exact ⟨0, Nat.zero_le _, rfl, HRow.out, B3'⟩
  case round =>
    obtain ⟨k, hk, rfl, hr, Br⟩ := hrel
    have HR := Lib.hid hr
    clear hr
    by_cases hlt : k < u.length
    · have d2 : decide ((k : Int) < (u.length : Int)) = true := by simp; omega
      have d2n : decide (k < u.length) = true := by simp; omega
      have hc := HR.out.cell (i := k) (by rw [half_length]; exact hlt)
      have hf := HR.out.frozen (i := k) (by rw [half_length]; exact hlt)
      have HS := Lib.hid (HR.out.set (i := k) (by rw [half_length]; exact hlt) (great (u.getD k 0)))
      rw [← half_next u k hlt] at HS
      rw [half_at u k hlt] at hc
      have HH := Lib.hid (half_same u k hlt)
      obtain ⟨c, hce⟩ : ∃ c, c = u.getD k 0 := ⟨_, rfl⟩
      rw [← hce] at hc HS HH
      clear hce
      have hx : c.toNat < 256 := c.toNat_lt
      obtain ⟨x, hxe⟩ : ∃ x, x = c.toNat := ⟨_, rfl⟩
      rw [← hxe] at hc hx
      by_cases c1 : 97 ≤ x
      · have e1 : decide ((97 : Int) ≤ (x : Int)) = true := by simp; omega
        by_cases c2 : x ≤ 102
        · have e2 : decide ((x : Int) ≤ 102) = true := by simp; omega
          rw [great_is (by omega) (by omega), ← hxe] at HS
          have BS : Below w.heap.size w (wr.setCell ⟨g, k, none⟩ (.int .u8 ((x : Int) - 32))) := Br.setCell (p := ⟨g, k, none⟩) hwg _
          clear hxe HH
          go_wp2_with fail
          go_roundw
          case rel => exact ⟨k + 1, by omega, by go_num, HS.out, BS⟩
          case measure => simp [intOf]; omega
        · have e2 : decide ((x : Int) ≤ 102) = false := by simp; omega
          have HH' := Lib.hid (HH.out (great_not (by omega)))
          clear hxe HS HH
          go_wp2_with fail
          go_roundw
          case rel => exact ⟨k + 1, by omega, by go_num, by rw [HH'.out]; exact HR.out, Br⟩
          case measure => simp [intOf]; omega
      · have e1 : decide ((97 : Int) ≤ (x : Int)) = false := by simp; omega
        have HH' := Lib.hid (HH.out (great_not (by omega)))
        clear hxe HS HH
        go_wp2_with fail
        go_roundw
        case rel => exact ⟨k + 1, by omega, by go_num, by rw [HH'.out]; exact HR.out, Br⟩
        case measure => simp [intOf]; omega
    · obtain rfl : k = u.length := by omega
      have d2 : decide ((u.length : Int) < (u.length : Int)) = false := by simp
      rw [half_all] at HR
      go_wp2_with fail
      refine (bytes_any u (by rw [HUL.out]; omega) wr).mono ?_
      rw [HU.out]
      rintro e w4 ⟨A4, c4, rfl, g4, B4⟩
      simp only [Option.getD_some, Option.isSome_some] at g4 ⊢
      have B4' : Below w.heap.size w w4 := Br.trans (B4.mono Br.size)
      have H4 := Lib.hid g4
      have s1 := str_of ((HR.out.held (n := u.length) (by simp)).on B4)
      clear g4 B4 Br
      go_wp2_with fail
      refine (bytes_any (u.map great) (by rw [List.length_map, HUL.out]; omega) w4).mono ?_
      rw [HG.out]
      rintro e w5 ⟨A5, c5, rfl, g5, B5⟩
      simp only [Option.getD_some, Option.isSome_some] at g5 ⊢
      have B5' : Below w.heap.size w w5 := B4'.trans (B5.mono B4'.size)
      have s2 := str_of (H4.out.on B5) c4
      have s3 := str_of g5 c5
      have s4 := str_of (HA.out.on B5') cap0
      have hul := HUL.out
      clear g5 B5 B4' H4 s1
      rw [HA.out.1] at s2 s3 ⊢
      go_wp2_with fail
      go_ret
      exact ⟨rfl, B5'⟩

theorem back_any (a0 : Option Addr) (len0 cap0 : Nat) (xs : List UInt8) (w : World) (hh0 : Held w (· < w.heap.size) a0 len0 xs) :
    Calls Try.prog 4 #[.slice a0 len0 cap0] w fun e w' => e = .returned (.bool true) ∧ Below w.heap.size w w' := by
  by_cases h : 500 < len0
  · exact back_out a0 len0 cap0 w h
  · exact back_walk a0 len0 cap0 xs w hh0 (by omega)

end Go.Proofs.Ytkdbonghmjejcaa
