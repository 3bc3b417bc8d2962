/-
  The law BaseSpoilt, walked: it returns true and writes nothing that was there; for all slices of bytes, all places and all bytes.
-/
import Derived.Test.YtlimkiebbmidiaaAwake4
import Derived.Test.YtlimkiebbmidiaaOfStr
namespace Go.Proofs.Ytlimkiebbmidiaa
open Go.RowKit

/-- []byte(s), its room. -/
theorem bytes_of_str_room (u : List UInt8) (w : World) : ∃ c w', (convert 9 22 (.string ⟨u.toArray⟩)).run Try.prog w = .ok (.slice (some ⟨w.heap.size, 0, none⟩) u.length c) w' ∧ RowAt w' w.heap.size u ∧ Below w.heap.size w w' ∧ u.length ≤ c := by
  refine ⟨_, _, run_bytes_of_string w 9 22 5 ⟨u.toArray⟩ Try.underlying9 Try.underlying22 Try.underlying5, ?_, ?_, ?_⟩
  · obtain ⟨m, hm⟩ : ∃ m, m = grownCap w (⟨u.toArray⟩ : ByteArray).size 0 5 := ⟨_, rfl⟩
    rw [← hm]
    have e : bytesRow ⟨u.toArray⟩ m = (cellsOf u ++ List.replicate (m - u.length) (Value.int .u8 0)).toArray := by
      unfold bytesRow
      simp [cellsOf, ByteArray.size]
    rw [e]
    exact ⟨List.replicate (m - u.length) (Value.int .u8 0), _, heap_alloc_new w.drew _, by simp [cellsOf_length]⟩
  · exact (Below.refl _ _).drew.alloc (Nat.le_refl _) _
  · exact Nat.le_trans (by simp [ByteArray.size]) (grownCap_ge w _ 0 5)

set_option maxHeartbeats 1000000 in
theorem spoilt_out0 (a0 : Option Addr) (len0 cap0 : Nat) (k z : Int) (w : World) (h : len0 < 1) :
    Calls Try.prog 8 #[.slice a0 len0 cap0, .int .i64 k, .int .u8 z] w fun e w' => e = .returned (.bool true) ∧ Below w.heap.size w w' := by
  have d0 : decide ((len0 : Int) < 1) = true := by simp; omega
  go_enter Try.func8, Try.ntmps8
  go_wp2_with fail
  refine (awake_any _).mono ?_
  rintro e w1 ⟨rfl, B1⟩
  go_wp2_with fail
  go_ret
  exact ⟨rfl, B1⟩

set_option maxHeartbeats 1000000 in
theorem spoilt_out1 (a0 : Option Addr) (len0 cap0 : Nat) (k z : Int) (w : World) (h : 1 ≤ len0 ∧ 300 < len0) :
    Calls Try.prog 8 #[.slice a0 len0 cap0, .int .i64 k, .int .u8 z] w fun e w' => e = .returned (.bool true) ∧ Below w.heap.size w w' := by
  have d0 : decide ((len0 : Int) < 1) = false := by simp; omega
  have d1 : decide ((300 : Int) < (len0 : Int)) = true := by simp; omega
  go_enter Try.func8, Try.ntmps8
  go_wp2_with fail
  refine (awake_any _).mono ?_
  rintro e w1 ⟨rfl, B1⟩
  go_wp2_with fail
  go_ret
  exact ⟨rfl, B1⟩

set_option maxHeartbeats 1000000 in
theorem spoilt_out2 (a0 : Option Addr) (len0 cap0 : Nat) (k z : Int) (w : World) (h : 1 ≤ len0 ∧ len0 ≤ 300 ∧ k < 0) :
    Calls Try.prog 8 #[.slice a0 len0 cap0, .int .i64 k, .int .u8 z] w fun e w' => e = .returned (.bool true) ∧ Below w.heap.size w w' := by
  have d0 : decide ((len0 : Int) < 1) = false := by simp; omega
  have d1 : decide ((300 : Int) < (len0 : Int)) = false := by simp; omega
  have d2 : decide (k < 0) = true := by simp; omega
  go_enter Try.func8, Try.ntmps8
  go_wp2_with fail
  refine (awake_any _).mono ?_
  rintro e w1 ⟨rfl, B1⟩
  go_wp2_with fail
  go_ret
  exact ⟨rfl, B1⟩

set_option maxHeartbeats 1000000 in
theorem spoilt_i1 (a0 : Option Addr) (len0 cap0 : Nat) (k : Int) (x : Nat) (w : World) (h : 1 ≤ len0 ∧ len0 ≤ 300 ∧ 0 ≤ k) (hx : 43 ≤ x ∧ x ≤ 43) :
    Calls Try.prog 8 #[.slice a0 len0 cap0, .int .i64 k, .int .u8 (x : Int)] w fun e w' => e = .returned (.bool true) ∧ Below w.heap.size w w' := by
  have d0 : decide ((len0 : Int) < 1) = false := by simp; omega
  have d1 : decide ((300 : Int) < (len0 : Int)) = false := by simp; omega
  have d2 : decide (k < 0) = false := by simp; omega
  have e48 : decide ((48 : Int) ≤ (x : Int)) = false := by simp; omega
  have e57 : decide ((x : Int) ≤ 57) = true := by simp; omega
  have e97 : decide ((97 : Int) ≤ (x : Int)) = false := by simp; omega
  have e122 : decide ((x : Int) ≤ 122) = true := by simp; omega
  have e65 : decide ((65 : Int) ≤ (x : Int)) = false := by simp; omega
  have e90 : decide ((x : Int) ≤ 90) = true := by simp; omega
  have e43 : ((x : Int) == 43) = true := by simp; omega
  have e47 : ((x : Int) == 47) = false := by simp; omega
  have e61 : ((x : Int) == 61) = false := by simp; omega
  go_enter Try.func8, Try.ntmps8
  go_wp2_with fail
  refine (awake_any _).mono ?_
  rintro e w1 ⟨rfl, B1⟩
  go_wp2_with fail
  go_ret
  exact ⟨rfl, B1⟩

set_option maxHeartbeats 1000000 in
theorem spoilt_i3 (a0 : Option Addr) (len0 cap0 : Nat) (k : Int) (x : Nat) (w : World) (h : 1 ≤ len0 ∧ len0 ≤ 300 ∧ 0 ≤ k) (hx : 47 ≤ x ∧ x ≤ 47) :
    Calls Try.prog 8 #[.slice a0 len0 cap0, .int .i64 k, .int .u8 (x : Int)] w fun e w' => e = .returned (.bool true) ∧ Below w.heap.size w w' := by
  have d0 : decide ((len0 : Int) < 1) = false := by simp; omega
  have d1 : decide ((300 : Int) < (len0 : Int)) = false := by simp; omega
  have d2 : decide (k < 0) = false := by simp; omega
  have e48 : decide ((48 : Int) ≤ (x : Int)) = false := by simp; omega
  have e57 : decide ((x : Int) ≤ 57) = true := by simp; omega
  have e97 : decide ((97 : Int) ≤ (x : Int)) = false := by simp; omega
  have e122 : decide ((x : Int) ≤ 122) = true := by simp; omega
  have e65 : decide ((65 : Int) ≤ (x : Int)) = false := by simp; omega
  have e90 : decide ((x : Int) ≤ 90) = true := by simp; omega
  have e43 : ((x : Int) == 43) = false := by simp; omega
  have e47 : ((x : Int) == 47) = true := by simp; omega
  have e61 : ((x : Int) == 61) = false := by simp; omega
  go_enter Try.func8, Try.ntmps8
  go_wp2_with fail
  refine (awake_any _).mono ?_
  rintro e w1 ⟨rfl, B1⟩
  go_wp2_with fail
  go_ret
  exact ⟨rfl, B1⟩

set_option maxHeartbeats 1000000 in
theorem spoilt_i4 (a0 : Option Addr) (len0 cap0 : Nat) (k : Int) (x : Nat) (w : World) (h : 1 ≤ len0 ∧ len0 ≤ 300 ∧ 0 ≤ k) (hx : 48 ≤ x ∧ x ≤ 57) :
    Calls Try.prog 8 #[.slice a0 len0 cap0, .int .i64 k, .int .u8 (x : Int)] w fun e w' => e = .returned (.bool true) ∧ Below w.heap.size w w' := by
  have d0 : decide ((len0 : Int) < 1) = false := by simp; omega
  have d1 : decide ((300 : Int) < (len0 : Int)) = false := by simp; omega
  have d2 : decide (k < 0) = false := by simp; omega
  have e48 : decide ((48 : Int) ≤ (x : Int)) = true := by simp; omega
  have e57 : decide ((x : Int) ≤ 57) = true := by simp; omega
  have e97 : decide ((97 : Int) ≤ (x : Int)) = false := by simp; omega
  have e122 : decide ((x : Int) ≤ 122) = true := by simp; omega
  have e65 : decide ((65 : Int) ≤ (x : Int)) = false := by simp; omega
  have e90 : decide ((x : Int) ≤ 90) = true := by simp; omega
  have e43 : ((x : Int) == 43) = false := by simp; omega
  have e47 : ((x : Int) == 47) = false := by simp; omega
  have e61 : ((x : Int) == 61) = false := by simp; omega
  go_enter Try.func8, Try.ntmps8
  go_wp2_with fail
  refine (awake_any _).mono ?_
  rintro e w1 ⟨rfl, B1⟩
  go_wp2_with fail
  go_ret
  exact ⟨rfl, B1⟩

set_option maxHeartbeats 1000000 in
theorem spoilt_i6 (a0 : Option Addr) (len0 cap0 : Nat) (k : Int) (x : Nat) (w : World) (h : 1 ≤ len0 ∧ len0 ≤ 300 ∧ 0 ≤ k) (hx : 61 ≤ x ∧ x ≤ 61) :
    Calls Try.prog 8 #[.slice a0 len0 cap0, .int .i64 k, .int .u8 (x : Int)] w fun e w' => e = .returned (.bool true) ∧ Below w.heap.size w w' := by
  have d0 : decide ((len0 : Int) < 1) = false := by simp; omega
  have d1 : decide ((300 : Int) < (len0 : Int)) = false := by simp; omega
  have d2 : decide (k < 0) = false := by simp; omega
  have e48 : decide ((48 : Int) ≤ (x : Int)) = true := by simp; omega
  have e57 : decide ((x : Int) ≤ 57) = false := by simp; omega
  have e97 : decide ((97 : Int) ≤ (x : Int)) = false := by simp; omega
  have e122 : decide ((x : Int) ≤ 122) = true := by simp; omega
  have e65 : decide ((65 : Int) ≤ (x : Int)) = false := by simp; omega
  have e90 : decide ((x : Int) ≤ 90) = true := by simp; omega
  have e43 : ((x : Int) == 43) = false := by simp; omega
  have e47 : ((x : Int) == 47) = false := by simp; omega
  have e61 : ((x : Int) == 61) = true := by simp; omega
  go_enter Try.func8, Try.ntmps8
  go_wp2_with fail
  refine (awake_any _).mono ?_
  rintro e w1 ⟨rfl, B1⟩
  go_wp2_with fail
  go_ret
  exact ⟨rfl, B1⟩

set_option maxHeartbeats 1000000 in
theorem spoilt_i8 (a0 : Option Addr) (len0 cap0 : Nat) (k : Int) (x : Nat) (w : World) (h : 1 ≤ len0 ∧ len0 ≤ 300 ∧ 0 ≤ k) (hx : 65 ≤ x ∧ x ≤ 90) :
    Calls Try.prog 8 #[.slice a0 len0 cap0, .int .i64 k, .int .u8 (x : Int)] w fun e w' => e = .returned (.bool true) ∧ Below w.heap.size w w' := by
  have d0 : decide ((len0 : Int) < 1) = false := by simp; omega
  have d1 : decide ((300 : Int) < (len0 : Int)) = false := by simp; omega
  have d2 : decide (k < 0) = false := by simp; omega
  have e48 : decide ((48 : Int) ≤ (x : Int)) = true := by simp; omega
  have e57 : decide ((x : Int) ≤ 57) = false := by simp; omega
  have e97 : decide ((97 : Int) ≤ (x : Int)) = false := by simp; omega
  have e122 : decide ((x : Int) ≤ 122) = true := by simp; omega
  have e65 : decide ((65 : Int) ≤ (x : Int)) = true := by simp; omega
  have e90 : decide ((x : Int) ≤ 90) = true := by simp; omega
  have e43 : ((x : Int) == 43) = false := by simp; omega
  have e47 : ((x : Int) == 47) = false := by simp; omega
  have e61 : ((x : Int) == 61) = false := by simp; omega
  go_enter Try.func8, Try.ntmps8
  go_wp2_with fail
  refine (awake_any _).mono ?_
  rintro e w1 ⟨rfl, B1⟩
  go_wp2_with fail
  go_ret
  exact ⟨rfl, B1⟩

set_option maxHeartbeats 1000000 in
theorem spoilt_i10 (a0 : Option Addr) (len0 cap0 : Nat) (k : Int) (x : Nat) (w : World) (h : 1 ≤ len0 ∧ len0 ≤ 300 ∧ 0 ≤ k) (hx : 97 ≤ x ∧ x ≤ 122) :
    Calls Try.prog 8 #[.slice a0 len0 cap0, .int .i64 k, .int .u8 (x : Int)] w fun e w' => e = .returned (.bool true) ∧ Below w.heap.size w w' := by
  have d0 : decide ((len0 : Int) < 1) = false := by simp; omega
  have d1 : decide ((300 : Int) < (len0 : Int)) = false := by simp; omega
  have d2 : decide (k < 0) = false := by simp; omega
  have e48 : decide ((48 : Int) ≤ (x : Int)) = true := by simp; omega
  have e57 : decide ((x : Int) ≤ 57) = false := by simp; omega
  have e97 : decide ((97 : Int) ≤ (x : Int)) = true := by simp; omega
  have e122 : decide ((x : Int) ≤ 122) = true := by simp; omega
  have e65 : decide ((65 : Int) ≤ (x : Int)) = true := by simp; omega
  have e90 : decide ((x : Int) ≤ 90) = false := by simp; omega
  have e43 : ((x : Int) == 43) = false := by simp; omega
  have e47 : ((x : Int) == 47) = false := by simp; omega
  have e61 : ((x : Int) == 61) = false := by simp; omega
  go_enter Try.func8, Try.ntmps8
  go_wp2_with fail
  refine (awake_any _).mono ?_
  rintro e w1 ⟨rfl, B1⟩
  go_wp2_with fail
  go_ret
  exact ⟨rfl, B1⟩

theorem not_fit {c : UInt8} (h : ¬ (48 ≤ c.toNat ∧ c.toNat ≤ 57)) (h1 : ¬ (97 ≤ c.toNat ∧ c.toNat ≤ 122)) (h2 : ¬ (65 ≤ c.toNat ∧ c.toNat ≤ 90)) (h3 : c.toNat ≠ 43) (h4 : c.toNat ≠ 47) (h5 : c.toNat ≠ 61) : ¬ Fit c := by
  rintro (h6 | h6)
  · unfold sv at h6
    rw [if_neg h2, if_neg h1, if_neg h, if_neg h3, if_neg h4] at h6
    omega
  · subst h6
    exact h5 rfl

set_option maxHeartbeats 4000000 in
theorem spoilt_i0 (a0 : Option Addr) (len0 cap0 : Nat) (xs : List UInt8) (k : Int) (x : Nat) (c : UInt8) (hxc : x = c.toNat) (w : World) (hh0 : Held w (· < w.heap.size) a0 len0 xs) (h : 1 ≤ len0 ∧ len0 ≤ 300 ∧ 0 ≤ k) (hx : 0 ≤ x ∧ x ≤ 42) :
    Calls Try.prog 8 #[.slice a0 len0 cap0, .int .i64 k, .int .u8 (x : Int)] w fun e w' => e = .returned (.bool true) ∧ Below w.heap.size w w' := by
  have d0 : decide ((len0 : Int) < 1) = false := by simp; omega
  have d1 : decide ((300 : Int) < (len0 : Int)) = false := by simp; omega
  have d2 : decide (k < 0) = false := by simp; omega
  have e48 : decide ((48 : Int) ≤ (x : Int)) = false := by simp; omega
  have e57 : decide ((x : Int) ≤ 57) = true := by simp; omega
  have e97 : decide ((97 : Int) ≤ (x : Int)) = false := by simp; omega
  have e122 : decide ((x : Int) ≤ 122) = true := by simp; omega
  have e65 : decide ((65 : Int) ≤ (x : Int)) = false := by simp; omega
  have e90 : decide ((x : Int) ≤ 90) = true := by simp; omega
  have e43 : ((x : Int) == 43) = false := by simp; omega
  have e47 : ((x : Int) == 47) = false := by simp; omega
  have e61 : ((x : Int) == 61) = false := by simp; omega
  have HF : Hid (¬ Fit c) := show _ from not_fit (by omega) (by omega) (by omega) (by omega) (by omega) (by omega)
  have HA := Lib.hid hh0
  have hxl : x < 256 := by omega
  have HXC := Lib.hid hxc
  clear hh0 hxc
  go_enter Try.func8, Try.ntmps8
  go_wp2_with fail
  refine (awake_any _).mono ?_
  rintro e w1 ⟨rfl, B1⟩
  go_wp2_with fail
  refine (text_any a0 len0 cap0 xs w1 (HA.out.on B1) (by omega)).mono ?_
  rintro e w2 ⟨rfl, B2⟩
  have B2' : Below w.heap.size w w2 := B1.trans (B2.mono B1.size)
  clear B2 B1 e48 e57 e97 e122 e65 e90 e43 e47 e61 d0 d1 d2
  obtain ⟨cc, w3, hcv, hrow, B3, hroom⟩ := bytes_of_str_room (b64 xs) w2
  have hwg : w.heap.size ≤ w2.heap.size := B2'.size
  have B3' : Below w.heap.size w w3 := B2'.trans (B3.mono B2'.size)
  obtain ⟨L, hL⟩ : ∃ L, L = (b64 xs).length := ⟨_, rfl⟩
  have hL4 : L % 4 = 0 ∧ 4 ≤ L ∧ L ≤ 2000 := by rw [hL, b64_length, HA.out.1]; omega
  have HFit := Lib.hid (b64_fit xs)
  generalize b64 xs = t at *
  rw [← hL] at hcv hroom
  have HL := Lib.hid hL
  clear hL
  obtain ⟨j, hj⟩ : ∃ j, j = k.toNat % L := ⟨_, rfl⟩
  have hjl : j < L := by rw [hj]; exact Nat.mod_lt _ (by omega)
  have hkm : k.tmod (L : Int) = (j : Int) := by
    obtain ⟨kn, rfl⟩ := Int.eq_ofNat_of_zero_le h.2.2
    rw [hj, Int.tmod_eq_emod_of_nonneg (by omega)]
    simp
  clear hj
  have HR3 := Lib.hid hrow
  have H3 : Hid (Held w3 (· < w3.heap.size) (some ⟨w2.heap.size, 0, none⟩) L t) := Lib.hid (hrow.held HL.out.symm)
  have s1 := str_of H3.out cc
  have hq : ¬ 9223372036854775807 < t.length + 1 := by rw [← HL.out]; omega
  have d4 : decide ((L : Int) < 4) = false := by simp; omega
  have d5 : ((L : Int) == 0) = false := by simp; omega
  clear hrow B3 B2'
  go_wp2_with fail
  rw [cat_str t [65]]
  refine (bytes_any (t ++ [65]) (by rw [List.length_append, ← HL.out]; simp; omega) w3).mono ?_
  rw [unb_odd (t ++ [65]) (by rw [List.length_append, ← HL.out]; simp; omega)]
  rintro e w4 ⟨A4, c4, rfl, g4, B4⟩
  simp only [Option.getD_none, Option.isSome_none, List.length_nil] at g4 ⊢
  have B4' : Below w.heap.size w w4 := B3'.trans (B4.mono B3'.size)
  have HR4 := Lib.hid (HR3.out.keep (B4.block _ HR3.out.lt))
  have H4 : Hid (Held w4 (· < w4.heap.size) (some ⟨w2.heap.size, 0, none⟩) L t) := Lib.hid (HR4.out.held HL.out.symm)
  have H4p : Hid (Held w4 (· < w4.heap.size) (some ⟨w2.heap.size, 1, none⟩) (L - 1) ((t.drop 1).take (L - 1))) := Lib.hid (H4.out.part (k := 1) (l := L - 1) (by omega) _ (by rintro _ b o e; injection e with e; injection e with e1 e2; subst e1 e2; rfl))
  have s2 := fun c => str_of H4p.out c
  obtain ⟨u, hu⟩ : ∃ u, u = (t.drop 1).take (L - 1) := ⟨_, rfl⟩
  have hul : u.length = L - 1 := by rw [hu, List.length_take, List.length_drop, ← HL.out]; omega
  rw [← hu] at s2
  clear hu H4p
  have hcc : ¬ cc = 1 := by omega
  have hcc2 : decide ((L : Int) ≤ (cc : Int)) = true := by simp; omega
  clear g4 B4 s1 B3'
  go_wp2_with fail
  refine (bytes_any u (by omega) w4).mono ?_
  rw [unb_odd u (by omega)]
  rintro e w5 ⟨A5, c5, rfl, g5, B5⟩
  simp only [Option.getD_none, Option.isSome_none, List.length_nil] at g5 ⊢
  have B5' : Below w.heap.size w w5 := B4'.trans (B5.mono B4'.size)
  have HR5 := Lib.hid (HR4.out.keep (B5.block _ HR4.out.lt))
  have hc5 := HR5.out.cell (i := j) (by rw [← HL.out]; exact hjl)
  have hf5 := HR5.out.frozen (i := j) (by rw [← HL.out]; exact hjl)
  have hset := HR5.out.set (i := j) (by rw [← HL.out]; exact hjl) c
  have BS : Below w.heap.size w (w5.setCell ⟨w2.heap.size, j, none⟩ (.int .u8 (c.toNat : Int))) := B5'.setCell (p := ⟨w2.heap.size, j, none⟩) hwg _
  rw [← HXC.out] at hset BS
  have hN : unb (t.set j c) = none := unb_none _ ⟨c, List.mem_set (by rw [← HL.out]; exact hjl) c, HF.out⟩
  have hsl : (t.set j c).length = L := by rw [List.length_set, ← HL.out]
  have HS := Lib.hid hset
  have HN := Lib.hid hN
  generalize t.set j c = v at *
  generalize (t.getD j 0).toNat = old at *
  have s3 := str_of (HS.out.held hsl) cc
  have hj0 : (0 : Int) ≤ (j : Int) := by omega
  have hjL : (j : Int) < (L : Int) := by omega
  clear g5 B5 s2 hset hN B4' HR4 H4 HR3 H3 hcv
  go_wp2_with fail
  refine (bytes_any v (by omega) _).mono ?_
  rw [HN.out]
  rintro e w6 ⟨A6, c6, rfl, g6, B6⟩
  simp only [Option.getD_none, Option.isSome_none, List.length_nil] at g6 ⊢
  have B6' : Below w.heap.size w w6 := BS.trans (B6.mono BS.size)
  clear g6 B6 s3
  go_wp2_with fail
  go_ret
  exact ⟨rfl, B6'⟩

set_option maxHeartbeats 4000000 in
theorem spoilt_i2 (a0 : Option Addr) (len0 cap0 : Nat) (xs : List UInt8) (k : Int) (x : Nat) (c : UInt8) (hxc : x = c.toNat) (w : World) (hh0 : Held w (· < w.heap.size) a0 len0 xs) (h : 1 ≤ len0 ∧ len0 ≤ 300 ∧ 0 ≤ k) (hx : 44 ≤ x ∧ x ≤ 46) :
    Calls Try.prog 8 #[.slice a0 len0 cap0, .int .i64 k, .int .u8 (x : Int)] w fun e w' => e = .returned (.bool true) ∧ Below w.heap.size w w' := by
  have d0 : decide ((len0 : Int) < 1) = false := by simp; omega
  have d1 : decide ((300 : Int) < (len0 : Int)) = false := by simp; omega
  have d2 : decide (k < 0) = false := by simp; omega
  have e48 : decide ((48 : Int) ≤ (x : Int)) = false := by simp; omega
  have e57 : decide ((x : Int) ≤ 57) = true := by simp; omega
  have e97 : decide ((97 : Int) ≤ (x : Int)) = false := by simp; omega
  have e122 : decide ((x : Int) ≤ 122) = true := by simp; omega
  have e65 : decide ((65 : Int) ≤ (x : Int)) = false := by simp; omega
  have e90 : decide ((x : Int) ≤ 90) = true := by simp; omega
  have e43 : ((x : Int) == 43) = false := by simp; omega
  have e47 : ((x : Int) == 47) = false := by simp; omega
  have e61 : ((x : Int) == 61) = false := by simp; omega
  have HF : Hid (¬ Fit c) := show _ from not_fit (by omega) (by omega) (by omega) (by omega) (by omega) (by omega)
  have HA := Lib.hid hh0
  have hxl : x < 256 := by omega
  have HXC := Lib.hid hxc
  clear hh0 hxc
  go_enter Try.func8, Try.ntmps8
  go_wp2_with fail
  refine (awake_any _).mono ?_
  rintro e w1 ⟨rfl, B1⟩
  go_wp2_with fail
  refine (text_any a0 len0 cap0 xs w1 (HA.out.on B1) (by omega)).mono ?_
  rintro e w2 ⟨rfl, B2⟩
  have B2' : Below w.heap.size w w2 := B1.trans (B2.mono B1.size)
  clear B2 B1 e48 e57 e97 e122 e65 e90 e43 e47 e61 d0 d1 d2
  obtain ⟨cc, w3, hcv, hrow, B3, hroom⟩ := bytes_of_str_room (b64 xs) w2
  have hwg : w.heap.size ≤ w2.heap.size := B2'.size
  have B3' : Below w.heap.size w w3 := B2'.trans (B3.mono B2'.size)
  obtain ⟨L, hL⟩ : ∃ L, L = (b64 xs).length := ⟨_, rfl⟩
  have hL4 : L % 4 = 0 ∧ 4 ≤ L ∧ L ≤ 2000 := by rw [hL, b64_length, HA.out.1]; omega
  have HFit := Lib.hid (b64_fit xs)
  generalize b64 xs = t at *
  rw [← hL] at hcv hroom
  have HL := Lib.hid hL
  clear hL
  obtain ⟨j, hj⟩ : ∃ j, j = k.toNat % L := ⟨_, rfl⟩
  have hjl : j < L := by rw [hj]; exact Nat.mod_lt _ (by omega)
  have hkm : k.tmod (L : Int) = (j : Int) := by
    obtain ⟨kn, rfl⟩ := Int.eq_ofNat_of_zero_le h.2.2
    rw [hj, Int.tmod_eq_emod_of_nonneg (by omega)]
    simp
  clear hj
  have HR3 := Lib.hid hrow
  have H3 : Hid (Held w3 (· < w3.heap.size) (some ⟨w2.heap.size, 0, none⟩) L t) := Lib.hid (hrow.held HL.out.symm)
  have s1 := str_of H3.out cc
  have hq : ¬ 9223372036854775807 < t.length + 1 := by rw [← HL.out]; omega
  have d4 : decide ((L : Int) < 4) = false := by simp; omega
  have d5 : ((L : Int) == 0) = false := by simp; omega
  clear hrow B3 B2'
  go_wp2_with fail
  rw [cat_str t [65]]
  refine (bytes_any (t ++ [65]) (by rw [List.length_append, ← HL.out]; simp; omega) w3).mono ?_
  rw [unb_odd (t ++ [65]) (by rw [List.length_append, ← HL.out]; simp; omega)]
  rintro e w4 ⟨A4, c4, rfl, g4, B4⟩
  simp only [Option.getD_none, Option.isSome_none, List.length_nil] at g4 ⊢
  have B4' : Below w.heap.size w w4 := B3'.trans (B4.mono B3'.size)
  have HR4 := Lib.hid (HR3.out.keep (B4.block _ HR3.out.lt))
  have H4 : Hid (Held w4 (· < w4.heap.size) (some ⟨w2.heap.size, 0, none⟩) L t) := Lib.hid (HR4.out.held HL.out.symm)
  have H4p : Hid (Held w4 (· < w4.heap.size) (some ⟨w2.heap.size, 1, none⟩) (L - 1) ((t.drop 1).take (L - 1))) := Lib.hid (H4.out.part (k := 1) (l := L - 1) (by omega) _ (by rintro _ b o e; injection e with e; injection e with e1 e2; subst e1 e2; rfl))
  have s2 := fun c => str_of H4p.out c
  obtain ⟨u, hu⟩ : ∃ u, u = (t.drop 1).take (L - 1) := ⟨_, rfl⟩
  have hul : u.length = L - 1 := by rw [hu, List.length_take, List.length_drop, ← HL.out]; omega
  rw [← hu] at s2
  clear hu H4p
  have hcc : ¬ cc = 1 := by omega
  have hcc2 : decide ((L : Int) ≤ (cc : Int)) = true := by simp; omega
  clear g4 B4 s1 B3'
  go_wp2_with fail
  refine (bytes_any u (by omega) w4).mono ?_
  rw [unb_odd u (by omega)]
  rintro e w5 ⟨A5, c5, rfl, g5, B5⟩
  simp only [Option.getD_none, Option.isSome_none, List.length_nil] at g5 ⊢
  have B5' : Below w.heap.size w w5 := B4'.trans (B5.mono B4'.size)
  have HR5 := Lib.hid (HR4.out.keep (B5.block _ HR4.out.lt))
  have hc5 := HR5.out.cell (i := j) (by rw [← HL.out]; exact hjl)
  have hf5 := HR5.out.frozen (i := j) (by rw [← HL.out]; exact hjl)
  have hset := HR5.out.set (i := j) (by rw [← HL.out]; exact hjl) c
  have BS : Below w.heap.size w (w5.setCell ⟨w2.heap.size, j, none⟩ (.int .u8 (c.toNat : Int))) := B5'.setCell (p := ⟨w2.heap.size, j, none⟩) hwg _
  rw [← HXC.out] at hset BS
  have hN : unb (t.set j c) = none := unb_none _ ⟨c, List.mem_set (by rw [← HL.out]; exact hjl) c, HF.out⟩
  have hsl : (t.set j c).length = L := by rw [List.length_set, ← HL.out]
  have HS := Lib.hid hset
  have HN := Lib.hid hN
  generalize t.set j c = v at *
  generalize (t.getD j 0).toNat = old at *
  have s3 := str_of (HS.out.held hsl) cc
  have hj0 : (0 : Int) ≤ (j : Int) := by omega
  have hjL : (j : Int) < (L : Int) := by omega
  clear g5 B5 s2 hset hN B4' HR4 H4 HR3 H3 hcv
  go_wp2_with fail
  refine (bytes_any v (by omega) _).mono ?_
  rw [HN.out]
  rintro e w6 ⟨A6, c6, rfl, g6, B6⟩
  simp only [Option.getD_none, Option.isSome_none, List.length_nil] at g6 ⊢
  have B6' : Below w.heap.size w w6 := BS.trans (B6.mono BS.size)
  clear g6 B6 s3
  go_wp2_with fail
  go_ret
  exact ⟨rfl, B6'⟩

set_option maxHeartbeats 4000000 in
theorem spoilt_i5 (a0 : Option Addr) (len0 cap0 : Nat) (xs : List UInt8) (k : Int) (x : Nat) (c : UInt8) (hxc : x = c.toNat) (w : World) (hh0 : Held w (· < w.heap.size) a0 len0 xs) (h : 1 ≤ len0 ∧ len0 ≤ 300 ∧ 0 ≤ k) (hx : 58 ≤ x ∧ x ≤ 60) :
    Calls Try.prog 8 #[.slice a0 len0 cap0, .int .i64 k, .int .u8 (x : Int)] w fun e w' => e = .returned (.bool true) ∧ Below w.heap.size w w' := by
  have d0 : decide ((len0 : Int) < 1) = false := by simp; omega
  have d1 : decide ((300 : Int) < (len0 : Int)) = false := by simp; omega
  have d2 : decide (k < 0) = false := by simp; omega
  have e48 : decide ((48 : Int) ≤ (x : Int)) = true := by simp; omega
  have e57 : decide ((x : Int) ≤ 57) = false := by simp; omega
  have e97 : decide ((97 : Int) ≤ (x : Int)) = false := by simp; omega
  have e122 : decide ((x : Int) ≤ 122) = true := by simp; omega
  have e65 : decide ((65 : Int) ≤ (x : Int)) = false := by simp; omega
  have e90 : decide ((x : Int) ≤ 90) = true := by simp; omega
  have e43 : ((x : Int) == 43) = false := by simp; omega
  have e47 : ((x : Int) == 47) = false := by simp; omega
  have e61 : ((x : Int) == 61) = false := by simp; omega
  have HF : Hid (¬ Fit c) := show _ from not_fit (by omega) (by omega) (by omega) (by omega) (by omega) (by omega)
  have HA := Lib.hid hh0
  have hxl : x < 256 := by omega
  have HXC := Lib.hid hxc
  clear hh0 hxc
  go_enter Try.func8, Try.ntmps8
  go_wp2_with fail
  refine (awake_any _).mono ?_
  rintro e w1 ⟨rfl, B1⟩
  go_wp2_with fail
  refine (text_any a0 len0 cap0 xs w1 (HA.out.on B1) (by omega)).mono ?_
  rintro e w2 ⟨rfl, B2⟩
  have B2' : Below w.heap.size w w2 := B1.trans (B2.mono B1.size)
  clear B2 B1 e48 e57 e97 e122 e65 e90 e43 e47 e61 d0 d1 d2
  obtain ⟨cc, w3, hcv, hrow, B3, hroom⟩ := bytes_of_str_room (b64 xs) w2
  have hwg : w.heap.size ≤ w2.heap.size := B2'.size
  have B3' : Below w.heap.size w w3 := B2'.trans (B3.mono B2'.size)
  obtain ⟨L, hL⟩ : ∃ L, L = (b64 xs).length := ⟨_, rfl⟩
  have hL4 : L % 4 = 0 ∧ 4 ≤ L ∧ L ≤ 2000 := by rw [hL, b64_length, HA.out.1]; omega
  have HFit := Lib.hid (b64_fit xs)
  generalize b64 xs = t at *
  rw [← hL] at hcv hroom
  have HL := Lib.hid hL
  clear hL
  obtain ⟨j, hj⟩ : ∃ j, j = k.toNat % L := ⟨_, rfl⟩
  have hjl : j < L := by rw [hj]; exact Nat.mod_lt _ (by omega)
  have hkm : k.tmod (L : Int) = (j : Int) := by
    obtain ⟨kn, rfl⟩ := Int.eq_ofNat_of_zero_le h.2.2
    rw [hj, Int.tmod_eq_emod_of_nonneg (by omega)]
    simp
  clear hj
  have HR3 := Lib.hid hrow
  have H3 : Hid (Held w3 (· < w3.heap.size) (some ⟨w2.heap.size, 0, none⟩) L t) := Lib.hid (hrow.held HL.out.symm)
  have s1 := str_of H3.out cc
  have hq : ¬ 9223372036854775807 < t.length + 1 := by rw [← HL.out]; omega
  have d4 : decide ((L : Int) < 4) = false := by simp; omega
  have d5 : ((L : Int) == 0) = false := by simp; omega
  clear hrow B3 B2'
  go_wp2_with fail
  rw [cat_str t [65]]
  refine (bytes_any (t ++ [65]) (by rw [List.length_append, ← HL.out]; simp; omega) w3).mono ?_
  rw [unb_odd (t ++ [65]) (by rw [List.length_append, ← HL.out]; simp; omega)]
  rintro e w4 ⟨A4, c4, rfl, g4, B4⟩
  simp only [Option.getD_none, Option.isSome_none, List.length_nil] at g4 ⊢
  have B4' : Below w.heap.size w w4 := B3'.trans (B4.mono B3'.size)
  have HR4 := Lib.hid (HR3.out.keep (B4.block _ HR3.out.lt))
  have H4 : Hid (Held w4 (· < w4.heap.size) (some ⟨w2.heap.size, 0, none⟩) L t) := Lib.hid (HR4.out.held HL.out.symm)
  have H4p : Hid (Held w4 (· < w4.heap.size) (some ⟨w2.heap.size, 1, none⟩) (L - 1) ((t.drop 1).take (L - 1))) := Lib.hid (H4.out.part (k := 1) (l := L - 1) (by omega) _ (by rintro _ b o e; injection e with e; injection e with e1 e2; subst e1 e2; rfl))
  have s2 := fun c => str_of H4p.out c
  obtain ⟨u, hu⟩ : ∃ u, u = (t.drop 1).take (L - 1) := ⟨_, rfl⟩
  have hul : u.length = L - 1 := by rw [hu, List.length_take, List.length_drop, ← HL.out]; omega
  rw [← hu] at s2
  clear hu H4p
  have hcc : ¬ cc = 1 := by omega
  have hcc2 : decide ((L : Int) ≤ (cc : Int)) = true := by simp; omega
  clear g4 B4 s1 B3'
  go_wp2_with fail
  refine (bytes_any u (by omega) w4).mono ?_
  rw [unb_odd u (by omega)]
  rintro e w5 ⟨A5, c5, rfl, g5, B5⟩
  simp only [Option.getD_none, Option.isSome_none, List.length_nil] at g5 ⊢
  have B5' : Below w.heap.size w w5 := B4'.trans (B5.mono B4'.size)
  have HR5 := Lib.hid (HR4.out.keep (B5.block _ HR4.out.lt))
  have hc5 := HR5.out.cell (i := j) (by rw [← HL.out]; exact hjl)
  have hf5 := HR5.out.frozen (i := j) (by rw [← HL.out]; exact hjl)
  have hset := HR5.out.set (i := j) (by rw [← HL.out]; exact hjl) c
  have BS : Below w.heap.size w (w5.setCell ⟨w2.heap.size, j, none⟩ (.int .u8 (c.toNat : Int))) := B5'.setCell (p := ⟨w2.heap.size, j, none⟩) hwg _
  rw [← HXC.out] at hset BS
  have hN : unb (t.set j c) = none := unb_none _ ⟨c, List.mem_set (by rw [← HL.out]; exact hjl) c, HF.out⟩
  have hsl : (t.set j c).length = L := by rw [List.length_set, ← HL.out]
  have HS := Lib.hid hset
  have HN := Lib.hid hN
  generalize t.set j c = v at *
  generalize (t.getD j 0).toNat = old at *
  have s3 := str_of (HS.out.held hsl) cc
  have hj0 : (0 : Int) ≤ (j : Int) := by omega
  have hjL : (j : Int) < (L : Int) := by omega
  clear g5 B5 s2 hset hN B4' HR4 H4 HR3 H3 hcv
  go_wp2_with fail
  refine (bytes_any v (by omega) _).mono ?_
  rw [HN.out]
  rintro e w6 ⟨A6, c6, rfl, g6, B6⟩
  simp only [Option.getD_none, Option.isSome_none, List.length_nil] at g6 ⊢
  have B6' : Below w.heap.size w w6 := BS.trans (B6.mono BS.size)
  clear g6 B6 s3
  go_wp2_with fail
  go_ret
  exact ⟨rfl, B6'⟩

set_option maxHeartbeats 4000000 in
theorem spoilt_i7 (a0 : Option Addr) (len0 cap0 : Nat) (xs : List UInt8) (k : Int) (x : Nat) (c : UInt8) (hxc : x = c.toNat) (w : World) (hh0 : Held w (· < w.heap.size) a0 len0 xs) (h : 1 ≤ len0 ∧ len0 ≤ 300 ∧ 0 ≤ k) (hx : 62 ≤ x ∧ x ≤ 64) :
    Calls Try.prog 8 #[.slice a0 len0 cap0, .int .i64 k, .int .u8 (x : Int)] w fun e w' => e = .returned (.bool true) ∧ Below w.heap.size w w' := by
  have d0 : decide ((len0 : Int) < 1) = false := by simp; omega
  have d1 : decide ((300 : Int) < (len0 : Int)) = false := by simp; omega
  have d2 : decide (k < 0) = false := by simp; omega
  have e48 : decide ((48 : Int) ≤ (x : Int)) = true := by simp; omega
  have e57 : decide ((x : Int) ≤ 57) = false := by simp; omega
  have e97 : decide ((97 : Int) ≤ (x : Int)) = false := by simp; omega
  have e122 : decide ((x : Int) ≤ 122) = true := by simp; omega
  have e65 : decide ((65 : Int) ≤ (x : Int)) = false := by simp; omega
  have e90 : decide ((x : Int) ≤ 90) = true := by simp; omega
  have e43 : ((x : Int) == 43) = false := by simp; omega
  have e47 : ((x : Int) == 47) = false := by simp; omega
  have e61 : ((x : Int) == 61) = false := by simp; omega
  have HF : Hid (¬ Fit c) := show _ from not_fit (by omega) (by omega) (by omega) (by omega) (by omega) (by omega)
  have HA := Lib.hid hh0
  have hxl : x < 256 := by omega
  have HXC := Lib.hid hxc
  clear hh0 hxc
  go_enter Try.func8, Try.ntmps8
  go_wp2_with fail
  refine (awake_any _).mono ?_
  rintro e w1 ⟨rfl, B1⟩
  go_wp2_with fail
  refine (text_any a0 len0 cap0 xs w1 (HA.out.on B1) (by omega)).mono ?_
  rintro e w2 ⟨rfl, B2⟩
  have B2' : Below w.heap.size w w2 := B1.trans (B2.mono B1.size)
  clear B2 B1 e48 e57 e97 e122 e65 e90 e43 e47 e61 d0 d1 d2
  obtain ⟨cc, w3, hcv, hrow, B3, hroom⟩ := bytes_of_str_room (b64 xs) w2
  have hwg : w.heap.size ≤ w2.heap.size := B2'.size
  have B3' : Below w.heap.size w w3 := B2'.trans (B3.mono B2'.size)
  obtain ⟨L, hL⟩ : ∃ L, L = (b64 xs).length := ⟨_, rfl⟩
  have hL4 : L % 4 = 0 ∧ 4 ≤ L ∧ L ≤ 2000 := by rw [hL, b64_length, HA.out.1]; omega
  have HFit := Lib.hid (b64_fit xs)
  generalize b64 xs = t at *
  rw [← hL] at hcv hroom
  have HL := Lib.hid hL
  clear hL
  obtain ⟨j, hj⟩ : ∃ j, j = k.toNat % L := ⟨_, rfl⟩
  have hjl : j < L := by rw [hj]; exact Nat.mod_lt _ (by omega)
  have hkm : k.tmod (L : Int) = (j : Int) := by
    obtain ⟨kn, rfl⟩ := Int.eq_ofNat_of_zero_le h.2.2
    rw [hj, Int.tmod_eq_emod_of_nonneg (by omega)]
    simp
  clear hj
  have HR3 := Lib.hid hrow
  have H3 : Hid (Held w3 (· < w3.heap.size) (some ⟨w2.heap.size, 0, none⟩) L t) := Lib.hid (hrow.held HL.out.symm)
  have s1 := str_of H3.out cc
  have hq : ¬ 9223372036854775807 < t.length + 1 := by rw [← HL.out]; omega
  have d4 : decide ((L : Int) < 4) = false := by simp; omega
  have d5 : ((L : Int) == 0) = false := by simp; omega
  clear hrow B3 B2'
  go_wp2_with fail
  rw [cat_str t [65]]
  refine (bytes_any (t ++ [65]) (by rw [List.length_append, ← HL.out]; simp; omega) w3).mono ?_
  rw [unb_odd (t ++ [65]) (by rw [List.length_append, ← HL.out]; simp; omega)]
  rintro e w4 ⟨A4, c4, rfl, g4, B4⟩
  simp only [Option.getD_none, Option.isSome_none, List.length_nil] at g4 ⊢
  have B4' : Below w.heap.size w w4 := B3'.trans (B4.mono B3'.size)
  have HR4 := Lib.hid (HR3.out.keep (B4.block _ HR3.out.lt))
  have H4 : Hid (Held w4 (· < w4.heap.size) (some ⟨w2.heap.size, 0, none⟩) L t) := Lib.hid (HR4.out.held HL.out.symm)
  have H4p : Hid (Held w4 (· < w4.heap.size) (some ⟨w2.heap.size, 1, none⟩) (L - 1) ((t.drop 1).take (L - 1))) := Lib.hid (H4.out.part (k := 1) (l := L - 1) (by omega) _ (by rintro _ b o e; injection e with e; injection e with e1 e2; subst e1 e2; rfl))
  have s2 := fun c => str_of H4p.out c
  obtain ⟨u, hu⟩ : ∃ u, u = (t.drop 1).take (L - 1) := ⟨_, rfl⟩
  have hul : u.length = L - 1 := by rw [hu, List.length_take, List.length_drop, ← HL.out]; omega
  rw [← hu] at s2
  clear hu H4p
  have hcc : ¬ cc = 1 := by omega
  have hcc2 : decide ((L : Int) ≤ (cc : Int)) = true := by simp; omega
  clear g4 B4 s1 B3'
  go_wp2_with fail
  refine (bytes_any u (by omega) w4).mono ?_
  rw [unb_odd u (by omega)]
  rintro e w5 ⟨A5, c5, rfl, g5, B5⟩
  simp only [Option.getD_none, Option.isSome_none, List.length_nil] at g5 ⊢
  have B5' : Below w.heap.size w w5 := B4'.trans (B5.mono B4'.size)
  have HR5 := Lib.hid (HR4.out.keep (B5.block _ HR4.out.lt))
  have hc5 := HR5.out.cell (i := j) (by rw [← HL.out]; exact hjl)
  have hf5 := HR5.out.frozen (i := j) (by rw [← HL.out]; exact hjl)
  have hset := HR5.out.set (i := j) (by rw [← HL.out]; exact hjl) c
  have BS : Below w.heap.size w (w5.setCell ⟨w2.heap.size, j, none⟩ (.int .u8 (c.toNat : Int))) := B5'.setCell (p := ⟨w2.heap.size, j, none⟩) hwg _
  rw [← HXC.out] at hset BS
  have hN : unb (t.set j c) = none := unb_none _ ⟨c, List.mem_set (by rw [← HL.out]; exact hjl) c, HF.out⟩
  have hsl : (t.set j c).length = L := by rw [List.length_set, ← HL.out]
  have HS := Lib.hid hset
  have HN := Lib.hid hN
  generalize t.set j c = v at *
  generalize (t.getD j 0).toNat = old at *
  have s3 := str_of (HS.out.held hsl) cc
  have hj0 : (0 : Int) ≤ (j : Int) := by omega
  have hjL : (j : Int) < (L : Int) := by omega
  clear g5 B5 s2 hset hN B4' HR4 H4 HR3 H3 hcv
  go_wp2_with fail
  refine (bytes_any v (by omega) _).mono ?_
  rw [HN.out]
  rintro e w6 ⟨A6, c6, rfl, g6, B6⟩
  simp only [Option.getD_none, Option.isSome_none, List.length_nil] at g6 ⊢
  have B6' : Below w.heap.size w w6 := BS.trans (B6.mono BS.size)
  clear g6 B6 s3
  go_wp2_with fail
  go_ret
  exact ⟨rfl, B6'⟩

set_option maxHeartbeats 4000000 in
theorem spoilt_i9 (a0 : Option Addr) (len0 cap0 : Nat) (xs : List UInt8) (k : Int) (x : Nat) (c : UInt8) (hxc : x = c.toNat) (w : World) (hh0 : Held w (· < w.heap.size) a0 len0 xs) (h : 1 ≤ len0 ∧ len0 ≤ 300 ∧ 0 ≤ k) (hx : 91 ≤ x ∧ x ≤ 96) :
    Calls Try.prog 8 #[.slice a0 len0 cap0, .int .i64 k, .int .u8 (x : Int)] w fun e w' => e = .returned (.bool true) ∧ Below w.heap.size w w' := by
  have d0 : decide ((len0 : Int) < 1) = false := by simp; omega
  have d1 : decide ((300 : Int) < (len0 : Int)) = false := by simp; omega
  have d2 : decide (k < 0) = false := by simp; omega
  have e48 : decide ((48 : Int) ≤ (x : Int)) = true := by simp; omega
  have e57 : decide ((x : Int) ≤ 57) = false := by simp; omega
  have e97 : decide ((97 : Int) ≤ (x : Int)) = false := by simp; omega
  have e122 : decide ((x : Int) ≤ 122) = true := by simp; omega
  have e65 : decide ((65 : Int) ≤ (x : Int)) = true := by simp; omega
  have e90 : decide ((x : Int) ≤ 90) = false := by simp; omega
  have e43 : ((x : Int) == 43) = false := by simp; omega
  have e47 : ((x : Int) == 47) = false := by simp; omega
  have e61 : ((x : Int) == 61) = false := by simp; omega
  have HF : Hid (¬ Fit c) := show _ from not_fit (by omega) (by omega) (by omega) (by omega) (by omega) (by omega)
  have HA := Lib.hid hh0
  have hxl : x < 256 := by omega
  have HXC := Lib.hid hxc
  clear hh0 hxc
  go_enter Try.func8, Try.ntmps8
  go_wp2_with fail
  refine (awake_any _).mono ?_
  rintro e w1 ⟨rfl, B1⟩
  go_wp2_with fail
  refine (text_any a0 len0 cap0 xs w1 (HA.out.on B1) (by omega)).mono ?_
  rintro e w2 ⟨rfl, B2⟩
  have B2' : Below w.heap.size w w2 := B1.trans (B2.mono B1.size)
  clear B2 B1 e48 e57 e97 e122 e65 e90 e43 e47 e61 d0 d1 d2
  obtain ⟨cc, w3, hcv, hrow, B3, hroom⟩ := bytes_of_str_room (b64 xs) w2
  have hwg : w.heap.size ≤ w2.heap.size := B2'.size
  have B3' : Below w.heap.size w w3 := B2'.trans (B3.mono B2'.size)
  obtain ⟨L, hL⟩ : ∃ L, L = (b64 xs).length := ⟨_, rfl⟩
  have hL4 : L % 4 = 0 ∧ 4 ≤ L ∧ L ≤ 2000 := by rw [hL, b64_length, HA.out.1]; omega
  have HFit := Lib.hid (b64_fit xs)
  generalize b64 xs = t at *
  rw [← hL] at hcv hroom
  have HL := Lib.hid hL
  clear hL
  obtain ⟨j, hj⟩ : ∃ j, j = k.toNat % L := ⟨_, rfl⟩
  have hjl : j < L := by rw [hj]; exact Nat.mod_lt _ (by omega)
  have hkm : k.tmod (L : Int) = (j : Int) := by
    obtain ⟨kn, rfl⟩ := Int.eq_ofNat_of_zero_le h.2.2
    rw [hj, Int.tmod_eq_emod_of_nonneg (by omega)]
    simp
  clear hj
  have HR3 := Lib.hid hrow
  have H3 : Hid (Held w3 (· < w3.heap.size) (some ⟨w2.heap.size, 0, none⟩) L t) := Lib.hid (hrow.held HL.out.symm)
  have s1 := str_of H3.out cc
  have hq : ¬ 9223372036854775807 < t.length + 1 := by rw [← HL.out]; omega
  have d4 : decide ((L : Int) < 4) = false := by simp; omega
  have d5 : ((L : Int) == 0) = false := by simp; omega
  clear hrow B3 B2'
  go_wp2_with fail
  rw [cat_str t [65]]
  refine (bytes_any (t ++ [65]) (by rw [List.length_append, ← HL.out]; simp; omega) w3).mono ?_
  rw [unb_odd (t ++ [65]) (by rw [List.length_append, ← HL.out]; simp; omega)]
  rintro e w4 ⟨A4, c4, rfl, g4, B4⟩
  simp only [Option.getD_none, Option.isSome_none, List.length_nil] at g4 ⊢
  have B4' : Below w.heap.size w w4 := B3'.trans (B4.mono B3'.size)
  have HR4 := Lib.hid (HR3.out.keep (B4.block _ HR3.out.lt))
  have H4 : Hid (Held w4 (· < w4.heap.size) (some ⟨w2.heap.size, 0, none⟩) L t) := Lib.hid (HR4.out.held HL.out.symm)
  have H4p : Hid (Held w4 (· < w4.heap.size) (some ⟨w2.heap.size, 1, none⟩) (L - 1) ((t.drop 1).take (L - 1))) := Lib.hid (H4.out.part (k := 1) (l := L - 1) (by omega) _ (by rintro _ b o e; injection e with e; injection e with e1 e2; subst e1 e2; rfl))
  have s2 := fun c => str_of H4p.out c
  obtain ⟨u, hu⟩ : ∃ u, u = (t.drop 1).take (L - 1) := ⟨_, rfl⟩
  have hul : u.length = L - 1 := by rw [hu, List.length_take, List.length_drop, ← HL.out]; omega
  rw [← hu] at s2
  clear hu H4p
  have hcc : ¬ cc = 1 := by omega
  have hcc2 : decide ((L : Int) ≤ (cc : Int)) = true := by simp; omega
  clear g4 B4 s1 B3'
  go_wp2_with fail
  refine (bytes_any u (by omega) w4).mono ?_
  rw [unb_odd u (by omega)]
  rintro e w5 ⟨A5, c5, rfl, g5, B5⟩
  simp only [Option.getD_none, Option.isSome_none, List.length_nil] at g5 ⊢
  have B5' : Below w.heap.size w w5 := B4'.trans (B5.mono B4'.size)
  have HR5 := Lib.hid (HR4.out.keep (B5.block _ HR4.out.lt))
  have hc5 := HR5.out.cell (i := j) (by rw [← HL.out]; exact hjl)
  have hf5 := HR5.out.frozen (i := j) (by rw [← HL.out]; exact hjl)
  have hset := HR5.out.set (i := j) (by rw [← HL.out]; exact hjl) c
  have BS : Below w.heap.size w (w5.setCell ⟨w2.heap.size, j, none⟩ (.int .u8 (c.toNat : Int))) := B5'.setCell (p := ⟨w2.heap.size, j, none⟩) hwg _
  rw [← HXC.out] at hset BS
  have hN : unb (t.set j c) = none := unb_none _ ⟨c, List.mem_set (by rw [← HL.out]; exact hjl) c, HF.out⟩
  have hsl : (t.set j c).length = L := by rw [List.length_set, ← HL.out]
  have HS := Lib.hid hset
  have HN := Lib.hid hN
  generalize t.set j c = v at *
  generalize (t.getD j 0).toNat = old at *
  have s3 := str_of (HS.out.held hsl) cc
  have hj0 : (0 : Int) ≤ (j : Int) := by omega
  have hjL : (j : Int) < (L : Int) := by omega
  clear g5 B5 s2 hset hN B4' HR4 H4 HR3 H3 hcv
  go_wp2_with fail
  refine (bytes_any v (by omega) _).mono ?_
  rw [HN.out]
  rintro e w6 ⟨A6, c6, rfl, g6, B6⟩
  simp only [Option.getD_none, Option.isSome_none, List.length_nil] at g6 ⊢
  have B6' : Below w.heap.size w w6 := BS.trans (B6.mono BS.size)
  clear g6 B6 s3
  go_wp2_with fail
  go_ret
  exact ⟨rfl, B6'⟩

set_option maxHeartbeats 4000000 in
theorem spoilt_i11 (a0 : Option Addr) (len0 cap0 : Nat) (xs : List UInt8) (k : Int) (x : Nat) (c : UInt8) (hxc : x = c.toNat) (w : World) (hh0 : Held w (· < w.heap.size) a0 len0 xs) (h : 1 ≤ len0 ∧ len0 ≤ 300 ∧ 0 ≤ k) (hx : 123 ≤ x ∧ x ≤ 255) :
    Calls Try.prog 8 #[.slice a0 len0 cap0, .int .i64 k, .int .u8 (x : Int)] w fun e w' => e = .returned (.bool true) ∧ Below w.heap.size w w' := by
  have d0 : decide ((len0 : Int) < 1) = false := by simp; omega
  have d1 : decide ((300 : Int) < (len0 : Int)) = false := by simp; omega
  have d2 : decide (k < 0) = false := by simp; omega
  have e48 : decide ((48 : Int) ≤ (x : Int)) = true := by simp; omega
  have e57 : decide ((x : Int) ≤ 57) = false := by simp; omega
  have e97 : decide ((97 : Int) ≤ (x : Int)) = true := by simp; omega
  have e122 : decide ((x : Int) ≤ 122) = false := by simp; omega
  have e65 : decide ((65 : Int) ≤ (x : Int)) = true := by simp; omega
  have e90 : decide ((x : Int) ≤ 90) = false := by simp; omega
  have e43 : ((x : Int) == 43) = false := by simp; omega
  have e47 : ((x : Int) == 47) = false := by simp; omega
  have e61 : ((x : Int) == 61) = false := by simp; omega
  have HF : Hid (¬ Fit c) := show _ from not_fit (by omega) (by omega) (by omega) (by omega) (by omega) (by omega)
  have HA := Lib.hid hh0
  have hxl : x < 256 := by omega
  have HXC := Lib.hid hxc
  clear hh0 hxc
  go_enter Try.func8, Try.ntmps8
  go_wp2_with fail
  refine (awake_any _).mono ?_
  rintro e w1 ⟨rfl, B1⟩
  go_wp2_with fail
  refine (text_any a0 len0 cap0 xs w1 (HA.out.on B1) (by omega)).mono ?_
  rintro e w2 ⟨rfl, B2⟩
  have B2' : Below w.heap.size w w2 := B1.trans (B2.mono B1.size)
  clear B2 B1 e48 e57 e97 e122 e65 e90 e43 e47 e61 d0 d1 d2
  obtain ⟨cc, w3, hcv, hrow, B3, hroom⟩ := bytes_of_str_room (b64 xs) w2
  have hwg : w.heap.size ≤ w2.heap.size := B2'.size
  have B3' : Below w.heap.size w w3 := B2'.trans (B3.mono B2'.size)
  obtain ⟨L, hL⟩ : ∃ L, L = (b64 xs).length := ⟨_, rfl⟩
  have hL4 : L % 4 = 0 ∧ 4 ≤ L ∧ L ≤ 2000 := by rw [hL, b64_length, HA.out.1]; omega
  have HFit := Lib.hid (b64_fit xs)
  generalize b64 xs = t at *
  rw [← hL] at hcv hroom
  have HL := Lib.hid hL
  clear hL
  obtain ⟨j, hj⟩ : ∃ j, j = k.toNat % L := ⟨_, rfl⟩
  have hjl : j < L := by rw [hj]; exact Nat.mod_lt _ (by omega)
  have hkm : k.tmod (L : Int) = (j : Int) := by
    obtain ⟨kn, rfl⟩ := Int.eq_ofNat_of_zero_le h.2.2
    rw [hj, Int.tmod_eq_emod_of_nonneg (by omega)]
    simp
  clear hj
  have HR3 := Lib.hid hrow
  have H3 : Hid (Held w3 (· < w3.heap.size) (some ⟨w2.heap.size, 0, none⟩) L t) := Lib.hid (hrow.held HL.out.symm)
  have s1 := str_of H3.out cc
  have hq : ¬ 9223372036854775807 < t.length + 1 := by rw [← HL.out]; omega
  have d4 : decide ((L : Int) < 4) = false := by simp; omega
  have d5 : ((L : Int) == 0) = false := by simp; omega
  clear hrow B3 B2'
  go_wp2_with fail
  rw [cat_str t [65]]
  refine (bytes_any (t ++ [65]) (by rw [List.length_append, ← HL.out]; simp; omega) w3).mono ?_
  rw [unb_odd (t ++ [65]) (by rw [List.length_append, ← HL.out]; simp; omega)]
  rintro e w4 ⟨A4, c4, rfl, g4, B4⟩
  simp only [Option.getD_none, Option.isSome_none, List.length_nil] at g4 ⊢
  have B4' : Below w.heap.size w w4 := B3'.trans (B4.mono B3'.size)
  have HR4 := Lib.hid (HR3.out.keep (B4.block _ HR3.out.lt))
  have H4 : Hid (Held w4 (· < w4.heap.size) (some ⟨w2.heap.size, 0, none⟩) L t) := Lib.hid (HR4.out.held HL.out.symm)
  have H4p : Hid (Held w4 (· < w4.heap.size) (some ⟨w2.heap.size, 1, none⟩) (L - 1) ((t.drop 1).take (L - 1))) := Lib.hid (H4.out.part (k := 1) (l := L - 1) (by omega) _ (by rintro _ b o e; injection e with e; injection e with e1 e2; subst e1 e2; rfl))
  have s2 := fun c => str_of H4p.out c
  obtain ⟨u, hu⟩ : ∃ u, u = (t.drop 1).take (L - 1) := ⟨_, rfl⟩
  have hul : u.length = L - 1 := by rw [hu, List.length_take, List.length_drop, ← HL.out]; omega
  rw [← hu] at s2
  clear hu H4p
  have hcc : ¬ cc = 1 := by omega
  have hcc2 : decide ((L : Int) ≤ (cc : Int)) = true := by simp; omega
  clear g4 B4 s1 B3'
  go_wp2_with fail
  refine (bytes_any u (by omega) w4).mono ?_
  rw [unb_odd u (by omega)]
  rintro e w5 ⟨A5, c5, rfl, g5, B5⟩
  simp only [Option.getD_none, Option.isSome_none, List.length_nil] at g5 ⊢
  have B5' : Below w.heap.size w w5 := B4'.trans (B5.mono B4'.size)
  have HR5 := Lib.hid (HR4.out.keep (B5.block _ HR4.out.lt))
  have hc5 := HR5.out.cell (i := j) (by rw [← HL.out]; exact hjl)
  have hf5 := HR5.out.frozen (i := j) (by rw [← HL.out]; exact hjl)
  have hset := HR5.out.set (i := j) (by rw [← HL.out]; exact hjl) c
  have BS : Below w.heap.size w (w5.setCell ⟨w2.heap.size, j, none⟩ (.int .u8 (c.toNat : Int))) := B5'.setCell (p := ⟨w2.heap.size, j, none⟩) hwg _
  rw [← HXC.out] at hset BS
  have hN : unb (t.set j c) = none := unb_none _ ⟨c, List.mem_set (by rw [← HL.out]; exact hjl) c, HF.out⟩
  have hsl : (t.set j c).length = L := by rw [List.length_set, ← HL.out]
  have HS := Lib.hid hset
  have HN := Lib.hid hN
  generalize t.set j c = v at *
  generalize (t.getD j 0).toNat = old at *
  have s3 := str_of (HS.out.held hsl) cc
  have hj0 : (0 : Int) ≤ (j : Int) := by omega
  have hjL : (j : Int) < (L : Int) := by omega
  clear g5 B5 s2 hset hN B4' HR4 H4 HR3 H3 hcv
  go_wp2_with fail
  refine (bytes_any v (by omega) _).mono ?_
  rw [HN.out]
  rintro e w6 ⟨A6, c6, rfl, g6, B6⟩
  simp only [Option.getD_none, Option.isSome_none, List.length_nil] at g6 ⊢
  have B6' : Below w.heap.size w w6 := BS.trans (B6.mono BS.size)
  clear g6 B6 s3
  go_wp2_with fail
  go_ret
  exact ⟨rfl, B6'⟩

theorem spoilt_any (a0 : Option Addr) (len0 cap0 : Nat) (xs : List UInt8) (k z : Int) (w : World) (hh0 : Held w (· < w.heap.size) a0 len0 xs) (hz : 0 ≤ z ∧ z ≤ 255) :
    Calls Try.prog 8 #[.slice a0 len0 cap0, .int .i64 k, .int .u8 z] w fun e w' => e = .returned (.bool true) ∧ Below w.heap.size w w' := by
  by_cases c1 : len0 < 1
  · exact spoilt_out0 a0 len0 cap0 k z w c1
  by_cases c2 : 300 < len0
  · exact spoilt_out1 a0 len0 cap0 k z w ⟨by omega, c2⟩
  by_cases c3 : k < 0
  · exact spoilt_out2 a0 len0 cap0 k z w ⟨by omega, by omega, c3⟩
  have hb : 1 ≤ len0 ∧ len0 ≤ 300 ∧ 0 ≤ k := by omega
  obtain ⟨c, rfl⟩ : ∃ c : UInt8, z = (c.toNat : Int) := ⟨UInt8.ofNat z.toNat, by rw [UInt8.toNat_ofNat', Nat.mod_eq_of_lt (by omega)]; omega⟩
  obtain ⟨x, hx⟩ : ∃ x, x = c.toNat := ⟨_, rfl⟩
  have hxl : x ≤ 255 := by have : c.toNat < 256 := c.toNat_lt; omega
  rw [← hx]
  by_cases q_i0 : x ≤ 42
  · exact spoilt_i0 a0 len0 cap0 xs k x c hx w hh0 hb ⟨by omega, q_i0⟩
  by_cases q_i1 : x ≤ 43
  · exact spoilt_i1 a0 len0 cap0 k x w hb ⟨by omega, q_i1⟩
  by_cases q_i2 : x ≤ 46
  · exact spoilt_i2 a0 len0 cap0 xs k x c hx w hh0 hb ⟨by omega, q_i2⟩
  by_cases q_i3 : x ≤ 47
  · exact spoilt_i3 a0 len0 cap0 k x w hb ⟨by omega, q_i3⟩
  by_cases q_i4 : x ≤ 57
  · exact spoilt_i4 a0 len0 cap0 k x w hb ⟨by omega, q_i4⟩
  by_cases q_i5 : x ≤ 60
  · exact spoilt_i5 a0 len0 cap0 xs k x c hx w hh0 hb ⟨by omega, q_i5⟩
  by_cases q_i6 : x ≤ 61
  · exact spoilt_i6 a0 len0 cap0 k x w hb ⟨by omega, q_i6⟩
  by_cases q_i7 : x ≤ 64
  · exact spoilt_i7 a0 len0 cap0 xs k x c hx w hh0 hb ⟨by omega, q_i7⟩
  by_cases q_i8 : x ≤ 90
  · exact spoilt_i8 a0 len0 cap0 k x w hb ⟨by omega, q_i8⟩
  by_cases q_i9 : x ≤ 96
  · exact spoilt_i9 a0 len0 cap0 xs k x c hx w hh0 hb ⟨by omega, q_i9⟩
  by_cases q_i10 : x ≤ 122
  · exact spoilt_i10 a0 len0 cap0 k x w hb ⟨by omega, q_i10⟩
  exact spoilt_i11 a0 len0 cap0 xs k x c hx w hh0 hb ⟨by omega, hxl⟩

end Go.Proofs.Ytlimkiebbmidiaa
