/-
  What math/bits' Len does; what Bits and Small do, of the program and of the document. No condition beyond what each contract says.
-/
import Derived.Test.YtcejbkmmiklhbaaOf9
import Derived.Test.YtcejbkmmiklhbaaBitLen9
namespace Go.Proofs.Ytcejbkmmiklhbaa
open Go.RowKit

set_option maxHeartbeats 1000000 in
theorem len_any (x : Nat) (hx : x < 18446744073709551616) (w : World) :
    Calls Try.prog 44 #[.int .u64 (x : Int)] w fun e w' => e = .returned (.int .i64 (Lib.bitLen x : Int)) ∧ w' = w := by
  have c := Lib.hid (len64_any x hx w)
  have z1 := wru64 hx
  clear hx
  go_enter Try.func44, Try.ntmps44
  go_wp2_with fail
  refine c.out.mono ?_
  rintro e v1 ⟨rfl, hw⟩; subst v1
  go_wp2_with fail
  go_ret
  exact ⟨rfl, rfl⟩

/-- How many digits of 2. -/
def bv (xs : List Nat) (n : Nat) : Nat := 16 * (n - 1) + Lib.bitLen (xs.getD (n - 1) 0)
theorem bit0 : Lib.bitLen 0 = 0 := by decide

set_option maxHeartbeats 2000000 in
theorem bits_yes (A : Option Addr) (n c : Nat) (a : Nat) (w : World) (h : Digs w A n (dg a)) (ha : a < top) (hn0 : 0 < n) :
    Calls Try.prog 26 #[.slice A n c] w fun e w' => e = .returned (.int .i64 ((bv (dg a) n : Nat) : Int)) ∧ w' = w := by
  have c1 := Lib.hid (is_yes A n c a w h ha)
  have hn : n ≤ 256 := by have := top_len ha; have := h.1; omega
  obtain ⟨b, o, rfl, hb, hc⟩ := h.2.2 hn0
  have x1 := hc (n - 1) (by omega)
  have hx := h.2.1.get (n - 1)
  have hL : Lib.bitLen ((dg a).getD (n - 1) 0) ≤ 16 := Lib.bitLen_le _ 16 (by decide) hx
  have HV : Hid (bv (dg a) n = 16 * (n - 1) + Lib.bitLen ((dg a).getD (n - 1) 0)) := show _ = _ from rfl
  obtain ⟨k, hk⟩ : ∃ k, k = n - 1 := ⟨_, rfl⟩
  rw [← hk] at x1 hx hL HV
  generalize (dg a).getD k 0 = x at *
  have c2 := Lib.hid (len16_any x hx w)
  generalize Lib.bitLen x = L at *
  generalize bv (dg a) n = r at *
  obtain ⟨p, hp⟩ : ∃ p, p = 16 * k := ⟨_, rfl⟩
  have d2 : ((n : Int) == 0) = false := by simp; omega
  have d2n : (n == 0) = false := by simp; omega
  have e1 : (n : Int) - 1 = (k : Int) := by omega
  have e2 : (k : Int) < (n : Int) := by omega
  have e3 : (0 : Int) ≤ (k : Int) := by omega
  have e4 : 16 * (k : Int) = (p : Int) := by omega
  have e5 : (p : Int) + (L : Int) = (r : Int) := by have := HV.out; omega
  have hpw : p < 4611686018427387904 := by omega
  have hrw : r < 4611686018427387904 := by have := HV.out; omega
  have hkw : k < 4611686018427387904 := by omega
  have z1 := wr64 hpw
  have z2 := wr64 hrw
  have z3 := wr64 hkw
  clear hpw hrw hkw hk hx hL hp hc h ha HV hb hn0
  go_enter Try.func26, Try.ntmps26
  go_wp2_with fail
  refine c1.out.mono ?_
  rintro e v1 ⟨rfl, hw⟩; subst v1
  go_wp2_with fail
  refine c2.out.mono ?_
  rintro e v1 ⟨rfl, hw⟩; subst v1
  go_wp2_with fail
  go_ret
  exact ⟨by first | rfl | exact ret_num z2, rfl⟩
set_option maxHeartbeats 1000000 in
theorem bits_zero (A : Option Addr) (c : Nat) (a : Nat) (w : World) (h : Digs w A 0 (dg a)) (ha : a < top) :
    Calls Try.prog 26 #[.slice A 0 c] w fun e w' => e = .returned (.int .i64 0) ∧ w' = w := by
  have c1 := Lib.hid (is_yes A 0 c a w h ha)
  clear h ha
  go_enter Try.func26, Try.ntmps26
  go_wp2_with fail
  refine c1.out.mono ?_
  rintro e v1 ⟨rfl, hw⟩; subst v1
  go_wp2_with fail
  go_ret
  exact ⟨rfl, rfl⟩
set_option maxHeartbeats 1000000 in
theorem bits_no (A : Option Addr) (n c : Nat) (xs : List Nat) (w : World) (h : Digs w A n xs) (hn : n ≤ 1000000000) (hi : isN xs = false) :
    Calls Try.prog 26 #[.slice A n c] w fun e w' => e = .returned (.int .i64 0) ∧ w' = w := by
  have c1 := Lib.hid (is_not A n c xs w h (by omega) hi)
  clear h hi
  go_enter Try.func26, Try.ntmps26
  go_wp2_with fail
  refine c1.out.mono ?_
  rintro e v1 ⟨rfl, hw⟩; subst v1
  go_wp2_with fail
  go_ret
  exact ⟨rfl, rfl⟩

set_option maxHeartbeats 1000000 in
theorem refBits_zero (A : Option Addr) (c : Nat) (w : World) :
    Calls Try.prog 28 #[.slice A 0 c] w fun e w' => e = .returned (.int .i64 0) ∧ w' = w := by
  go_enter Try.func28, Try.ntmps28
  go_wp2_with fail
  go_ret
  exact ⟨rfl, rfl⟩
def RBitI (w : World) (p x : Nat) (v3 v4 : Value) (wr : World) : Prop :=
  wr = w ∧ ∃ q c : Nat, v3 = .int .i64 ((p + c : Nat) : Int) ∧ v4 = .int .u16 (q : Int) ∧ q < 65536 ∧ Lib.bitLen x = c + Lib.bitLen q
set_option maxHeartbeats 2000000 in
theorem refBits_yes (A : Option Addr) (n c : Nat) (xs : List Nat) (w : World) (h : Digs w A n xs) (hn0 : 0 < n) (hn : n ≤ 1000) :
    Calls Try.prog 28 #[.slice A n c] w fun e w' => e = .returned (.int .i64 ((bv xs n : Nat) : Int)) ∧ w' = w := by
  obtain ⟨b, o, rfl, hb, hc⟩ := h.2.2 hn0
  have x1 := hc (n - 1) (by omega)
  have hx := h.2.1.get (n - 1)
  have hL : Lib.bitLen (xs.getD (n - 1) 0) ≤ 16 := Lib.bitLen_le _ 16 (by decide) hx
  have HV : Hid (bv xs n = 16 * (n - 1) + Lib.bitLen (xs.getD (n - 1) 0)) := show _ = _ from rfl
  obtain ⟨k, hk⟩ : ∃ k, k = n - 1 := ⟨_, rfl⟩
  rw [← hk] at x1 hx hL HV
  generalize xs.getD k 0 = x at *
  generalize bv xs n = r at *
  obtain ⟨p, hp⟩ : ∃ p, p = 16 * k := ⟨_, rfl⟩
  have hpb : p ≤ 16000 := by omega
  have HR : Hid (r = p + Lib.bitLen x) := show _ = _ by have := HV.out; omega
  have d2 : ((n : Int) == 0) = false := by simp; omega
  have d2n : (n == 0) = false := by simp; omega
  have e1 : (n : Int) - 1 = (k : Int) := by omega
  have e2 : (k : Int) < (n : Int) := by omega
  have e3 : (0 : Int) ≤ (k : Int) := by omega
  have e4 : 16 * (k : Int) = (p : Int) := by omega
  have hpw : p < 4611686018427387904 := by omega
  have hkw : k < 4611686018427387904 := by omega
  have z1 := wr64 hpw
  have z3 := wr64 hkw
  have HX := Lib.hid hx
  have HL := Lib.hid hL
  clear hpw hkw hk hp hc h HV hb hn0 hx hL
  go_enter Try.func28, Try.ntmps28
  go_wp2_with fail
  go_loopw [3, 4] (fun v3 v4 wr => RBitI w p x v3 v4 wr) (fun _ v _ => (intOf v).toNat)
  case atStart => exact ⟨rfl, x, 0, rfl, rfl, HX.out, by omega⟩
  case round =>
    clear z1 z3 x1
    obtain ⟨rfl, q, c, rfl, rfl, hq, hv⟩ := hrel
    have HV := Lib.hid hv
    have hcb : c ≤ 16 := by have := HL.out; omega
    by_cases hq0 : q = 0
    · subst hq0
      have HE : Hid (p + c = r) := show _ = _ by rw [HR.out, HV.out, bit0]; omega
      clear hv hq HV
      go_wp2_with fail
      go_ret
      rw [HE.out]
      exact ⟨rfl, rfl⟩
    · have d1 := gt0_t (Nat.pos_of_ne_zero hq0)
      have d1n : decide (0 < q) = true := by simp; omega
      obtain ⟨t, ht⟩ : ∃ t, t = q / 2 := ⟨_, rfl⟩
      obtain ⟨s, hs⟩ : ∃ s, s = p + c := ⟨_, rfl⟩
      have HN : Hid (Lib.bitLen x = (c + 1) + Lib.bitLen t) := show _ = _ by
        have h2 := Lib.bitLen_half q hq0 (by omega)
        rw [HV.out, h2, ht]
        omega
      have HT : Hid (t < 65536 ∧ t < q) := show _ ∧ _ by omega
      have hs2 : s + 1 < 4611686018427387904 := by omega
      have HS : Hid (s + 1 = p + (c + 1)) := show _ = _ by omega
      have e6 : (s : Int) + 1 = ((s + 1 : Nat) : Int) := by omega
      have z4 : (q : Int).tdiv 2 = (t : Int) := by rw [ht]; simp
      have z6 : (q : Int) / 2 = (t : Int) := by omega
      have HS1 : Hid ((s + 1 : Nat) = p + (c + 1)) := HS
      have z7 := wr16 HT.out.1
      have z5 := wr64 hs2
      rw [← hs]
      generalize s + 1 = s2 at *
      clear hv hq hq0 ht hs hs2 hcb HV HS
      go_wp2_with fail
      go_roundw
      case rel => exact ⟨rfl, t, c + 1, by rw [← HS1.out]; first | rfl | exact ret_val z5, by first | rfl | exact ret_val z7, HT.out.1, HN.out⟩
      case measure => simp [intOf]; exact HT.out.2

theorem or_add (v y i : Nat) (hi : 16 * i ≤ 64) (hv : v < 65536 ^ i) (hy : y % 65536 ^ i = 0) (hy2 : y < 18446744073709551616) (hv2 : v < 18446744073709551616) : bits .or .u64 (v : Int) (y : Int) = ((v + y : Nat) : Int) := by
  rw [(bits_nat .u64 64 (by decide) (fun n h0 h1 => by rw [IntKind.wrap_u64]; omega) v y hv2 hy2).2, Nat.or_comm]
  have e : 65536 ^ i = 2 ^ (16 * i) := by rw [Nat.pow_mul]
  rw [e] at hv hy
  have hq : y = 2 ^ (16 * i) * (y / 2 ^ (16 * i)) := by
    have := Nat.div_add_mod y (2 ^ (16 * i))
    omega
  rw [hq, ← Nat.two_pow_add_eq_or_of_lt hv (y / 2 ^ (16 * i)), ← hq, Nat.add_comm]

def SmallI (w : World) (xs : List Nat) (n : Nat) (v4 v17 : Value) (wr : World) : Prop :=
  wr = w ∧ ∃ i : Nat, i ≤ n ∧ v17 = .int .i64 (i : Int) ∧ v4 = .int .u64 ((nv (xs.take i) : Nat) : Int)
set_option maxHeartbeats 2000000 in
theorem small_yes (A : Option Addr) (n c : Nat) (a : Nat) (w : World) (h : Digs w A n (dg a)) (ha : a < top) (hn : n ≤ 4) :
    Calls Try.prog 25 #[.slice A n c] w fun e w' => e = .returned (.tuple #[.int .u64 (a : Int), .bool true]) ∧ w' = w := by
  have c1 := Lib.hid (is_yes A n c a w h ha)
  have d0 : decide ((4 : Int) < (n : Int)) = false := by simp; omega
  have d0n : decide (4 < n) = false := by simp; omega
  have HV := Lib.hid (nv_dg a)
  generalize dg a = xs at *
  have H := Lib.hid h
  clear h ha
  go_enter Try.func25, Try.ntmps25
  go_wp2_with fail
  refine c1.out.mono ?_
  rintro e v1 ⟨rfl, hw⟩; subst v1
  go_wp2_with fail
  go_loopw [4, 17] (fun v4 v17 wr => SmallI w xs n v4 v17 wr) (fun _ v _ => n - (intOf v).toNat)
  case atStart => exact ⟨rfl, 0, by omega, rfl, by simp [nv]⟩
  case round =>
    obtain ⟨rfl, i, hi, rfl, rfl⟩ := hrel
    by_cases hlt : i < n
    · have d1 := lt_t hlt
      have d1n := ltn_t hlt
      have i0 : (0 : Int) ≤ (i : Int) := by omega
      have iN : (i : Int) < (n : Int) := by omega
      obtain ⟨b, o, rfl, hb, hc⟩ := H.out.2.2 (by omega)
      have x1 := hc i hlt
      have hx := H.out.2.1.get i
      have ht := take_nv' xs i
      have hvl : nv (xs.take i) < 65536 ^ i := by
        have := nv_lt (H.out.2.1.take i)
        rwa [List.length_take, Nat.min_eq_left (by have := H.out.1; omega)] at this
      have hvl2 : nv (xs.take (i + 1)) < 65536 ^ (i + 1) := by
        have := nv_lt (H.out.2.1.take (i + 1))
        rwa [List.length_take, Nat.min_eq_left (by have := H.out.1; omega)] at this
      have hp4 : 65536 ^ (i + 1) ≤ 65536 ^ 4 := Nat.pow_le_pow_right (by omega) (by omega)
      have e4 : 65536 ^ 4 = 18446744073709551616 := by decide
      rw [e4] at hp4
      obtain ⟨v', hv'⟩ : ∃ v', v' = nv (xs.take (i + 1)) := ⟨_, rfl⟩
      have HVV := Lib.hid hv'
      rw [← hv'] at ht hvl2
      generalize nv (xs.take i) = v at *
      generalize xs.getD i 0 = x at *
      obtain ⟨y, hy⟩ : ∃ y, y = 65536 ^ i * x := ⟨_, rfl⟩
      obtain ⟨p, hp⟩ : ∃ p, p = 16 * i := ⟨_, rfl⟩
      have z1 := or_add v y i (by omega) hvl (by rw [hy, Nat.mul_mod_right]) (by omega) (by omega)
      rw [show v + y = v' by omega] at z1
      have z2 : IntKind.u64.wrap ((x : Int) * 2 ^ p) = (y : Int) := by
        have e5 : (x : Int) * 2 ^ p = (y : Int) := by
          rw [hy, hp, Nat.mul_comm, show (65536 : Nat) ^ i = 2 ^ (16 * i) by rw [Nat.pow_mul]]
          simp
          rw [Int.mul_comm, Nat.mul_comm i 16]
        rw [e5]
        exact wru64 (by omega)
      have z3 : 16 * (i : Int) = (p : Int) := by omega
      have HI := Lib.hid hlt
      have z4 := wru64 (Nat.lt_trans hx (by decide))
      clear ht hvl hvl2 hp4 e4 hv' hy hp hc hx hi
      go_wp2_with fail
      go_roundw
      case rel => exact ⟨rfl, i + 1, HI.out, ret_val (by have := HI.out; omega), ret_val (by rw [HVV.out])⟩
      case measure => simp [intOf]; have := HI.out; omega
    · obtain rfl : i = n := by omega
      have d1 := lt_f (Nat.le_refl i)
      have d1n := ltn_f (Nat.le_refl i)
      rw [List.take_of_length_le (by rw [H.out.1]; exact Nat.le_refl _), HV.out]
      go_wp2_with fail
      go_ret2
      exact ⟨rfl, rfl⟩

set_option maxHeartbeats 1000000 in
theorem small_no (A : Option Addr) (n c : Nat) (xs : List Nat) (w : World) (h : Digs w A n xs) (hn : n ≤ 1000000000) (hi : isN xs = false ∨ 4 < n) :
    Calls Try.prog 25 #[.slice A n c] w fun e w' => e = .returned (.tuple #[.int .u64 0, .bool false]) ∧ w' = w := by
  have c1 := Lib.hid (is_any A n c xs w h (by omega))
  by_cases hx : isN xs = false
  · rw [hx] at c1
    clear hi hx h
    go_enter Try.func25, Try.ntmps25
    go_wp2_with fail
    refine c1.out.mono ?_
    rintro e v1 ⟨rfl, hw⟩; subst v1
    go_wp2_with fail
    go_ret2
    exact ⟨rfl, rfl⟩
  · have h4 : 4 < n := by rcases hi with h | h; exact absurd h hx; exact h
    rw [eq_true_of_ne_false hx] at c1
    have d0 : decide ((4 : Int) < (n : Int)) = true := by simp; omega
    have d0n : decide (4 < n) = true := by simp; omega
    clear hi hx h
    go_enter Try.func25, Try.ntmps25
    go_wp2_with fail
    refine c1.out.mono ?_
    rintro e v1 ⟨rfl, hw⟩; subst v1
    go_wp2_with fail
    go_ret2
    exact ⟨rfl, rfl⟩

end Go.Proofs.Ytcejbkmmiklhbaa
