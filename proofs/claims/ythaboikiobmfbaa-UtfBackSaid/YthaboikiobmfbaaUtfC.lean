/-
  What utf.Rune, walk, Check and Count do, one contract each; no condition beyond what each contract asks.
-/
import Derived.Test.YthaboikiobmfbaaUtfB
namespace Go.Proofs.Ythaboikiobmfbaa
open Go.RowKit

/-- The character at whatever place. -/
def runeI (bs : List UInt8) (k : Int) : Nat × Nat := if k < 0 then (0, 0) else rune bs k.toNat
theorem runeI_nat (bs : List UInt8) (k : Nat) : runeI bs (k : Int) = rune bs k := by
  unfold runeI
  rw [if_neg (by omega)]
  rfl
theorem runeI_out (bs : List UInt8) (k : Int) (h : k < 0 ∨ (bs.length : Int) ≤ k) : runeI bs k = (0, 0) := by
  unfold runeI
  by_cases c : k < 0
  · rw [if_pos c]
  · rw [if_neg c, rune_past _ _ (by omega)]
theorem rune_one (bs : List UInt8) (k : Nat) (h1 : k < bs.length) (h2 : byt bs k ≤ 127) : rune bs k = (byt bs k, 1) := by
  unfold rune
  rw [if_neg (by omega), if_pos (by omega)]

/-- Bytes of memory that was there are still read as they were. -/
theorem Held.on {w w' : World} {A : Option Addr} {n : Nat} {bs : List UInt8} (h : Held w (· < w.heap.size) A n bs) (b : Below w.heap.size w w') : Held w' (· < w'.heap.size) A n bs :=
  (h.keep fun k hk => b.block k hk).weaken fun k hk => Nat.lt_of_lt_of_le hk b.size

set_option maxHeartbeats 400000 in
theorem rune_any (A : Option Addr) (n c : Nat) (bs : List UInt8) (k : Int) (w : World) (hh : Held w (· < w.heap.size) A n bs) (hn : n ≤ 100000000) :
    Calls Try.prog 9 #[.slice A n c, .int .i64 k] w (TwoPost (runeI bs k) w) := by
  have HH := Lib.hid hh
  clear hh
  by_cases c1 : k < 0
  · have d1 : decide (k < 0) = true := by simpa using c1
    rw [runeI_out bs k (.inl c1)]
    go_enter Try.func9, Try.ntmps9
    go_wp2_with fail
    go_ret2
    exact ⟨rfl, Below.refl _ _⟩
  · have d1 : decide (k < 0) = false := by simpa using c1
    obtain ⟨k, rfl⟩ := Int.eq_ofNat_of_zero_le (show 0 ≤ k by omega)
    by_cases c2 : n ≤ k
    · have d2 : decide ((n : Int) ≤ (k : Int)) = true := by simp; omega
      have d2n : decide (n ≤ k) = true := by simp; omega
      rw [runeI_out bs k (.inr (by rw [HH.out.1]; omega))]
      go_enter Try.func9, Try.ntmps9
      go_wp2_with fail
      go_ret2
      exact ⟨rfl, Below.refl _ _⟩
    · have d2 : decide ((n : Int) ≤ (k : Int)) = false := by simp; omega
      have d2n : decide (n ≤ k) = false := by simp; omega
      have hlt : k < n := by omega
      rw [runeI_nat]
      have HL : Hid (bs.length = n) := HH.out.1
      obtain ⟨b, o, rfl, _, hc⟩ := HH.out.2 (by omega)
      have hcp : w.cell? ⟨b, o + k, none⟩ = some (.int .u8 (byt bs k : Int)) := hc k hlt
      clear hc
      by_cases c3 : byt bs k ≤ 127
      · rw [rune_one bs k (by rw [HL.out]; exact hlt) c3]
        have hx := byt_lt bs k
        generalize byt bs k = x at hcp c3 hx
        have d3 : decide ((x : Int) ≤ 127) = true := by simp; omega
        go_enter Try.func9, Try.ntmps9
        go_wp2_with fail
        go_ret2
        exact ⟨rfl, Below.refl _ _⟩
      · have hx := byt_lt bs k
        have h128 : 128 ≤ byt bs k := by omega
        have HC := Lib.hid h128
        clear h128
        generalize hxe : byt bs k = x at hcp c3 hx
        clear hxe
        have d3 : decide ((x : Int) ≤ 127) = false := by simp; omega
        go_enter Try.func9, Try.ntmps9
        go_wp2_with fail
        refine (long_any _ n c bs k w HH.out hn hlt HC.out).mono ?_
        rintro e w1 ⟨rfl, B1⟩
        go_wp2_with fail
        go_ret2
        exact ⟨rfl, B1⟩

def WalkRel (w : World) (bs : List UInt8) (i j : Value) (wr : World) : Prop :=
  ∃ k m : Nat, k ≤ bs.length ∧ m ≤ k ∧ i = .int .i64 (k : Int) ∧ j = .int .i64 (m : Int) ∧ stop bs k = stop bs 0 ∧ m + cnt bs k = cnt bs 0 ∧ Below w.heap.size w wr

set_option maxHeartbeats 400000 in
theorem walk_any (A : Option Addr) (n c : Nat) (bs : List UInt8) (w : World) (hh : Held w (· < w.heap.size) A n bs) (hn : n ≤ 100000000) :
    Calls Try.prog 20 #[.slice A n c] w (TwoPost (stop bs 0, cnt bs 0) w) := by
  have HH := Lib.hid hh
  have HL := Lib.hid hh.1
  clear hh
  go_enter Try.func20, Try.ntmps20
  go_wp2_with fail
  go_loopw [2, 3] (fun i j wr => WalkRel w bs i j wr) (fun i _ _ => n - (intOf i).toNat)
  case atStart => exact ⟨0, 0, Nat.zero_le _, Nat.le_refl _, rfl, rfl, rfl, Nat.zero_add _, Below.refl _ _⟩
  case round =>
    obtain ⟨k, m, hk, hm, rfl, rfl, hs, hc, Br⟩ := hrel
    have HS := Lib.hid hs
    have HC := Lib.hid hc
    have hkn : k ≤ n := by rw [← HL.out]; exact hk
    clear hs hc hk
    go_wp2_with fail
    refine (rune_any A n c bs (k : Int) wr (HH.out.on Br) hn).mono ?_
    rw [runeI_nat]
    rintro e w1 ⟨rfl, B1⟩
    have B2 : Below w.heap.size w w1 := Br.trans (B1.mono Br.size)
    clear B1
    have hr := rune_cases bs k
    by_cases h0 : (rune bs k).2 = 0
    · have HS' : Hid (k = stop bs 0) := show _ from (stop_end h0).symm.trans HS.out
      have HC' : Hid (m = cnt bs 0) := by
        have := HC.out
        rw [cnt_end h0] at this
        exact this
      clear hr
      generalize rune bs k = r at h0
      obtain ⟨r1, r2⟩ := r
      simp only at h0
      subst h0
      go_wp2_with fail
      go_ret2
      exact ⟨two_num (congrArg _ HS'.out) (congrArg _ HC'.out), B2⟩
    · have hb : 1 ≤ (rune bs k).2 ∧ k + (rune bs k).2 ≤ n := by
        rcases hr with e | e
        · exact absurd (by rw [e]) h0
        · rw [← HL.out]; exact ⟨e.1, e.2.2.1⟩
      have HS' : Hid (stop bs (k + (rune bs k).2) = stop bs 0) := show _ from (stop_on h0).symm.trans HS.out
      have HC' : Hid (m + 1 + cnt bs (k + (rune bs k).2) = cnt bs 0) := by
        have := HC.out
        rw [cnt_on h0] at this
        show _ = _
        omega
      clear hr h0
      generalize rune bs k = r at hb HS' HC'
      obtain ⟨r1, r2⟩ := r
      simp only at hb HS' HC'
      have d0 : ((r2 : Int) == 0) = false := by simp; omega
      go_wp2_with fail
      go_roundw
      case rel => exact ⟨k + r2, m + 1, by rw [HL.out]; exact hb.2, by omega, by go_num, by go_num, HS'.out, HC'.out, B2⟩
      case measure => simp [intOf]; omega

/-- Are bytes whole? -/
def wholeB (bs : List UInt8) : Bool := decide (stop bs 0 = bs.length)
theorem int_num_bool {a b : Int} {x y : Bool} (h : a = b) (h' : x = y) : Ending.returned (.tuple #[.int .i64 a, .bool x]) = .returned (.tuple #[.int .i64 b, .bool y]) := by rw [h, h']

set_option maxHeartbeats 400000 in
theorem check_any (A : Option Addr) (n c : Nat) (bs : List UInt8) (w : World) (hh : Held w (· < w.heap.size) A n bs) (hn : n ≤ 100000000) :
    Calls Try.prog 11 #[.slice A n c] w fun e w' => e = .returned (.tuple #[.int .i64 (stop bs 0 : Int), .bool (wholeB bs)]) ∧ Below w.heap.size w w' := by
  have HH := Lib.hid hh
  clear hh
  go_enter Try.func11, Try.ntmps11
  go_wp2_with fail
  refine (walk_any A n c bs w HH.out hn).mono ?_
  rintro e w1 ⟨rfl, B1⟩
  go_wp2_with fail
  go_ret2
  refine ⟨int_num_bool rfl ?_, B1⟩
  unfold wholeB
  rw [HH.out.1, Bool.eq_iff_iff]
  simp
  omega

set_option maxHeartbeats 400000 in
theorem count_any (A : Option Addr) (n c : Nat) (bs : List UInt8) (w : World) (hh : Held w (· < w.heap.size) A n bs) (hn : n ≤ 100000000) :
    Calls Try.prog 13 #[.slice A n c] w fun e w' => e = .returned (.int .i64 (cnt bs 0 : Int)) ∧ Below w.heap.size w w' := by
  have HH := Lib.hid hh
  clear hh
  go_enter Try.func13, Try.ntmps13
  go_wp2_with fail
  refine (walk_any A n c bs w HH.out hn).mono ?_
  rintro e w1 ⟨rfl, B1⟩
  go_wp2_with fail
  go_ret
  exact ⟨rfl, B1⟩

end Go.Proofs.Ythaboikiobmfbaa
