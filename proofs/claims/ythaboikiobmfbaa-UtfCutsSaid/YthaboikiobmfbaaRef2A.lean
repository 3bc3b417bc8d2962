/-
  What the document's answers Rune, Check and Count do, one contract each; no condition beyond what each contract asks.
-/
import Derived.Test.YthaboikiobmfbaaUtfC
namespace Go.Proofs.Ythaboikiobmfbaa
open Go.RowKit

/-- Bits that were read up to now, and what is still to be read, come to the same. -/
def RefRel (bs : List UInt8) (k N r0 : Nat) (r i : Value) : Prop :=
  ∃ j v : Nat, 1 ≤ j ∧ j ≤ N ∧ i = .int .i64 (j : Int) ∧ r = .int .i64 (v : Int) ∧ v < 10000000 ∧ v < 32 * 64 ^ (j - 1) ∧ more bs (N - j) (k + j) v = more bs (N - 1) (k + 1) r0

theorem fin_short {bs : List UInt8} {least N k r0 : Nat} (h1 : 1 ≤ N) (h : bs.length < k + N) (hk : k < bs.length) : fin least N (more bs (N - 1) (k + 1) r0) = (0, 0) := by
  cases hm : more bs (N - 1) (k + 1) r0 with
  | none => rfl
  | some r =>
    have := (more_bounds bs _ _ _ _ hm).2.2
    omega
theorem ref_bad {bs : List UInt8} {least N k r0 j v : Nat} (hj : j < N) (hm : more bs (N - j) (k + j) v = more bs (N - 1) (k + 1) r0) (h : byt bs (k + j) < 128 ∨ 192 ≤ byt bs (k + j)) : fin least N (more bs (N - 1) (k + 1) r0) = (0, 0) := by
  rw [← hm, show N - j = (N - j - 1) + 1 by omega, more, if_neg (by omega)]
  rfl
theorem ref_next {bs : List UInt8} {N k r0 j v : Nat} (hj : j < N) (hk : k + j < bs.length) (hm : more bs (N - j) (k + j) v = more bs (N - 1) (k + 1) r0) (h : 128 ≤ byt bs (k + j)) (h' : byt bs (k + j) < 192) :
    more bs (N - (j + 1)) (k + (j + 1)) (v * 64 + (byt bs (k + j) - 128)) = more bs (N - 1) (k + 1) r0 := by
  rw [← hm, show N - j = (N - (j + 1)) + 1 by omega, more, if_pos ⟨hk, h, h'⟩]
  rfl
theorem ref_end {bs : List UInt8} {least N k r0 v : Nat} (hm : more bs (N - N) (k + N) v = more bs (N - 1) (k + 1) r0) : fin least N (more bs (N - 1) (k + 1) r0) = fin least N (some v) := by
  rw [← hm, Nat.sub_self]
  rfl
theorem fin_no {least N v : Nat} (h : v < least ∨ 1114111 < v ∨ (55296 ≤ v ∧ v ≤ 57343)) : fin least N (some v) = (0, 0) := by
  simp only [fin]
  rw [if_pos h]
theorem fin_yes {least N v : Nat} (h : ¬ (v < least ∨ 1114111 < v ∨ (55296 ≤ v ∧ v ≤ 57343))) : fin least N (some v) = (v, N) := by
  simp only [fin]
  rw [if_neg h]

theorem two_out {out r : Nat × Nat} (h : out = r) : Ending.returned (.tuple #[.int .i64 (r.1 : Int), .int .i64 (r.2 : Int)]) = .returned (.tuple #[.int .i64 (out.1 : Int), .int .i64 (out.2 : Int)]) := by rw [h]
theorem ret_val {k : IntKind} {a b : Int} (h : a = b) : Value.int k a = .int k b := by rw [h]

set_option maxHeartbeats 8000000 in
set_option maxRecDepth 100000 in
theorem ref_rune_any (A : Option Addr) (n c : Nat) (bs : List UInt8) (k : Int) (w : World) (hh : Held w (· < w.heap.size) A n bs) (hn : n ≤ 100000000) :
    Calls Try.prog 10 #[.slice A n c, .int .i64 k] w fun e w' => e = .returned (.tuple #[.int .i64 ((runeI bs k).1 : Int), .int .i64 ((runeI bs k).2 : Int)]) ∧ w = w' := by
  have HH := Lib.hid hh
  clear hh
  by_cases c1 : k < 0
  · have d1 : decide (k < 0) = true := by simpa using c1
    rw [runeI_out bs k (.inl c1)]
    go_enter Try.func10, Try.ntmps10
    go_wp2_with fail
    go_ret2
    exact ⟨rfl, rfl⟩
  have d1 : decide (k < 0) = false := by simpa using c1
  obtain ⟨k, rfl⟩ := Int.eq_ofNat_of_zero_le (show 0 ≤ k by omega)
  by_cases c2 : n ≤ k
  · have d2 : decide ((n : Int) ≤ (k : Int)) = true := by simp; omega
    have d2n : decide (n ≤ k) = true := by simp; omega
    rw [runeI_out bs k (.inr (by rw [HH.out.1]; omega))]
    go_enter Try.func10, Try.ntmps10
    go_wp2_with fail
    go_ret2
    exact ⟨rfl, rfl⟩
  have d2 : decide ((n : Int) ≤ (k : Int)) = false := by simp; omega
  have d2n : decide (n ≤ k) = false := by simp; omega
  have hlt : k < n := by omega
  rw [runeI_nat]
  have HL : Hid (bs.length = n) := HH.out.1
  obtain ⟨b, o, rfl, _, hc⟩ := HH.out.2 (by omega)
  have hcp : w.cell? ⟨b, o + k, none⟩ = some (.int .u8 (byt bs k : Int)) := hc k hlt
  have HC : Hid (∀ i, i < n → w.cell? ⟨b, o + i, none⟩ = some (.int .u8 (byt bs i : Int))) := hc
  clear hc HH
  have hx := byt_lt bs k
  obtain ⟨x, hxe⟩ : ∃ x, x = byt bs k := ⟨_, rfl⟩
  have HR : Hid (rune bs k = if x < 128 then (x, 1) else if x < 192 then (0, 0)
      else if x < 224 then fin 128 2 (more bs 1 (k + 1) (x - 192))
      else if x < 240 then fin 2048 3 (more bs 2 (k + 1) (x - 224))
      else if x < 248 then fin 65536 4 (more bs 3 (k + 1) (x - 240)) else (0, 0)) := show _ = _ by
    unfold rune
    rw [if_neg (by rw [HL.out]; omega), ← hxe]
  rw [← hxe] at hcp hx
  clear hxe
  generalize rune bs k = out at HR ⊢
  by_cases c3 : x < 128
  · have d3 : decide ((x : Int) < 128) = true := by simp; omega
    have HO : Hid (out = _) := show _ from HR.out.trans (if_pos c3)
    clear HR
    go_enter Try.func10, Try.ntmps10
    go_wp2_with fail
    go_ret2
    exact ⟨two_out HO.out, rfl⟩
  have d3 : decide ((x : Int) < 128) = false := by simp; omega
  by_cases c4 : x < 192
  · have d4 : decide (192 ≤ (x : Int)) = false := by simp; omega
    have d5 : decide (224 ≤ (x : Int)) = false := by simp; omega
    have d6 : decide (240 ≤ (x : Int)) = false := by simp; omega
    have HO : Hid (out = _) := show _ from HR.out.trans (by rw [if_neg c3, if_pos c4])
    clear HR
    go_enter Try.func10, Try.ntmps10
    go_wp2_with fail
    go_ret2
    exact ⟨two_out HO.out, rfl⟩
  have d4 : decide (192 ≤ (x : Int)) = true := by simp; omega
  by_cases c5 : 248 ≤ x
  · have d5 : decide ((x : Int) < 224) = false := by simp; omega
    have d6 : decide (224 ≤ (x : Int)) = true := by simp; omega
    have d7 : decide ((x : Int) < 240) = false := by simp; omega
    have d8 : decide (240 ≤ (x : Int)) = true := by simp; omega
    have d9 : decide ((x : Int) < 248) = false := by simp; omega
    have HO : Hid (out = _) := show _ from HR.out.trans (by rw [if_neg c3, if_neg c4, if_neg (by omega), if_neg (by omega), if_neg (by omega)])
    clear HR
    go_enter Try.func10, Try.ntmps10
    go_wp2_with fail
    go_ret2
    exact ⟨two_out HO.out, rfl⟩
  by_cases c6 : x < 224
  · have e0 : decide ((x : Int) < 224) = true := by simp; omega
    obtain ⟨r0, hr0e⟩ : ∃ r0, r0 = x - 192 := ⟨_, rfl⟩
    have HO : Hid (out = fin 128 2 (more bs (2 - 1) (k + 1) r0)) := show _ from HR.out.trans (by rw [if_neg c3, if_neg c4, if_pos c6, hr0e])
    have ES : Hid ((x : Int) - 192 = (r0 : Int)) := show _ = _ by omega
    have hr0 : r0 < 32 := by omega
    clear HR hr0e
    have dn : decide ((x : Int) < 192) = false := by simp; omega
    by_cases s1 : n < k + 2
    · have f1 : decide ((n : Int) - (k : Int) < 2) = true := by simp; omega
      have HO' : Hid (out = _) := show _ from HO.out.trans (fin_short (N := 2) (by decide) (by rw [HL.out]; exact s1) (by rw [HL.out]; exact hlt))
      go_enter Try.func10, Try.ntmps10
      go_wp2_with fail
      go_ret2
      exact ⟨two_out HO'.out, rfl⟩
    have f1 : decide ((n : Int) - (k : Int) < 2) = false := by simp; omega
    go_enter Try.func10, Try.ntmps10
    go_wp2_with fail
    rw [ES.out]
    clear ES
    go_loop [8, 10] (fun r i => RefRel bs k 2 r0 r i) (fun _ i => 2 - (intOf i).toNat)
    case atStart => exact ⟨1, r0, Nat.le_refl _, by decide, rfl, rfl, by omega, by omega, rfl⟩
    case round =>
      obtain ⟨j, v, hj1, hjN, rfl, rfl, hv, hv2, hm⟩ := hrel
      have HM := Lib.hid hm
      clear hm
      by_cases hj : j < 2
      · have g1 : decide ((j : Int) < 2) = true := by simp; omega
        have hcj := HC.out (k + j) (by omega)
        have hy := byt_lt bs (k + j)
        obtain ⟨y, hye⟩ : ∃ y, y = byt bs (k + j) := ⟨_, rfl⟩
        rw [← hye] at hcj hy
        have HY := Lib.hid hye
        clear hye
        by_cases y1 : y < 128 ∨ 192 ≤ y
        · have HO' : Hid (out = _) := show _ from HO.out.trans (ref_bad hj HM.out (by rw [← HY.out]; exact y1))
          by_cases y2 : y < 128
          · have g2 : decide ((y : Int) < 128) = true := by simp; omega
            go_wp2_with fail
            go_ret2
            exact ⟨two_out HO'.out, rfl⟩
          · have g2 : decide ((y : Int) < 128) = false := by simp; omega
            have g3 : decide (192 ≤ (y : Int)) = true := by simp; omega
            go_wp2_with fail
            go_ret2
            exact ⟨two_out HO'.out, rfl⟩
        · have HN := Lib.hid (ref_next hj (by rw [HL.out]; omega) HM.out (by rw [← HY.out]; omega) (by rw [← HY.out]; omega))
          rw [← HY.out] at HN
          have g2 : decide ((y : Int) < 128) = false := by simp; omega
          have g3 : decide (192 ≤ (y : Int)) = false := by simp; omega
          have hv3 : v * 64 + (y - 128) < 32 * 64 ^ j := by
            have e : (64 : Nat) ^ j = 64 ^ (j - 1) * 64 := by rw [← Nat.pow_succ]; congr 1; omega
            rw [e]
            generalize 64 ^ (j - 1) = t at hv2
            omega
          have hv4 : v * 64 + (y - 128) < 10000000 := by
            have : j ≤ 3 := by omega
            have h3 : 32 * 64 ^ (j - 1) ≤ 32 * 64 ^ 2 := Nat.mul_le_mul_left _ (Nat.pow_le_pow_right (by decide) (by omega))
            omega
          go_wp2_with fail
          go_round
          case rel => exact ⟨j + 1, v * 64 + (y - 128), by omega, by omega, by go_num, ret_val (by omega), hv4, hv3, HN.out⟩
          case measure => simp [intOf]; omega
      · obtain rfl : j = 2 := by omega
        have HOe : Hid (out = _) := show _ from HO.out.trans (ref_end HM.out)
        by_cases z : v < 128 ∨ 1114111 < v ∨ (55296 ≤ v ∧ v ≤ 57343)
        · have HO' : Hid (out = _) := show _ from HOe.out.trans (fin_no z)
          by_cases z1 : v < 128
          · have q1 : decide ((v : Int) < 128) = true := by simp; omega
            go_wp2_with fail
            go_ret2
            exact ⟨two_out HO'.out, rfl⟩
          have q1 : decide ((v : Int) < 128) = false := by simp; omega
          by_cases z2 : 1114111 < v
          · have q2 : decide (1114111 < (v : Int)) = true := by simp; omega
            go_wp2_with fail
            go_ret2
            exact ⟨two_out HO'.out, rfl⟩
          have q2 : decide (1114111 < (v : Int)) = false := by simp; omega
          have q3 : decide (55296 ≤ (v : Int)) = true := by simp; omega
          have q4 : decide ((v : Int) ≤ 57343) = true := by simp; omega
          go_wp2_with fail
          go_ret2
          exact ⟨two_out HO'.out, rfl⟩
        · have HO' : Hid (out = _) := show _ from HOe.out.trans (fin_yes z)
          have q1 : decide ((v : Int) < 128) = false := by simp; omega
          have q2 : decide (1114111 < (v : Int)) = false := by simp; omega
          by_cases z3 : 55296 ≤ v
          · have q3 : decide (55296 ≤ (v : Int)) = true := by simp; omega
            have q4 : decide ((v : Int) ≤ 57343) = false := by simp; omega
            go_wp2_with fail
            go_ret2
            exact ⟨two_out HO'.out, rfl⟩
          · have q3 : decide (55296 ≤ (v : Int)) = false := by simp; omega
            go_wp2_with fail
            go_ret2
            exact ⟨two_out HO'.out, rfl⟩
  have d6 : decide ((x : Int) < 224) = false := by simp; omega
  have d7 : decide (224 ≤ (x : Int)) = true := by simp; omega
  by_cases c7 : x < 240
  · have e0 : decide ((x : Int) < 240) = true := by simp; omega
    obtain ⟨r0, hr0e⟩ : ∃ r0, r0 = x - 224 := ⟨_, rfl⟩
    have HO : Hid (out = fin 2048 3 (more bs (3 - 1) (k + 1) r0)) := show _ from HR.out.trans (by rw [if_neg c3, if_neg c4, if_neg c6, if_pos c7, hr0e])
    have ES : Hid ((x : Int) - 224 = (r0 : Int)) := show _ = _ by omega
    have hr0 : r0 < 32 := by omega
    clear HR hr0e
    have dn : decide ((x : Int) < 192) = false := by simp; omega
    by_cases s1 : n < k + 3
    · have f1 : decide ((n : Int) - (k : Int) < 3) = true := by simp; omega
      have HO' : Hid (out = _) := show _ from HO.out.trans (fin_short (N := 3) (by decide) (by rw [HL.out]; exact s1) (by rw [HL.out]; exact hlt))
      go_enter Try.func10, Try.ntmps10
      go_wp2_with fail
      go_ret2
      exact ⟨two_out HO'.out, rfl⟩
    have f1 : decide ((n : Int) - (k : Int) < 3) = false := by simp; omega
    go_enter Try.func10, Try.ntmps10
    go_wp2_with fail
    rw [ES.out]
    clear ES
    go_loop [8, 10] (fun r i => RefRel bs k 3 r0 r i) (fun _ i => 3 - (intOf i).toNat)
    case atStart => exact ⟨1, r0, Nat.le_refl _, by decide, rfl, rfl, by omega, by omega, rfl⟩
    case round =>
      obtain ⟨j, v, hj1, hjN, rfl, rfl, hv, hv2, hm⟩ := hrel
      have HM := Lib.hid hm
      clear hm
      by_cases hj : j < 3
      · have g1 : decide ((j : Int) < 3) = true := by simp; omega
        have hcj := HC.out (k + j) (by omega)
        have hy := byt_lt bs (k + j)
        obtain ⟨y, hye⟩ : ∃ y, y = byt bs (k + j) := ⟨_, rfl⟩
        rw [← hye] at hcj hy
        have HY := Lib.hid hye
        clear hye
        by_cases y1 : y < 128 ∨ 192 ≤ y
        · have HO' : Hid (out = _) := show _ from HO.out.trans (ref_bad hj HM.out (by rw [← HY.out]; exact y1))
          by_cases y2 : y < 128
          · have g2 : decide ((y : Int) < 128) = true := by simp; omega
            go_wp2_with fail
            go_ret2
            exact ⟨two_out HO'.out, rfl⟩
          · have g2 : decide ((y : Int) < 128) = false := by simp; omega
            have g3 : decide (192 ≤ (y : Int)) = true := by simp; omega
            go_wp2_with fail
            go_ret2
            exact ⟨two_out HO'.out, rfl⟩
        · have HN := Lib.hid (ref_next hj (by rw [HL.out]; omega) HM.out (by rw [← HY.out]; omega) (by rw [← HY.out]; omega))
          rw [← HY.out] at HN
          have g2 : decide ((y : Int) < 128) = false := by simp; omega
          have g3 : decide (192 ≤ (y : Int)) = false := by simp; omega
          have hv3 : v * 64 + (y - 128) < 32 * 64 ^ j := by
            have e : (64 : Nat) ^ j = 64 ^ (j - 1) * 64 := by rw [← Nat.pow_succ]; congr 1; omega
            rw [e]
            generalize 64 ^ (j - 1) = t at hv2
            omega
          have hv4 : v * 64 + (y - 128) < 10000000 := by
            have : j ≤ 3 := by omega
            have h3 : 32 * 64 ^ (j - 1) ≤ 32 * 64 ^ 2 := Nat.mul_le_mul_left _ (Nat.pow_le_pow_right (by decide) (by omega))
            omega
          go_wp2_with fail
          go_round
          case rel => exact ⟨j + 1, v * 64 + (y - 128), by omega, by omega, by go_num, ret_val (by omega), hv4, hv3, HN.out⟩
          case measure => simp [intOf]; omega
      · obtain rfl : j = 3 := by omega
        have HOe : Hid (out = _) := show _ from HO.out.trans (ref_end HM.out)
        by_cases z : v < 2048 ∨ 1114111 < v ∨ (55296 ≤ v ∧ v ≤ 57343)
        · have HO' : Hid (out = _) := show _ from HOe.out.trans (fin_no z)
          by_cases z1 : v < 2048
          · have q1 : decide ((v : Int) < 2048) = true := by simp; omega
            go_wp2_with fail
            go_ret2
            exact ⟨two_out HO'.out, rfl⟩
          have q1 : decide ((v : Int) < 2048) = false := by simp; omega
          by_cases z2 : 1114111 < v
          · have q2 : decide (1114111 < (v : Int)) = true := by simp; omega
            go_wp2_with fail
            go_ret2
            exact ⟨two_out HO'.out, rfl⟩
          have q2 : decide (1114111 < (v : Int)) = false := by simp; omega
          have q3 : decide (55296 ≤ (v : Int)) = true := by simp; omega
          have q4 : decide ((v : Int) ≤ 57343) = true := by simp; omega
          go_wp2_with fail
          go_ret2
          exact ⟨two_out HO'.out, rfl⟩
        · have HO' : Hid (out = _) := show _ from HOe.out.trans (fin_yes z)
          have q1 : decide ((v : Int) < 2048) = false := by simp; omega
          have q2 : decide (1114111 < (v : Int)) = false := by simp; omega
          by_cases z3 : 55296 ≤ v
          · have q3 : decide (55296 ≤ (v : Int)) = true := by simp; omega
            have q4 : decide ((v : Int) ≤ 57343) = false := by simp; omega
            go_wp2_with fail
            go_ret2
            exact ⟨two_out HO'.out, rfl⟩
          · have q3 : decide (55296 ≤ (v : Int)) = false := by simp; omega
            go_wp2_with fail
            go_ret2
            exact ⟨two_out HO'.out, rfl⟩
  have d8 : decide ((x : Int) < 240) = false := by simp; omega
  have d9 : decide (240 ≤ (x : Int)) = true := by simp; omega
  have e0 : decide ((x : Int) < 248) = true := by simp; omega
  obtain ⟨r0, hr0e⟩ : ∃ r0, r0 = x - 240 := ⟨_, rfl⟩
  have HO : Hid (out = fin 65536 4 (more bs (4 - 1) (k + 1) r0)) := show _ from HR.out.trans (by rw [if_neg c3, if_neg c4, if_neg c6, if_neg c7, if_pos (by omega), hr0e])
  have ES : Hid ((x : Int) - 240 = (r0 : Int)) := show _ = _ by omega
  have hr0 : r0 < 32 := by omega
  clear HR hr0e
  have dn : decide ((x : Int) < 192) = false := by simp; omega
  by_cases s1 : n < k + 4
  · have f1 : decide ((n : Int) - (k : Int) < 4) = true := by simp; omega
    have HO' : Hid (out = _) := show _ from HO.out.trans (fin_short (N := 4) (by decide) (by rw [HL.out]; exact s1) (by rw [HL.out]; exact hlt))
    go_enter Try.func10, Try.ntmps10
    go_wp2_with fail
    go_ret2
    exact ⟨two_out HO'.out, rfl⟩
  have f1 : decide ((n : Int) - (k : Int) < 4) = false := by simp; omega
  go_enter Try.func10, Try.ntmps10
  go_wp2_with fail
  rw [ES.out]
  clear ES
  go_loop [8, 10] (fun r i => RefRel bs k 4 r0 r i) (fun _ i => 4 - (intOf i).toNat)
  case atStart => exact ⟨1, r0, Nat.le_refl _, by decide, rfl, rfl, by omega, by omega, rfl⟩
  case round =>
    obtain ⟨j, v, hj1, hjN, rfl, rfl, hv, hv2, hm⟩ := hrel
    have HM := Lib.hid hm
    clear hm
    by_cases hj : j < 4
    · have g1 : decide ((j : Int) < 4) = true := by simp; omega
      have hcj := HC.out (k + j) (by omega)
      have hy := byt_lt bs (k + j)
      obtain ⟨y, hye⟩ : ∃ y, y = byt bs (k + j) := ⟨_, rfl⟩
      rw [← hye] at hcj hy
      have HY := Lib.hid hye
      clear hye
      by_cases y1 : y < 128 ∨ 192 ≤ y
      · have HO' : Hid (out = _) := show _ from HO.out.trans (ref_bad hj HM.out (by rw [← HY.out]; exact y1))
        by_cases y2 : y < 128
        · have g2 : decide ((y : Int) < 128) = true := by simp; omega
          go_wp2_with fail
          go_ret2
          exact ⟨two_out HO'.out, rfl⟩
        · have g2 : decide ((y : Int) < 128) = false := by simp; omega
          have g3 : decide (192 ≤ (y : Int)) = true := by simp; omega
          go_wp2_with fail
          go_ret2
          exact ⟨two_out HO'.out, rfl⟩
      · have HN := Lib.hid (ref_next hj (by rw [HL.out]; omega) HM.out (by rw [← HY.out]; omega) (by rw [← HY.out]; omega))
        rw [← HY.out] at HN
        have g2 : decide ((y : Int) < 128) = false := by simp; omega
        have g3 : decide (192 ≤ (y : Int)) = false := by simp; omega
        have hv3 : v * 64 + (y - 128) < 32 * 64 ^ j := by
          have e : (64 : Nat) ^ j = 64 ^ (j - 1) * 64 := by rw [← Nat.pow_succ]; congr 1; omega
          rw [e]
          generalize 64 ^ (j - 1) = t at hv2
          omega
        have hv4 : v * 64 + (y - 128) < 10000000 := by
          have : j ≤ 3 := by omega
          have h3 : 32 * 64 ^ (j - 1) ≤ 32 * 64 ^ 2 := Nat.mul_le_mul_left _ (Nat.pow_le_pow_right (by decide) (by omega))
          omega
        go_wp2_with fail
        go_round
        case rel => exact ⟨j + 1, v * 64 + (y - 128), by omega, by omega, by go_num, ret_val (by omega), hv4, hv3, HN.out⟩
        case measure => simp [intOf]; omega
    · obtain rfl : j = 4 := by omega
      have HOe : Hid (out = _) := show _ from HO.out.trans (ref_end HM.out)
      by_cases z : v < 65536 ∨ 1114111 < v ∨ (55296 ≤ v ∧ v ≤ 57343)
      · have HO' : Hid (out = _) := show _ from HOe.out.trans (fin_no z)
        by_cases z1 : v < 65536
        · have q1 : decide ((v : Int) < 65536) = true := by simp; omega
          go_wp2_with fail
          go_ret2
          exact ⟨two_out HO'.out, rfl⟩
        have q1 : decide ((v : Int) < 65536) = false := by simp; omega
        by_cases z2 : 1114111 < v
        · have q2 : decide (1114111 < (v : Int)) = true := by simp; omega
          go_wp2_with fail
          go_ret2
          exact ⟨two_out HO'.out, rfl⟩
        have q2 : decide (1114111 < (v : Int)) = false := by simp; omega
        have q3 : decide (55296 ≤ (v : Int)) = true := by simp; omega
        have q4 : decide ((v : Int) ≤ 57343) = true := by simp; omega
        go_wp2_with fail
        go_ret2
        exact ⟨two_out HO'.out, rfl⟩
      · have HO' : Hid (out = _) := show _ from HOe.out.trans (fin_yes z)
        have q1 : decide ((v : Int) < 65536) = false := by simp; omega
        have q2 : decide (1114111 < (v : Int)) = false := by simp; omega
        by_cases z3 : 55296 ≤ v
        · have q3 : decide (55296 ≤ (v : Int)) = true := by simp; omega
          have q4 : decide ((v : Int) ≤ 57343) = false := by simp; omega
          go_wp2_with fail
          go_ret2
          exact ⟨two_out HO'.out, rfl⟩
        · have q3 : decide (55296 ≤ (v : Int)) = false := by simp; omega
          go_wp2_with fail
          go_ret2
          exact ⟨two_out HO'.out, rfl⟩

def RefCheckRel (bs : List UInt8) (i : Value) : Prop := ∃ k : Nat, k ≤ bs.length ∧ i = .int .i64 (k : Int) ∧ stop bs k = stop bs 0

set_option maxHeartbeats 400000 in
theorem ref_check_any (A : Option Addr) (n c : Nat) (bs : List UInt8) (w : World) (hh : Held w (· < w.heap.size) A n bs) (hn : n ≤ 100000000) :
    Calls Try.prog 12 #[.slice A n c] w fun e w' => e = .returned (.tuple #[.int .i64 (stop bs 0 : Int), .bool (wholeB bs)]) ∧ w = w' := by
  have HH := Lib.hid hh
  have HL := Lib.hid hh.1
  clear hh
  go_enter Try.func12, Try.ntmps12
  go_wp2_with fail
  go_loop [4] (fun i => RefCheckRel bs i) (fun i => n - (intOf i).toNat)
  case atStart => exact ⟨0, Nat.zero_le _, rfl, rfl⟩
  case round =>
    obtain ⟨k, hk, rfl, hs⟩ := hrel
    have HS := Lib.hid hs
    have hkn : k ≤ n := by rw [← HL.out]; exact hk
    clear hs hk
    by_cases hlt : k < n
    · have d1 : decide ((k : Int) < (n : Int)) = true := by simp; omega
      have d1n : decide (k < n) = true := by simp; omega
      go_wp2_with fail
      refine (ref_rune_any A n c bs (k : Int) _ HH.out hn).mono ?_
      rw [runeI_nat]
      rintro e w1 ⟨rfl, rfl⟩
      have hr := rune_cases bs k
      by_cases h0 : (rune bs k).2 = 0
      · have HS' : Hid (k = stop bs 0) := show _ from (stop_end h0).symm.trans HS.out
        clear hr
        generalize rune bs k = r at h0
        obtain ⟨r1, r2⟩ := r
        simp only at h0
        subst h0
        go_wp2_with fail
        go_ret2
        refine ⟨int_num_bool (congrArg _ HS'.out) ?_, rfl⟩
        unfold wholeB
        rw [← HS'.out, HL.out]
        simp
        omega
      · have hb : 1 ≤ (rune bs k).2 ∧ k + (rune bs k).2 ≤ n := by
          rcases hr with e | e
          · exact absurd (by rw [e]) h0
          · rw [← HL.out]; exact ⟨e.1, e.2.2.1⟩
        have HS' : Hid (stop bs (k + (rune bs k).2) = stop bs 0) := show _ from (stop_on h0).symm.trans HS.out
        clear hr h0
        generalize rune bs k = r at hb HS'
        obtain ⟨r1, r2⟩ := r
        simp only at hb HS'
        have d0 : ((r2 : Int) == 0) = false := by simp; omega
        go_wp2_with fail
        go_round
        case rel => exact ⟨k + r2, by rw [HL.out]; exact hb.2, by go_num, HS'.out⟩
        case measure => simp [intOf]; omega
    · have d1 : decide ((k : Int) < (n : Int)) = false := by simp; omega
      have d1n : decide (k < n) = false := by simp; omega
      have HS' : Hid (n = stop bs 0) := by
        have h0 : (rune bs k).2 = 0 := by rw [rune_past bs k (by rw [HL.out]; omega)]
        have := (stop_end h0).symm.trans HS.out
        show _ = _
        omega
      go_wp2_with fail
      go_ret2
      refine ⟨int_num_bool (congrArg _ HS'.out) ?_, rfl⟩
      unfold wholeB
      rw [← HS'.out, HL.out]
      simp

def RefCountRel (bs : List UInt8) (j i : Value) : Prop := ∃ k m : Nat, k ≤ bs.length ∧ m ≤ k ∧ i = .int .i64 (k : Int) ∧ j = .int .i64 (m : Int) ∧ m + cnt bs k = cnt bs 0

set_option maxHeartbeats 400000 in
theorem ref_count_any (A : Option Addr) (n c : Nat) (bs : List UInt8) (w : World) (hh : Held w (· < w.heap.size) A n bs) (hn : n ≤ 100000000) :
    Calls Try.prog 14 #[.slice A n c] w fun e w' => e = .returned (.int .i64 (cnt bs 0 : Int)) ∧ w = w' := by
  have HH := Lib.hid hh
  have HL := Lib.hid hh.1
  clear hh
  go_enter Try.func14, Try.ntmps14
  go_wp2_with fail
  go_loop [3, 4] (fun j i => RefCountRel bs j i) (fun _ i => n - (intOf i).toNat)
  case atStart => exact ⟨0, 0, Nat.zero_le _, Nat.le_refl _, rfl, rfl, Nat.zero_add _⟩
  case round =>
    obtain ⟨k, m, hk, hm, rfl, rfl, hc⟩ := hrel
    have HC := Lib.hid hc
    have hkn : k ≤ n := by rw [← HL.out]; exact hk
    clear hc hk
    by_cases hlt : k < n
    · have d1 : decide ((k : Int) < (n : Int)) = true := by simp; omega
      have d1n : decide (k < n) = true := by simp; omega
      go_wp2_with fail
      refine (ref_rune_any A n c bs (k : Int) _ HH.out hn).mono ?_
      rw [runeI_nat]
      rintro e w1 ⟨rfl, rfl⟩
      have hr := rune_cases bs k
      by_cases h0 : (rune bs k).2 = 0
      · have HC' : Hid (m = cnt bs 0) := by
          have := HC.out
          rw [cnt_end h0] at this
          exact this
        clear hr
        generalize rune bs k = r at h0
        obtain ⟨r1, r2⟩ := r
        simp only at h0
        subst h0
        go_wp2_with fail
        go_ret
        exact ⟨ret_num (congrArg _ HC'.out), rfl⟩
      · have hb : 1 ≤ (rune bs k).2 ∧ k + (rune bs k).2 ≤ n := by
          rcases hr with e | e
          · exact absurd (by rw [e]) h0
          · rw [← HL.out]; exact ⟨e.1, e.2.2.1⟩
        have HC' : Hid (m + 1 + cnt bs (k + (rune bs k).2) = cnt bs 0) := by
          have := HC.out
          rw [cnt_on h0] at this
          show _ = _
          omega
        clear hr h0
        generalize rune bs k = r at hb HC'
        obtain ⟨r1, r2⟩ := r
        simp only at hb HC'
        have d0 : ((r2 : Int) == 0) = false := by simp; omega
        go_wp2_with fail
        go_round
        case rel => exact ⟨k + r2, m + 1, by rw [HL.out]; exact hb.2, by omega, by go_num, by go_num, HC'.out⟩
        case measure => simp [intOf]; omega
    · have d1 : decide ((k : Int) < (n : Int)) = false := by simp; omega
      have d1n : decide (k < n) = false := by simp; omega
      have HC' : Hid (m = cnt bs 0) := by
        have h0 : (rune bs k).2 = 0 := by rw [rune_past bs k (by rw [HL.out]; omega)]
        have := HC.out
        rw [cnt_end h0] at this
        exact this
      go_wp2_with fail
      go_ret
      exact ⟨ret_num (congrArg _ HC'.out), rfl⟩

end Go.Proofs.Ythaboikiobmfbaa
