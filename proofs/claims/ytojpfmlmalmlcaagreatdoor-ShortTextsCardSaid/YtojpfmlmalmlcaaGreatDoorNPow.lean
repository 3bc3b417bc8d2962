/-
  The walk of the law BigLaws: for all rows that came in. No condition.
  What Power does, of the program and of the document. No condition beyond what each contract says.
  What big's Power does. No condition beyond what each contract says.
-/
import Derived.Test.YtojpfmlmalmlcaaGreatDoorNUp
import Derived.Test.YtojpfmlmalmlcaaGreatDoorNDivC
namespace Go.Proofs.YtojpfmlmalmlcaaGreatDoor.G
open Go.RowKit
theorem lim_le {k : Nat} (h : k ≤ 256) : 65536 ^ k ≤ top := Nat.pow_le_pow_right (by decide) h
theorem lim_add {a b k : Nat} (ha : a < 65536 ^ k) (hb : b < 65536 ^ k) : a + b < 65536 ^ (k + 1) := by
  rw [Nat.pow_succ]
  generalize 65536 ^ k = p at *
  omega
theorem lim_mul {a b k l : Nat} (ha : a < 65536 ^ k) (hb : b < 65536 ^ l) : a * b < 65536 ^ (k + l) := by
  rw [Nat.pow_add]
  exact Nat.mul_lt_mul'' ha hb
theorem lim {a k : Nat} (h : a < 65536 ^ k) (hk : k ≤ 256) : a < top := Nat.lt_of_lt_of_le h (lim_le hk)
theorem num_of {xs : List Nat} {n k : Nat} (hx : Dg xs) (hl : xs.length = n) (hn : n ≤ k) (hi : isN xs = true) : ∃ a, xs = dg a ∧ a < 65536 ^ k := by
  obtain ⟨e, _⟩ := isN_dg hx hi
  refine ⟨nv xs, e.symm, ?_⟩
  exact Nat.lt_of_lt_of_le (nv_lt hx) (Nat.pow_le_pow_right (by decide) (by omega))
theorem gt_t {x k : Nat} (h : k < x) : decide ((k : Int) < (x : Int)) = true := by simp; omega
theorem gt_f {x k : Nat} (h : x ≤ k) : decide ((k : Int) < (x : Int)) = false := by simp; omega
end Go.Proofs.YtojpfmlmalmlcaaGreatDoor.G
namespace Go.Proofs.YtojpfmlmalmlcaaGreatDoor.G
open Go.RowKit
/-- What Power answers. -/
def PowR (b e : Nat) (w : World) (x : Ending) (w' : World) : Prop :=
  Below w.heap.size w w' ∧ ((b ^ e < top ∧ ∃ R k, x = .returned (.tuple #[.slice R (dg (b ^ e)).length k, .bool true]) ∧ Digs w' R (dg (b ^ e)).length (dg (b ^ e))) ∨ (top ≤ b ^ e ∧ x = .returned (.tuple #[.slice none 0 0, .bool false])))
theorem one_top : 1 < top := Nat.lt_trans (by decide) a_top
theorem small_top {b : Nat} (h : b ≤ 65535) : b < top := Nat.lt_trans (show b < 65536 by omega) a_top
theorem pow_up {b m e : Nat} (h : top ≤ b ^ m) (hm : m ≤ e) : top ≤ b ^ e := by
  have hb : 0 < b := by
    rcases Nat.eq_zero_or_pos b with h0 | h0
    · exfalso
      subst h0
      have h1 := one_top
      rcases Nat.eq_zero_or_pos m with h2 | h2
      · subst h2
        simp at h
        omega
      · rw [Nat.zero_pow h2] at h
        omega
    · exact h0
  exact Nat.le_trans h (Nat.pow_le_pow_right hb hm)
theorem inc64 {i e : Nat} (h : i < e) (he : e ≤ 9223372036854775807) : wrap64 ((i : Int) + 1) = (i : Int) + 1 := by unfold wrap64; omega
theorem meas_up {i e : Nat} (h : i < e) : e - ((i : Int) + 1).toNat < e - ((i : Int)).toNat := by omega
def RPowI (w : World) (b e : Nat) (v6 v7 : Value) (wr : World) : Prop :=
  ∃ (i l k : Nat) (R : Option Addr), i ≤ e ∧ v7 = .int .i64 (i : Int) ∧ v6 = .slice R l k ∧ Digs wr R l (dg (b ^ i)) ∧ b ^ i < top ∧ (b ≤ 1 → i = 0) ∧ Below w.heap.size w wr
end Go.Proofs.YtojpfmlmalmlcaaGreatDoor.G
namespace Go.Proofs.YtojpfmlmalmlcaaGreatDoor.G
open Go.RowKit
theorem and_one (q t : Nat) (hq : q < 9223372036854775808) (ht : t = q % 2) : bits .and .i64 (q : Int) 1 = (t : Int) := by
  have h := bits_mask .i64 63 (by decide) (fun n h0 h1 => by rw [IntKind.wrap_i64]; omega) 1 (by decide) (q : Int) (by omega) (by omega)
  have h2 : bits .and .i64 (q : Int) 1 = (q : Int) % 2 := h
  rw [h2, ht]
  omega
/-- What is left of the exponent. -/
def PowI (w : World) (b e L : Nat) (v7 v8 : Value) (wr : World) : Prop :=
  ∃ (i l k : Nat) (R : Option Addr), i ≤ L ∧ v8 = .int .i64 ((i : Int) - 1) ∧ v7 = .slice R l k ∧ Digs wr R l (dg (b ^ (e / 2 ^ i))) ∧ b ^ (e / 2 ^ i) < top ∧ Below w.heap.size w wr
theorem half_more (e j q t : Nat) (hq : q = e / 2 ^ j) (ht : t = q % 2) : q = 2 * (e / 2 ^ (j + 1)) + t := by
  rw [Nat.pow_succ, ← Nat.div_div_eq_div_mul, ← hq]
  omega
set_option maxHeartbeats 8000000 in
theorem power_any (b e : Nat) (w : World) (hb : b ≤ 65535) (he : e ≤ 9223372036854775807) :
    Calls Tryz.prog 70 #[.int .i64 (b : Int), .int .i64 (e : Int)] w fun x w' => PowR b e w x w' := by
  have HBT := Lib.hid (small_top hb)
  have hb64 : b < 18446744073709551616 := by omega
  have he64 : e < 18446744073709551616 := by omega
  have d1 : decide ((b : Int) < 0) = false := by simp
  have d2 : decide ((65535 : Int) < (b : Int)) = false := by simp; omega
  have d2n : decide (65535 < b) = false := by simp; omega
  have d3 : decide ((e : Int) < 0) = false := by simp
  have c1 := Lib.hid (of_any9 b hb64 w)
  have c2 : Hid (∀ W, Calls Tryz.prog 38 #[.int .u64 1] W fun e w' => ∃ R k, e = .returned (.slice R (dg 1).length k) ∧ Digs w' R (dg 1).length (dg 1) ∧ Below W.heap.size W w') := fun W => of_any9 1 (by decide) W
  have c3 : Hid (∀ W, Calls Tryz.prog 101 #[.int .u64 (e : Int)] W fun x w' => x = .returned (.int .i64 (Lib.bitLen e : Int)) ∧ w' = W) := fun W => len_any e he64 W
  have hL : Lib.bitLen e ≤ 63 := Lib.bitLen_le e 63 (by decide) (by omega)
  have hL0 : e / 2 ^ Lib.bitLen e = 0 := Nat.div_eq_of_lt (by
    rcases Nat.lt_or_ge e (2 ^ Lib.bitLen e) with h | h
    · exact h
    · exfalso
      have h2 := Lib.bitLen_shift (Lib.bitLen e) e h he64
      have h3 : Lib.bitLen (e / 2 ^ Lib.bitLen e) = 0 := by omega
      have h4 : e / 2 ^ Lib.bitLen e ≠ 0 := by
        have := Nat.div_pos h (Nat.two_pow_pos _)
        omega
      rw [Lib.bitLen_half _ h4 (Nat.lt_of_le_of_lt (Nat.div_le_self _ _) he64)] at h3
      omega)
  generalize Lib.bitLen e = L at *
  have HL0 := Lib.hid hL0
  have zb := wru64 hb64
  have ze := wru64 he64
  have HEQ : Hid (∀ j, e / 2 ^ j < 9223372036854775808) := fun j => Nat.lt_of_le_of_lt (Nat.div_le_self _ _) (by omega)
  have HSH : Hid (∀ j : Nat, (e : Int) / 2 ^ j = ((e / 2 ^ j : Nat) : Int)) := fun j => by simp
  have e1 : ∃ v : Int, v = (L : Int) - 1 := ⟨_, rfl⟩
  clear hL0 hb64 he64 he hb
  go_enter Tryz.func70, Tryz.ntmps70
  go_wp2_with fail
  refine c1.out.mono ?_
  rintro x w1 ⟨R1, k1, rfl, D1, B1⟩
  have HD1 := Lib.hid D1; have HB1 := Lib.hid B1
  obtain ⟨lb, hlb⟩ : ∃ lb, lb = (dg b).length := ⟨_, rfl⟩
  rw [← hlb] at HD1 ⊢
  have HLB := Lib.hid hlb
  clear D1 B1 c1 hlb zb
  go_wp2_with fail
  refine (c2.out w1).mono ?_
  rintro x w2 ⟨R2, k2, rfl, D2, B2⟩
  obtain ⟨l2, hl2⟩ : ∃ l2, l2 = (dg 1).length := ⟨_, rfl⟩
  rw [← hl2] at D2 ⊢
  have HD2 := Lib.hid D2
  have HDb := Lib.hid (HD1.out.below B2)
  have HB2 := Lib.hid (HB1.out.trans (B2.mono HB1.out.size))
  clear D2 B2 hl2 HD1 HB1 c2
  go_wp2_with fail
  refine (c3.out w2).mono ?_
  rintro x v1 ⟨rfl, hw⟩; subst v1
  clear c3 ze
  go_wp2_with fail
  go_loopw [7, 8] (fun v7 v8 wr => PowI w2 b e L v7 v8 wr) (fun _ v _ => (intOf v + 1).toNat)
  case atStart => exact ⟨L, _, _, R2, Nat.le_refl _, rfl, rfl, by rw [HL0.out, Nat.pow_zero]; exact HD2.out, by rw [HL0.out, Nat.pow_zero]; exact one_top, Below.refl _ _⟩
  case round =>
    clear HD2
    obtain ⟨i, l, k, R, hi, rfl, rfl, hD, ht, hB⟩ := hrel
    have HD := Lib.hid hD; have HT := Lib.hid ht; have HB := Lib.hid hB
    clear hD ht hB
    cases i with
    | zero =>
      have e0 : (((0 : Nat) : Int) - 1) = -1 := by decide
      rw [e0]
      have fin : Hid (PowR b e w (.returned (.tuple #[.slice R l k, .bool true])) wr) := by
        have h1 := HD.out
        have h2 := HT.out
        rw [Nat.pow_zero, Nat.div_one] at h1 h2
        have h3 := h1.1
        refine ⟨HB2.out.trans (HB.out.mono HB2.out.size), .inl ⟨h2, R, k, by rw [h3], by rw [h3]; exact h1⟩⟩
      clear HD HT HB
      go_wp2_with fail
      go_ret2
      exact fin.out
    | succ j =>
      have e0 : (((j + 1 : Nat) : Int) - 1) = (j : Int) := by omega
      rw [e0]
      have dj : decide ((0 : Int) ≤ (j : Int)) = true := by simp
      have j0 : (0 : Int) ≤ (j : Int) := by omega
      have j63 : j < 64 := by omega
      obtain ⟨m, hm⟩ : ∃ m, m = e / 2 ^ (j + 1) := ⟨_, rfl⟩
      obtain ⟨q, hq⟩ : ∃ q, q = e / 2 ^ j := ⟨_, rfl⟩
      obtain ⟨t, ht⟩ : ∃ t, t = q % 2 := ⟨_, rfl⟩
      have hqm : q = 2 * m + t := by rw [hm]; exact half_more e j q t hq ht
      have hqe : q ≤ e := by rw [hq]; exact Nat.div_le_self _ _
      have zq : (e : Int) / 2 ^ j = (q : Int) := by rw [hq]; exact HSH.out j
      have za := and_one q t (by rw [hq]; exact HEQ.out j) ht
      have hl : l ≤ 256 := by have := top_len HT.out; have := HD.out.1; omega
      have hdm := HD.out
      rw [← hm] at hdm
      have htm := HT.out
      rw [← hm] at htm
      have cM := mul_yes R l k (b ^ m) R l k (b ^ m) wr hdm hdm htm htm
      have hsq : b ^ m * b ^ m = b ^ (2 * m) := by rw [← Nat.pow_add]; congr 1; omega
      rw [hsq] at cM
      have HL3 : Hid ((dg (b ^ (2 * m))).length ≤ 512) := show _ ≤ _ by rw [← hsq]; exact (dg_len _ (256 + 256)).2 (lim_mul (k := 256) (l := 256) htm htm)
      have CM := Lib.hid cM; have HI : Hid (j ≤ L) := show _ ≤ _ by omega
      have HQ := Lib.hid hq; have HQM := Lib.hid hqm; have HQE := Lib.hid hqe
      have ht2 : t = 0 ∨ t = 1 := by omega
      have HT2 := Lib.hid ht2
      have e6 : (j : Int) - 1 = (j : Int) - 1 := rfl
      clear cM hm hq hqm hqe ht hdm htm hsq hl HD HT hi ht2 e0 e6
      go_wp2_with fail
      refine CM.out.mono ?_
      rintro x w3 ⟨R3, k3, rfl, D3, B3⟩
      obtain ⟨l3, hl3⟩ : ∃ l3, l3 = (dg (b ^ (2 * m))).length := ⟨_, rfl⟩
      rw [← hl3] at D3 ⊢
      have hl3b : l3 ≤ 512 := by rw [hl3]; exact HL3.out
      have HD3 := Lib.hid D3
      have HB3 := Lib.hid (HB.out.trans (B3.mono HB.out.size))
      have cI := Lib.hid (is_val R3 l3 k3 (b ^ (2 * m)) w3 D3 (by omega))
      have HDb3 := Lib.hid ((HDb.out.below HB.out).below B3)
      have hlb : lb ≤ 256 := by rw [HLB.out]; exact top_len HBT.out
      clear D3 B3 HB CM hl3
      rcases HT2.out with h0 | h0
      · subst h0
        have dt : (((0 : Nat) : Int) == 1) = false := by decide
        have hq2 : q = 2 * m := by have := HQM.out; omega
        have HQ2 := Lib.hid hq2
        clear HQM hq2
        by_cases hnt : b ^ (2 * m) < top
        · rw [decide_eq_true hnt] at cI
          have HNT := Lib.hid hnt
          clear hnt
          go_wp2_with fail
          refine cI.out.mono ?_
          rintro x v1 ⟨rfl, hw⟩; subst v1
          go_wp2_with fail
          go_roundw
          case rel => exact ⟨j, l3, k3, R3, HI.out, ret_val (by omega), rfl, by rw [← HQ.out, HQ2.out]; exact HD3.out, by rw [← HQ.out, HQ2.out]; exact HNT.out, HB3.out⟩
          case measure => exact meas_lt j
        · rw [decide_eq_false hnt] at cI
          have fin : Hid (PowR b e w (.returned (.tuple #[.slice none 0 0, .bool false])) w3) := ⟨HB2.out.trans (HB3.out.mono HB2.out.size), .inr ⟨pow_up (Nat.le_of_not_lt hnt) (by have := HQ2.out; have := HQE.out; omega), rfl⟩⟩
          clear hnt
          go_wp2_with fail
          refine cI.out.mono ?_
          rintro x v1 ⟨rfl, hw⟩; subst v1
          go_wp2_with fail
          go_ret2
          exact fin.out
      · subst h0
        have dt : (((1 : Nat) : Int) == 1) = true := by decide
        by_cases hnt : b ^ (2 * m) < top
        · have cM := mul_yes R3 l3 k3 (b ^ (2 * m)) R1 lb k1 b w3 HD3.out HDb3.out hnt HBT.out
          have hpq : b ^ (2 * m) * b = b ^ q := by rw [← Nat.pow_succ]; congr 1; have := HQM.out; omega
          rw [hpq] at cM
          have HL4 : Hid ((dg (b ^ q)).length ≤ 512) := show _ ≤ _ by rw [← hpq]; exact (dg_len _ (256 + 256)).2 (lim_mul (k := 256) (l := 256) hnt HBT.out)
          have CM := Lib.hid cM
          rw [decide_eq_true hnt] at cI
          clear hnt cM hpq HD3 HDb3
          go_wp2_with fail
          refine cI.out.mono ?_
          rintro x v1 ⟨rfl, hw⟩; subst v1
          clear cI
          go_wp2_with fail
          refine CM.out.mono ?_
          rintro x w4 ⟨R4, k4, rfl, D4, B4⟩
          obtain ⟨l4, hl4⟩ : ∃ l4, l4 = (dg (b ^ q)).length := ⟨_, rfl⟩
          rw [← hl4] at D4 ⊢
          have hl4b : l4 ≤ 512 := by rw [hl4]; exact HL4.out
          have HD4 := Lib.hid D4
          have HB4 := Lib.hid (HB3.out.trans (B4.mono HB3.out.size))
          have cJ := Lib.hid (is_val R4 l4 k4 (b ^ q) w4 D4 (by omega))
          clear D4 B4 HB3 CM hl4
          by_cases hnq : b ^ q < top
          · rw [decide_eq_true hnq] at cJ
            have HNT := Lib.hid hnq
            clear hnq
            go_wp2_with fail
            refine cJ.out.mono ?_
            rintro x v1 ⟨rfl, hw⟩; subst v1
            go_wp2_with fail
            go_roundw
            case rel => exact ⟨j, l4, k4, R4, HI.out, ret_val (by omega), rfl, by rw [← HQ.out]; exact HD4.out, by rw [← HQ.out]; exact HNT.out, HB4.out⟩
            case measure => exact meas_lt j
          · rw [decide_eq_false hnq] at cJ
            have fin : Hid (PowR b e w (.returned (.tuple #[.slice none 0 0, .bool false])) w4) := ⟨HB2.out.trans (HB4.out.mono HB2.out.size), .inr ⟨pow_up (Nat.le_of_not_lt hnq) HQE.out, rfl⟩⟩
            clear hnq
            go_wp2_with fail
            refine cJ.out.mono ?_
            rintro x v1 ⟨rfl, hw⟩; subst v1
            go_wp2_with fail
            go_ret2
            exact fin.out
        · rw [decide_eq_false hnt] at cI
          have fin : Hid (PowR b e w (.returned (.tuple #[.slice none 0 0, .bool false])) w3) := ⟨HB2.out.trans (HB3.out.mono HB2.out.size), .inr ⟨pow_up (Nat.le_of_not_lt hnt) (by have := HQM.out; have := HQE.out; omega), rfl⟩⟩
          clear hnt
          go_wp2_with fail
          refine cI.out.mono ?_
          rintro x v1 ⟨rfl, hw⟩; subst v1
          go_wp2_with fail
          refine cI.out.mono ?_
          rintro x v1 ⟨rfl, hw⟩; subst v1
          go_wp2_with fail
          go_ret2
          exact fin.out
set_option maxHeartbeats 1000000 in
theorem power_no (b e : Int) (w : World) (h : b < 0 ∨ 65535 < b ∨ e < 0) :
    Calls Tryz.prog 70 #[.int .i64 b, .int .i64 e] w fun x w' => x = .returned (.tuple #[.slice none 0 0, .bool false]) ∧ w' = w := by
  by_cases h1 : b < 0
  · have d1 : decide (b < 0) = true := by simp; omega
    clear h
    go_enter Tryz.func70, Tryz.ntmps70
    go_wp2_with fail
    go_ret2
    exact ⟨rfl, rfl⟩
  · have d1 : decide (b < 0) = false := by simp; omega
    by_cases h2 : 65535 < b
    · have d2 : decide (65535 < b) = true := by simp; omega
      clear h
      go_enter Tryz.func70, Tryz.ntmps70
      go_wp2_with fail
      go_ret2
      exact ⟨rfl, rfl⟩
    · have d2 : decide (65535 < b) = false := by simp; omega
      have d3 : decide (e < 0) = true := by simp; omega
      clear h
      go_enter Tryz.func70, Tryz.ntmps70
      go_wp2_with fail
      go_ret2
      exact ⟨rfl, rfl⟩
end Go.Proofs.YtojpfmlmalmlcaaGreatDoor.G
