/-
  The document's Whole: a pattern as a whole number, or none. For all patterns; no condition.
-/
import Derived.Test.YtkgejbjpdkilkaaRefS7
namespace Go.Proofs.Ytkgejbjpdkilkaa
open Go.RowKit

/-- What Whole may answer of a pattern. -/
def GoodW (x : Nat) (p : Int) (f : Bool) : Prop := (f = true ∧ Whole x p ∧ -9223372036854775808 ≤ p ∧ p ≤ 9223372036854775807) ∨ (f = false ∧ p = 0 ∧ ∀ n, Whole x n → Great n → False)

/-- m times 2^e is V. -/
theorem num_up {s : Bool} {m V : Nat} {e : Int} {j : Nat} (he : e = (j : Int)) (h : m * 2 ^ j = V) : Num (.number s m e) (sg s V) := by
  refine ⟨s, m, e, rfl, j, 0, by omega, ?_⟩
  rw [← h, sg_scale]
  simp
theorem num_down {s : Bool} {m V : Nat} {e : Int} {j : Nat} (he : e = -(j : Int)) (h : m = V * 2 ^ j) : Num (.number s m e) (sg s V) := by
  refine ⟨s, m, e, rfl, 0, j, by omega, ?_⟩
  rw [h, sg_scale]
  simp
/-- An odd rest: no whole number. -/
theorem num_odd {s : Bool} {m v : Nat} {e : Int} {j i : Nat} (he : e = -((j + i : Nat) : Int)) (hi : 0 < i) (h : m = v * 2 ^ j) (hv : v % 2 = 1) (n : Int) : ¬ Num (.number s m e) n := by
  intro hn
  have hf := hn.flat (p := 0) (q := j + i) (by omega)
  have ha := (num_abs hf).1
  rw [h, Nat.pow_add, Nat.mul_comm (2 ^ j) (2 ^ i), ← Nat.mul_assoc, Nat.pow_zero, Nat.mul_one] at ha
  have := Nat.eq_of_mul_eq_mul_right (Nat.two_pow_pos j) ha
  obtain ⟨k, rfl⟩ : ∃ k, i = k + 1 := ⟨i - 1, by omega⟩
  rw [Nat.pow_succ, ← Nat.mul_assoc] at this
  omega

theorem good_neg {x V : Nat} (hx : x < 18446744073709551616) (h : Num (Ieee.double.read x) (sg true V)) (hV : V ≤ 9223372036854775808) : GoodW x (-(V : Int)) true :=
  .inl ⟨rfl, ⟨hx, by simpa [sg] using h⟩, by omega, by omega⟩
theorem good_pos {x V : Nat} (hx : x < 18446744073709551616) (h : Num (Ieee.double.read x) (sg false V)) (hV : V < 9223372036854775808) : GoodW x (V : Int) true :=
  .inl ⟨rfl, ⟨hx, by simpa [sg] using h⟩, by omega, by omega⟩
theorem good_far {x V : Nat} {s : Bool} (h : Num (Ieee.double.read x) (sg s V)) (hV : 4503599627370496 < V) : GoodW x 0 false :=
  .inr ⟨rfl, rfl, fun n hn g => by
    have := h.one hn.2
    obtain ⟨g1, g2⟩ := g
    cases s <;> simp [sg] at this <;> omega⟩
theorem good_none {x : Nat} (h : ∀ n, ¬ Num (Ieee.double.read x) n) : GoodW x 0 false := .inr ⟨rfl, rfl, fun n hn _ => h n hn.2⟩

set_option maxHeartbeats 1000000 in
theorem refWhole_nought (x : Nat) (s : Bool) (m : Nat) (e : Int) (w : World)
    (cS : Hid (∀ w, Calls Try.prog 21 #[.int .u64 (x : Int)] w fun r w' => r = .returned (.tuple #[.int .i64 1, .bool s, .int .u64 (m : Int), .int .i64 e]) ∧ w' = w)) :
    Calls Try.prog 14 #[.int .u64 (x : Int)] w fun r w' => r = .returned (.tuple #[.int .i64 0, .bool true]) ∧ w' = w := by
  go_enter Try.func14, Try.ntmps14
  go_wp2_with fail
  refine (cS.out _).mono ?_
  rintro r w1 ⟨rfl, hw⟩; subst w1
  go_wp2_with fail
  go_ret2
  exact ⟨rfl, rfl⟩

set_option maxHeartbeats 1000000 in
theorem refWhole_neither (x : Nat) (k : Int) (s : Bool) (m : Nat) (e : Int) (w : World) (k1 : (k == 1) = false) (k3 : ¬ k = 2)
    (cS : Hid (∀ w, Calls Try.prog 21 #[.int .u64 (x : Int)] w fun r w' => r = .returned (.tuple #[.int .i64 k, .bool s, .int .u64 (m : Int), .int .i64 e]) ∧ w' = w)) :
    Calls Try.prog 14 #[.int .u64 (x : Int)] w fun r w' => r = .returned (.tuple #[.int .i64 0, .bool false]) ∧ w' = w := by
  go_enter Try.func14, Try.ntmps14
  go_wp2_with fail
  refine (cS.out _).mono ?_
  rintro r w1 ⟨rfl, hw⟩; subst w1
  go_wp2_with fail
  go_ret2
  exact ⟨rfl, rfl⟩

set_option maxHeartbeats 1000000 in
theorem refWhole_far (x : Nat) (s : Bool) (m : Nat) (e : Int) (w : World) (k1 : decide (11 < e) = true)
    (cS : Hid (∀ w, Calls Try.prog 21 #[.int .u64 (x : Int)] w fun r w' => r = .returned (.tuple #[.int .i64 2, .bool s, .int .u64 (m : Int), .int .i64 e]) ∧ w' = w)) :
    Calls Try.prog 14 #[.int .u64 (x : Int)] w fun r w' => r = .returned (.tuple #[.int .i64 0, .bool false]) ∧ w' = w := by
  go_enter Try.func14, Try.ntmps14
  go_wp2_with fail
  refine (cS.out _).mono ?_
  rintro r w1 ⟨rfl, hw⟩; subst w1
  go_wp2_with fail
  go_ret2
  exact ⟨rfl, rfl⟩

set_option maxHeartbeats 1000000 in
/-- From a place at nought or above: doubled, and told. -/
theorem refWhole_up (x : Nat) (s : Bool) (m : Nat) (e : Int) (j V : Nat) (w : World) (he : Hid (e = (j : Int))) (hj : Hid (j ≤ 11)) (hV : Hid (m * 2 ^ j = V)) (hV0 : Hid (V < 18446744073709551616))
    (k1 : decide (11 < e) = false) (k2 : decide (e < 0) = false) (hx : Hid (x < 18446744073709551616)) (hN : Hid (Num (Ieee.double.read x) (sg s V))) (hV1 : Hid (1 ≤ V))
    (cS : Hid (∀ w, Calls Try.prog 21 #[.int .u64 (x : Int)] w fun r w' => r = .returned (.tuple #[.int .i64 2, .bool s, .int .u64 (m : Int), .int .i64 e]) ∧ w' = w)) :
    Calls Try.prog 14 #[.int .u64 (x : Int)] w fun r w' => (∃ p f, r = .returned (.tuple #[.int .i64 p, .bool f]) ∧ GoodW x p f) ∧ w' = w := by
  go_enter Try.func14, Try.ntmps14
  go_wp2_with fail
  refine (cS.out _).mono ?_
  rintro r w1 ⟨rfl, hw⟩; subst w1
  clear cS
  go_wp2_with fail
  go_loopw [6, 7] (fun mm ee wr => wr = w ∧ mm = .int .u64 (m : Int) ∧ ee = .int .i64 e) (fun _ _ _ => 0)
  case atStart => exact ⟨rfl, rfl, rfl⟩
  case round =>
    obtain ⟨rfl, rfl, rfl⟩ := hrel
    go_wp2_with fail
    obtain ⟨W0, HW⟩ : ∃ W0, W0 = wr := ⟨_, rfl⟩
    go_loopw [6, 7] (fun mm ee wx => wx = W0 ∧ ∃ i v : Nat, i ≤ 11 ∧ v * 2 ^ i = V ∧ mm = .int .u64 (v : Int) ∧ ee = .int .i64 (i : Int)) (fun _ ee _ => (intOf ee).toNat)
    case atStart => exact ⟨HW.symm, j, m, hj.out, hV.out, rfl, by rw [he.out]⟩
    case round =>
      obtain ⟨hwr, i, v, hi, hvV, rfl, rfl⟩ := hrel
      have HWR : Hid (wr = _) := hwr.trans HW
      have HW0 := Lib.hid hwr
      clear hwr
      clear HW
      have HVV := Lib.hid hvV
      have hvb : v ≤ V := by rw [← hvV]; exact Nat.le_mul_of_pos_right v (Nat.two_pow_pos i)
      clear hvV
      rcases Nat.eq_zero_or_pos i with h0 | h0
      · subst h0
        have d1 : decide ((0 : Int) < ((0 : Nat) : Int)) = false := by simp
        obtain rfl : v = V := by have := HVV.out; simpa using this
        clear HVV d1 hvb
        have HV1 := hV1.out
        cases s
        · by_cases h1 : v < 9223372036854775808
          · have d2 : decide ((9223372036854775808 : Int) ≤ (v : Int)) = false := by simp; omega
            have y1 : wrap64 (v : Int) = (v : Int) := in64 (by omega)
            have HG := Lib.hid (good_pos hx.out hN.out h1)
            clear h1 HV1
            go_wp2_with fail
            go_ret2
            exact ⟨⟨_, _, rfl, by rw [y1]; exact HG.out⟩, HWR.out⟩
          · have d2 : decide ((9223372036854775808 : Int) ≤ (v : Int)) = true := by simp; omega
            have HG := Lib.hid (good_far hN.out (by omega))
            clear h1 HV1
            go_wp2_with fail
            go_ret2
            exact ⟨⟨_, _, rfl, HG.out⟩, HWR.out⟩
        · by_cases h1 : v ≤ 9223372036854775808
          · have d2 : decide ((v : Int) ≤ (9223372036854775808 : Int)) = true := by simp; omega
            obtain ⟨v1, hv1⟩ : ∃ v1 : Int, v1 = (v : Int) - 1 := ⟨_, rfl⟩
            obtain ⟨v2, hv2⟩ : ∃ v2 : Int, v2 = -v1 := ⟨_, rfl⟩
            obtain ⟨v3, hv3⟩ : ∃ v3 : Int, v3 = -(v : Int) := ⟨_, rfl⟩
            have y1 : IntKind.u64.wrap ((v : Int) - 1) = v1 := by rw [IntKind.wrap_u64]; omega
            have y2 : wrap64 v1 = v1 := in64 (by omega)
            have y3 : wrap64 (-v1) = v2 := by rw [hv2]; exact in64 (by omega)
            have y4 : wrap64 (v2 - 1) = v3 := by rw [hv2, hv1, hv3]; unfold wrap64; omega
            have HG := good_neg hx.out hN.out h1
            rw [← hv3] at HG
            replace HG := Lib.hid HG
            clear h1 HV1 hv1 hv2 hv3
            go_wp2_with fail
            go_ret2
            exact ⟨⟨_, _, rfl, by rw [y4]; exact HG.out⟩, HWR.out⟩
          · have d2 : decide ((v : Int) ≤ (9223372036854775808 : Int)) = false := by simp; omega
            have HG := Lib.hid (good_far hN.out (by omega))
            clear h1 HV1
            go_wp2_with fail
            go_ret2
            exact ⟨⟨_, _, rfl, HG.out⟩, HWR.out⟩
      · obtain ⟨k, rfl⟩ : ∃ k, i = k + 1 := ⟨i - 1, by omega⟩
        have d1 : decide ((0 : Int) < ((k + 1 : Nat) : Int)) = true := by simp
        have HE : v * 2 * 2 ^ k = V := by have := HVV.out; rw [Nat.pow_succ] at this; rw [← this]; grind
        have hvb2 : v * 2 ≤ V := by rw [← HE]; exact Nat.le_mul_of_pos_right _ (Nat.two_pow_pos k)
        have y1 : IntKind.u64.wrap ((v : Int) * 2) = ((v * 2 : Nat) : Int) := by have := hV0.out; rw [IntKind.wrap_u64]; omega
        have y2 : wrap64 (((k + 1 : Nat) : Int) - 1) = (k : Int) := by unfold wrap64; omega
        replace HE := Lib.hid HE
        clear HVV hvb hvb2 h0
        go_wp2_with fail
        go_roundw
        case rel => exact ⟨HW0.out, k, v * 2, by omega, HE.out, rfl, rfl⟩
        case measure => simp [intOf]

set_option maxHeartbeats 1000000 in
/-- From a place below nought: halved, while it can be, and told. -/
theorem refWhole_down (x : Nat) (s : Bool) (m : Nat) (e : Int) (J : Nat) (w : World) (he : Hid (e = -(J : Int))) (hJ : Hid (J ≤ 1074)) (hm : Hid (m < 9007199254740992)) (hm0 : Hid (0 < m))
    (k1 : decide (11 < e) = false) (hx : Hid (x < 18446744073709551616)) (hN : Hid (Ieee.double.read x = .number s m e))
    (cS : Hid (∀ w, Calls Try.prog 21 #[.int .u64 (x : Int)] w fun r w' => r = .returned (.tuple #[.int .i64 2, .bool s, .int .u64 (m : Int), .int .i64 e]) ∧ w' = w)) :
    Calls Try.prog 14 #[.int .u64 (x : Int)] w fun r w' => (∃ p f, r = .returned (.tuple #[.int .i64 p, .bool f]) ∧ GoodW x p f) ∧ w' = w := by
  go_enter Try.func14, Try.ntmps14
  go_wp2_with fail
  refine (cS.out _).mono ?_
  rintro r w1 ⟨rfl, hw⟩; subst w1
  clear cS
  go_wp2_with fail
  go_loopw [6, 7] (fun mm ee wr => wr = w ∧ ∃ (i v : Nat) (E : Int), i ≤ J ∧ m = v * 2 ^ (J - i) ∧ mm = .int .u64 (v : Int) ∧ ee = .int .i64 E ∧ E = -(i : Int)) (fun _ ee _ => (-(intOf ee)).toNat)
  case atStart => exact ⟨rfl, J, m, e, Nat.le_refl _, by simp, rfl, rfl, he.out⟩
  case round =>
    obtain ⟨rfl, i, v, E, hi, hv, rfl, rfl, hE⟩ := hrel
    have hvm : v ≤ m := by rw [hv]; exact Nat.le_mul_of_pos_right v (Nat.two_pow_pos _)
    have hvb : v < 9007199254740992 := by have := hm.out; omega
    have hib : i ≤ 1074 := by have := hJ.out; omega
    have hv0 : 0 < v := by
      rcases Nat.eq_zero_or_pos v with h | h
      · subst h; have := hm0.out; simp at hv; omega
      · exact h
    have HV := Lib.hid hv
    clear hv hvm
    rcases Nat.eq_zero_or_pos i with h0 | h0
    · subst h0
      obtain rfl : E = 0 := by omega
      have HN : Hid (Num (Ieee.double.read x) (sg s v)) := show Num _ _ by rw [hN.out]; exact num_down he.out (by simpa using HV.out)
      clear HV hE hi
      go_wp2_with fail
      obtain ⟨W0, HW⟩ : ∃ W0, W0 = wr := ⟨_, rfl⟩
      go_loopw [6, 7] (fun mm ee wx => wx = W0 ∧ mm = .int .u64 (v : Int) ∧ ee = .int .i64 0) (fun _ _ _ => 0)
      case atStart => exact ⟨HW.symm, rfl, rfl⟩
      case round =>
        obtain ⟨hwr, rfl, rfl⟩ := hrel
        have HWR : Hid (wr = _) := hwr.trans HW
        clear hwr HW
        cases s
        · have d2 : decide ((9223372036854775808 : Int) ≤ (v : Int)) = false := by simp; omega
          have y1 : wrap64 (v : Int) = (v : Int) := in64 (by omega)
          have HG := Lib.hid (good_pos hx.out HN.out (by omega))
          clear hvb hv0
          go_wp2_with fail
          go_ret2
          exact ⟨⟨_, _, rfl, by rw [y1]; exact HG.out⟩, HWR.out⟩
        · have d2 : decide ((v : Int) ≤ (9223372036854775808 : Int)) = true := by simp; omega
          obtain ⟨v1, hv1⟩ : ∃ v1 : Int, v1 = (v : Int) - 1 := ⟨_, rfl⟩
          obtain ⟨v2, hv2⟩ : ∃ v2 : Int, v2 = -v1 := ⟨_, rfl⟩
          obtain ⟨v3, hv3⟩ : ∃ v3 : Int, v3 = -(v : Int) := ⟨_, rfl⟩
          have y1 : IntKind.u64.wrap ((v : Int) - 1) = v1 := by rw [IntKind.wrap_u64]; omega
          have y2 : wrap64 v1 = v1 := in64 (by omega)
          have y3 : wrap64 (-v1) = v2 := by rw [hv2]; exact in64 (by omega)
          have y4 : wrap64 (v2 - 1) = v3 := by rw [hv2, hv1, hv3]; unfold wrap64; omega
          have HG := good_neg hx.out HN.out (by omega)
          rw [← hv3] at HG
          replace HG := Lib.hid HG
          clear hvb hv0 hv1 hv2 hv3
          go_wp2_with fail
          go_ret2
          exact ⟨⟨_, _, rfl, by rw [y4]; exact HG.out⟩, HWR.out⟩
    · have d1 : decide (E < 0) = true := by simp; omega
      rcases Nat.mod_two_eq_zero_or_one v with h1 | h1
      · obtain ⟨u, rfl⟩ : ∃ u, v = 2 * u := ⟨v / 2, by omega⟩
        have z1 : ((2 * u : Nat) : Int).tmod 2 = 0 := by rw [Int.tmod_eq_emod_of_nonneg (by omega)]; omega
        have z2 : ((2 * u : Nat) : Int) % 2 = 0 := by omega
        have z3 : ((2 * u : Nat) : Int).tdiv 2 = (u : Int) := by rw [Int.tdiv_eq_ediv_of_nonneg (by omega)]; omega
        have z4 : ((2 * u : Nat) : Int) / 2 = (u : Int) := by omega
        have z5 : IntKind.u64.wrap (u : Int) = (u : Int) := by rw [IntKind.wrap_u64]; omega
        obtain ⟨E2, hE2⟩ : ∃ E2, E2 = E + 1 := ⟨_, rfl⟩
        have z6 : wrap64 (E + 1) = E2 := by rw [hE2]; exact in64 (by omega)
        have HM : Hid (m = u * 2 ^ (J - (i - 1))) := show _ = _ by
          rw [HV.out, show J - (i - 1) = J - i + 1 by omega, Nat.pow_succ]; grind
        generalize 2 * u = v at *
        have HE := Lib.hid hE
        have HE2 := Lib.hid hE2
        have HI := Lib.hid hi
        clear HV h1 hvb hv0 hE hE2 hib hi
        go_wp2_with fail
        go_roundw
        case rel => exact ⟨trivial, i - 1, u, E2, by have := HI.out; omega, HM.out, rfl, by rw [z6], by have := HE2.out; have := HE.out; omega⟩
        case measure => have := HE2.out; have := HE.out; simp [intOf, z6]; omega
      · have z1 : (v : Int).tmod 2 = 1 := by rw [Int.tmod_eq_emod_of_nonneg (by omega)]; omega
        have z2 : (v : Int) % 2 = 1 := by omega
        have HG := Lib.hid (good_none (x := x) (fun n => by rw [hN.out]; exact num_odd (j := J - i) (i := i) (by rw [he.out]; omega) h0 HV.out h1 n))
        clear HV h1 hvb hv0 hE hib hi
        go_wp2_with fail
        go_ret2
        exact ⟨⟨_, _, rfl, HG.out⟩, rfl⟩

/-- The document's Whole. -/
theorem refWhole_any (x : Nat) (hx : x < 18446744073709551616) (w : World) :
    Calls Try.prog 14 #[.int .u64 (x : Int)] w fun r w' => (∃ p f, r = .returned (.tuple #[.int .i64 p, .bool f]) ∧ GoodW x p f) ∧ w' = w := by
  obtain ⟨k, s, m, e, cS, ht⟩ := split_any x hx
  rcases ht with ⟨rfl, h⟩ | ⟨rfl, h, m0, m1, e0, e1, h52⟩ | ⟨hk, h⟩
  · exact (refWhole_nought x s m e w (Lib.hid cS)).mono fun r w' ⟨hr, hw⟩ => ⟨⟨_, _, hr, .inl ⟨rfl, ⟨hx, h⟩, by decide, by decide⟩⟩, hw⟩
  · by_cases c1 : 11 < e
    · refine (refWhole_far x s m e w (by simpa using c1) (Lib.hid cS)).mono fun r w' ⟨hr, hw⟩ => ⟨⟨_, _, hr, ?_⟩, hw⟩
      have hj : e = (e.toNat : Int) := by omega
      refine good_far (V := m * 2 ^ e.toNat) (s := s) (by rw [h]; exact num_up hj rfl) ?_
      have : 2 ^ 1 ≤ 2 ^ e.toNat := Nat.pow_le_pow_right (by decide) (by omega)
      have := Nat.mul_le_mul (h52 (by omega)) this
      omega
    · by_cases c2 : e < 0
      · exact refWhole_down x s m e (-e).toNat w (show _ = _ by omega) (show _ ≤ _ by omega) (Lib.hid m1) (Lib.hid m0) (by simpa using c1) (Lib.hid hx) (Lib.hid h) (Lib.hid cS)
      · have hj : e = (e.toNat : Int) := by omega
        have hp : 2 ^ e.toNat ≤ 2 ^ 11 := Nat.pow_le_pow_right (by decide) (by omega)
        have hb : m * 2 ^ e.toNat ≤ 9007199254740991 * 2048 := Nat.mul_le_mul (by omega) hp
        have h1 : 1 ≤ m * 2 ^ e.toNat := Nat.mul_pos m0 (Nat.two_pow_pos _)
        exact refWhole_up x s m e e.toNat _ w (Lib.hid hj) (show _ ≤ _ by omega) (Lib.hid rfl) (show _ < _ by omega) (by simpa using c1) (by simpa using c2) (Lib.hid hx) (show Num _ _ by rw [h]; exact num_up hj rfl) (Lib.hid h1) (Lib.hid cS)
  · refine (refWhole_neither x k s m e w (by rcases hk with rfl | rfl <;> rfl) (by omega) (Lib.hid cS)).mono fun r w' ⟨hr, hw⟩ => ⟨⟨_, _, hr, good_none h⟩, hw⟩

end Go.Proofs.Ytkgejbjpdkilkaa
