/-
  The document's Whole: a pattern as a whole number, or none. For all patterns; no condition.
-/
import Derived.Test.YtbbpibbckfnlbaaDoorDblD
namespace Go.Proofs.YtbbpibbckfnlbaaDoor
open Go.RowKit

theorem w_up {m o t l j : Nat} {e : Int} {s : Bool} (ho : OddOf m o t l) (he : e = (j : Int)) : wholeO s o (e + (t : Int)) = wholeA s (m * 2 ^ j) := by
  unfold wholeO
  rw [if_neg (by omega), show (e + (t : Int)).toNat = t + j by omega, Nat.pow_add, ← Nat.mul_assoc, ← ho.eq]
theorem w_far {m o t l : Nat} {e : Int} {s : Bool} (ho : OddOf m o t l) (he : 11 < e) (hm : 4503599627370496 ≤ m) : wholeO s o (e + (t : Int)) = none := by
  rw [w_up (j := e.toNat) ho (by omega)]
  apply wholeA_far
  have h1 : 2 ^ 12 ≤ 2 ^ e.toNat := Nat.pow_le_pow_right (by decide) (by omega)
  have h2 := Nat.mul_le_mul hm h1
  have : mostOf s ≤ 9223372036854775808 := by cases s <;> decide
  omega
theorem w_down {m o t l v J : Nat} {e : Int} {s : Bool} (ho : OddOf m o t l) (he : e = -(J : Int)) (hv : m = v * 2 ^ J) (h0 : 0 < v) (hb : v < 18446744073709551616) : wholeO s o (e + (t : Int)) = wholeA s v := by
  have hv' := odd_of h0 hb
  have h1 : o * 2 ^ t = oOf v * 2 ^ (tOf v + J) := by rw [← ho.eq, hv, Nat.pow_add, ← Nat.mul_assoc, ← hv'.eq]
  obtain ⟨e1, e2⟩ := odd_one h1 ho.odd hv'.odd
  unfold wholeO
  rw [if_neg (by omega), show (e + (t : Int)).toNat = tOf v by omega, e1, ← hv'.eq]
theorem w_odd {m o t l v J i : Nat} {e : Int} {s : Bool} (ho : OddOf m o t l) (he : e = -(J : Int)) (hi : 0 < i) (hiJ : i ≤ J) (hv : m = v * 2 ^ (J - i)) (h1 : v % 2 = 1) : wholeO s o (e + (t : Int)) = none := by
  obtain ⟨e1, e2⟩ := odd_one (ho.eq.symm.trans hv) ho.odd h1
  unfold wholeO
  rw [if_pos (by omega)]

set_option maxHeartbeats 1000000 in
theorem refWhole_nought (x : Nat) (s : Bool) (m : Nat) (e : Int) (w : World)
    (cS : Hid (∀ w, Calls Tryd.prog 19 #[.int .u64 (x : Int)] w fun r w' => r = .returned (.tuple #[.int .i64 1, .bool s, .int .u64 (m : Int), .int .i64 e]) ∧ w' = w)) :
    Calls Tryd.prog 10 #[.int .u64 (x : Int)] w fun r w' => r = .returned (.tuple #[.int .i64 0, .bool true]) ∧ w' = w := by
  go_enter Tryd.func10, Tryd.ntmps10
  go_wp2_with fail
  refine (cS.out _).mono ?_
  rintro r w1 ⟨rfl, hw⟩; subst w1
  go_wp2_with fail
  go_ret2
  exact ⟨rfl, rfl⟩

set_option maxHeartbeats 1000000 in
theorem refWhole_neither (x : Nat) (k : Int) (s : Bool) (m : Nat) (e : Int) (w : World) (k1 : (k == 1) = false) (k3 : ¬ k = 2)
    (cS : Hid (∀ w, Calls Tryd.prog 19 #[.int .u64 (x : Int)] w fun r w' => r = .returned (.tuple #[.int .i64 k, .bool s, .int .u64 (m : Int), .int .i64 e]) ∧ w' = w)) :
    Calls Tryd.prog 10 #[.int .u64 (x : Int)] w fun r w' => r = .returned (.tuple #[.int .i64 0, .bool false]) ∧ w' = w := by
  go_enter Tryd.func10, Tryd.ntmps10
  go_wp2_with fail
  refine (cS.out _).mono ?_
  rintro r w1 ⟨rfl, hw⟩; subst w1
  go_wp2_with fail
  go_ret2
  exact ⟨rfl, rfl⟩

set_option maxHeartbeats 1000000 in
theorem refWhole_far (x : Nat) (s : Bool) (m : Nat) (e : Int) (w : World) (k1 : decide (11 < e) = true)
    (cS : Hid (∀ w, Calls Tryd.prog 19 #[.int .u64 (x : Int)] w fun r w' => r = .returned (.tuple #[.int .i64 2, .bool s, .int .u64 (m : Int), .int .i64 e]) ∧ w' = w)) :
    Calls Tryd.prog 10 #[.int .u64 (x : Int)] w fun r w' => r = .returned (.tuple #[.int .i64 0, .bool false]) ∧ w' = w := by
  go_enter Tryd.func10, Tryd.ntmps10
  go_wp2_with fail
  refine (cS.out _).mono ?_
  rintro r w1 ⟨rfl, hw⟩; subst w1
  go_wp2_with fail
  go_ret2
  exact ⟨rfl, rfl⟩

set_option maxHeartbeats 1000000 in
/-- From a place at nought or above: doubled, and told. -/
theorem refWhole_up (x : Nat) (s : Bool) (m : Nat) (e : Int) (j V : Nat) (w : World) (he : Hid (e = (j : Int))) (hj : Hid (j ≤ 11)) (hV : Hid (m * 2 ^ j = V)) (hV0 : Hid (V < 18446744073709551616))
    (k1 : decide (11 < e) = false) (k2 : decide (e < 0) = false) (hV1 : Hid (1 ≤ V)) (P : Int) (B : Bool) (hP : Hid (P = wNum (wholeA s V))) (hB : Hid (B = (wholeA s V).isSome))
    (cS : Hid (∀ w, Calls Tryd.prog 19 #[.int .u64 (x : Int)] w fun r w' => r = .returned (.tuple #[.int .i64 2, .bool s, .int .u64 (m : Int), .int .i64 e]) ∧ w' = w)) :
    Calls Tryd.prog 10 #[.int .u64 (x : Int)] w fun r w' => r = .returned (.tuple #[.int .i64 P, .bool B]) ∧ w' = w := by
  go_enter Tryd.func10, Tryd.ntmps10
  go_wp2_with fail
  refine (cS.out _).mono ?_
  rintro r w1 ⟨rfl, hw⟩; subst w1
  clear cS
  go_wp2_with fail
  go_loopw [6, 7] (fun mm ee wr => wr = w ∧ mm = .int .u64 (m : Int) ∧ ee = .int .i64 e) (fun _ _ _ => 0)
  case atStart => exact ⟨rfl, rfl, rfl⟩
  case round =>
    obtain ⟨rfl, rfl, rfl⟩ := hrel
    go_wp2_with fail
    obtain ⟨W0, HW⟩ : ∃ W0, W0 = wr := ⟨_, rfl⟩
    go_loopw [6, 7] (fun mm ee wx => wx = W0 ∧ ∃ i v : Nat, i ≤ 11 ∧ v * 2 ^ i = V ∧ mm = .int .u64 (v : Int) ∧ ee = .int .i64 (i : Int)) (fun _ ee _ => (intOf ee).toNat)
    case atStart => exact ⟨HW.symm, j, m, hj.out, hV.out, rfl, by rw [he.out]⟩
    case round =>
      obtain ⟨hwr, i, v, hi, hvV, rfl, rfl⟩ := hrel
      have HWR : Hid (wr = _) := hwr.trans HW
      have HW0 := Lib.hid hwr
      clear hwr
      clear HW
      have HVV := Lib.hid hvV
      have hvb : v ≤ V := by rw [← hvV]; exact Nat.le_mul_of_pos_right v (Nat.two_pow_pos i)
      clear hvV
      rcases Nat.eq_zero_or_pos i with h0 | h0
      · subst h0
        have d1 : decide ((0 : Int) < ((0 : Nat) : Int)) = false := by simp
        obtain rfl : v = V := by have := HVV.out; simpa using this
        clear HVV d1 hvb
        have HV1 := hV1.out
        cases s
        · by_cases h1 : v < 9223372036854775808
          · have d2 : decide ((9223372036854775808 : Int) ≤ (v : Int)) = false := by simp; omega
            have y1 : wrap64 (v : Int) = (v : Int) := in64 (by omega)
            obtain rfl : P = (v : Int) := by rw [hP.out, wholeA_in (by simp [mostOf]; omega)]; rfl
            obtain rfl : B = true := by rw [hB.out, wholeA_in (by simp [mostOf]; omega)]; rfl
            clear h1 HV1 hP hB
            go_wp2_with fail
            go_ret2
            exact ⟨by simp [y1], HWR.out⟩
          · have d2 : decide ((9223372036854775808 : Int) ≤ (v : Int)) = true := by simp; omega
            obtain rfl : P = 0 := by rw [hP.out, wholeA_far (by simp [mostOf]; omega)]; rfl
            obtain rfl : B = false := by rw [hB.out, wholeA_far (by simp [mostOf]; omega)]; rfl
            clear h1 HV1 hP hB
            go_wp2_with fail
            go_ret2
            exact ⟨rfl, HWR.out⟩
        · by_cases h1 : v ≤ 9223372036854775808
          · have d2 : decide ((v : Int) ≤ (9223372036854775808 : Int)) = true := by simp; omega
            obtain ⟨v1, hv1⟩ : ∃ v1 : Int, v1 = (v : Int) - 1 := ⟨_, rfl⟩
            obtain ⟨v2, hv2⟩ : ∃ v2 : Int, v2 = -v1 := ⟨_, rfl⟩
            obtain ⟨v3, hv3⟩ : ∃ v3 : Int, v3 = -(v : Int) := ⟨_, rfl⟩
            have y1 : IntKind.u64.wrap ((v : Int) - 1) = v1 := by rw [IntKind.wrap_u64]; omega
            have y2 : wrap64 v1 = v1 := in64 (by omega)
            have y3 : wrap64 (-v1) = v2 := by rw [hv2]; exact in64 (by omega)
            have y4 : wrap64 (v2 - 1) = v3 := by rw [hv2, hv1, hv3]; unfold wrap64; omega
            obtain rfl : P = v3 := by rw [hP.out, wholeA_in (by simp [mostOf]; omega), hv3]; rfl
            obtain rfl : B = true := by rw [hB.out, wholeA_in (by simp [mostOf]; omega)]; rfl
            clear h1 HV1 hv1 hv2 hv3 hP hB
            go_wp2_with fail
            go_ret2
            exact ⟨by simp [y4], HWR.out⟩
          · have d2 : decide ((v : Int) ≤ (9223372036854775808 : Int)) = false := by simp; omega
            obtain rfl : P = 0 := by rw [hP.out, wholeA_far (by simp [mostOf]; omega)]; rfl
            obtain rfl : B = false := by rw [hB.out, wholeA_far (by simp [mostOf]; omega)]; rfl
            clear h1 HV1 hP hB
            go_wp2_with fail
            go_ret2
            exact ⟨rfl, HWR.out⟩
      · obtain ⟨k, rfl⟩ : ∃ k, i = k + 1 := ⟨i - 1, by omega⟩
        have d1 : decide ((0 : Int) < ((k + 1 : Nat) : Int)) = true := by simp
        have HE : v * 2 * 2 ^ k = V := by have := HVV.out; rw [Nat.pow_succ] at this; rw [← this]; grind
        have hvb2 : v * 2 ≤ V := by rw [← HE]; exact Nat.le_mul_of_pos_right _ (Nat.two_pow_pos k)
        have y1 : IntKind.u64.wrap ((v : Int) * 2) = ((v * 2 : Nat) : Int) := by have := hV0.out; rw [IntKind.wrap_u64]; omega
        have y2 : wrap64 (((k + 1 : Nat) : Int) - 1) = (k : Int) := by unfold wrap64; omega
        replace HE := Lib.hid HE
        clear HVV hvb hvb2 h0
        go_wp2_with fail
        go_roundw
        case rel => exact ⟨HW0.out, k, v * 2, by omega, HE.out, rfl, rfl⟩
        case measure => simp [intOf]

set_option maxHeartbeats 1000000 in
/-- From a place below nought: halved, while it can be, and told. -/
theorem refWhole_down (x : Nat) (s : Bool) (m : Nat) (e : Int) (J : Nat) (w : World) (he : Hid (e = -(J : Int))) (hJ : Hid (J ≤ 1074)) (hm : Hid (m < 9007199254740992)) (hm0 : Hid (0 < m))
    (k1 : decide (11 < e) = false) (P : Int) (B : Bool) (HA : Hid (∀ v, m = v * 2 ^ J → P = wNum (wholeA s v) ∧ B = (wholeA s v).isSome)) (HO : Hid (∀ i v, 0 < i → i ≤ J → m = v * 2 ^ (J - i) → v % 2 = 1 → P = 0 ∧ B = false))
    (cS : Hid (∀ w, Calls Tryd.prog 19 #[.int .u64 (x : Int)] w fun r w' => r = .returned (.tuple #[.int .i64 2, .bool s, .int .u64 (m : Int), .int .i64 e]) ∧ w' = w)) :
    Calls Tryd.prog 10 #[.int .u64 (x : Int)] w fun r w' => r = .returned (.tuple #[.int .i64 P, .bool B]) ∧ w' = w := by
  go_enter Tryd.func10, Tryd.ntmps10
  go_wp2_with fail
  refine (cS.out _).mono ?_
  rintro r w1 ⟨rfl, hw⟩; subst w1
  clear cS
  go_wp2_with fail
  go_loopw [6, 7] (fun mm ee wr => wr = w ∧ ∃ (i v : Nat) (E : Int), i ≤ J ∧ m = v * 2 ^ (J - i) ∧ mm = .int .u64 (v : Int) ∧ ee = .int .i64 E ∧ E = -(i : Int)) (fun _ ee _ => (-(intOf ee)).toNat)
  case atStart => exact ⟨rfl, J, m, e, Nat.le_refl _, by simp, rfl, rfl, he.out⟩
  case round =>
    obtain ⟨rfl, i, v, E, hi, hv, rfl, rfl, hE⟩ := hrel
    have hvm : v ≤ m := by rw [hv]; exact Nat.le_mul_of_pos_right v (Nat.two_pow_pos _)
    have hvb : v < 9007199254740992 := by have := hm.out; omega
    have hib : i ≤ 1074 := by have := hJ.out; omega
    have hv0 : 0 < v := by
      rcases Nat.eq_zero_or_pos v with h | h
      · subst h; have := hm0.out; simp at hv; omega
      · exact h
    have HV := Lib.hid hv
    clear hv hvm
    rcases Nat.eq_zero_or_pos i with h0 | h0
    · subst h0
      obtain rfl : E = 0 := by omega
      obtain ⟨hP0, hB0⟩ := HA.out v (by simpa using HV.out)
      have hP := Lib.hid hP0
      have hB := Lib.hid hB0
      clear hP0 hB0 HA HO
      clear HV hE hi
      go_wp2_with fail
      obtain ⟨W0, HW⟩ : ∃ W0, W0 = wr := ⟨_, rfl⟩
      go_loopw [6, 7] (fun mm ee wx => wx = W0 ∧ mm = .int .u64 (v : Int) ∧ ee = .int .i64 0) (fun _ _ _ => 0)
      case atStart => exact ⟨HW.symm, rfl, rfl⟩
      case round =>
        obtain ⟨hwr, rfl, rfl⟩ := hrel
        have HWR : Hid (wr = _) := hwr.trans HW
        clear hwr HW
        cases s
        · have d2 : decide ((9223372036854775808 : Int) ≤ (v : Int)) = false := by simp; omega
          have y1 : wrap64 (v : Int) = (v : Int) := in64 (by omega)
          obtain rfl : P = (v : Int) := by rw [hP.out, wholeA_in (by simp [mostOf]; omega)]; rfl
          obtain rfl : B = true := by rw [hB.out, wholeA_in (by simp [mostOf]; omega)]; rfl
          clear hvb hv0 hP hB
          go_wp2_with fail
          go_ret2
          exact ⟨by simp [y1], HWR.out⟩
        · have d2 : decide ((v : Int) ≤ (9223372036854775808 : Int)) = true := by simp; omega
          obtain ⟨v1, hv1⟩ : ∃ v1 : Int, v1 = (v : Int) - 1 := ⟨_, rfl⟩
          obtain ⟨v2, hv2⟩ : ∃ v2 : Int, v2 = -v1 := ⟨_, rfl⟩
          obtain ⟨v3, hv3⟩ : ∃ v3 : Int, v3 = -(v : Int) := ⟨_, rfl⟩
          have y1 : IntKind.u64.wrap ((v : Int) - 1) = v1 := by rw [IntKind.wrap_u64]; omega
          have y2 : wrap64 v1 = v1 := in64 (by omega)
          have y3 : wrap64 (-v1) = v2 := by rw [hv2]; exact in64 (by omega)
          have y4 : wrap64 (v2 - 1) = v3 := by rw [hv2, hv1, hv3]; unfold wrap64; omega
          obtain rfl : P = v3 := by rw [hP.out, wholeA_in (by simp [mostOf]; omega), hv3]; rfl
          obtain rfl : B = true := by rw [hB.out, wholeA_in (by simp [mostOf]; omega)]; rfl
          clear hvb hv0 hv1 hv2 hv3 hP hB
          go_wp2_with fail
          go_ret2
          exact ⟨by simp [y4], HWR.out⟩
    · have d1 : decide (E < 0) = true := by simp; omega
      rcases Nat.mod_two_eq_zero_or_one v with h1 | h1
      · obtain ⟨u, rfl⟩ : ∃ u, v = 2 * u := ⟨v / 2, by omega⟩
        have z1 : ((2 * u : Nat) : Int).tmod 2 = 0 := by rw [Int.tmod_eq_emod_of_nonneg (by omega)]; omega
        have z2 : ((2 * u : Nat) : Int) % 2 = 0 := by omega
        have z3 : ((2 * u : Nat) : Int).tdiv 2 = (u : Int) := by rw [Int.tdiv_eq_ediv_of_nonneg (by omega)]; omega
        have z4 : ((2 * u : Nat) : Int) / 2 = (u : Int) := by omega
        have z5 : IntKind.u64.wrap (u : Int) = (u : Int) := by rw [IntKind.wrap_u64]; omega
        obtain ⟨E2, hE2⟩ : ∃ E2, E2 = E + 1 := ⟨_, rfl⟩
        have z6 : wrap64 (E + 1) = E2 := by rw [hE2]; exact in64 (by omega)
        have HM : Hid (m = u * 2 ^ (J - (i - 1))) := show _ = _ by
          rw [HV.out, show J - (i - 1) = J - i + 1 by omega, Nat.pow_succ]; grind
        generalize 2 * u = v at *
        have HE := Lib.hid hE
        have HE2 := Lib.hid hE2
        have HI := Lib.hid hi
        clear HV h1 hvb hv0 hE hE2 hib hi
        go_wp2_with fail
        go_roundw
        case rel => exact ⟨trivial, i - 1, u, E2, by have := HI.out; omega, HM.out, rfl, by rw [z6], by have := HE2.out; have := HE.out; omega⟩
        case measure => have := HE2.out; have := HE.out; simp [intOf, z6]; omega
      · have z1 : (v : Int).tmod 2 = 1 := by rw [Int.tmod_eq_emod_of_nonneg (by omega)]; omega
        have z2 : (v : Int) % 2 = 1 := by omega
        obtain ⟨hP0, hB0⟩ := HO.out i v h0 hi HV.out h1
        obtain rfl : P = 0 := hP0
        obtain rfl : B = false := hB0
        clear HV h1 hvb hv0 hE hib hi HA HO
        go_wp2_with fail
        go_ret2
        exact ⟨rfl, rfl⟩

/-- The document's Whole. -/
theorem refWhole_any (s : Bool) (r : Nat) (hr : r < 9223372036854775808) (w : World) :
    Calls Tryd.prog 10 #[.int .u64 ((pat s r : Nat) : Int)] w fun x w' => x = .returned (.tuple #[.int .i64 (wNum (wholeP s r)), .bool (wholeP s r).isSome]) ∧ w' = w := by
  have cS := Lib.hid fun w => refSplit_any s r hr w
  by_cases c0 : r = 0
  · subst c0
    exact refWhole_nought _ s _ _ w cS
  by_cases c1 : r < 9218868437227405312
  · have hm0 := m_pos c0 c1
    have hml := m_lt r
    have heb := e_bounds r
    have hk := k_fin c0 c1
    have ho := odd_of hm0 (Nat.lt_trans hml (by decide))
    have hw : wholeP s r = wholeO s (oOf (mOf r)) (eOf r + (tOf (mOf r) : Int)) := by unfold wholeP; rw [if_neg c0, if_neg (by omega)]
    have h52 : -1074 < eOf r → 4503599627370496 ≤ mOf r := by
      intro h
      by_cases c : r < 4503599627370496
      · have := (tells_low c0 c).2.2; omega
      · rw [(tells_high c c1).2.1]; omega
    rw [hw]
    rw [hk] at cS
    generalize mOf r = m at *
    generalize eOf r = e at *
    generalize oOf m = o at *
    generalize tOf m = t at *
    generalize lOf m = l at *
    generalize pat s r = x at *
    clear hw hr hk
    by_cases c2 : 11 < e
    · rw [w_far ho c2 (h52 (by omega))]
      exact refWhole_far x s m e w (by simpa using c2) cS
    · by_cases c3 : e < 0
      · obtain ⟨J, hJ⟩ : ∃ J : Nat, e = -(J : Int) := ⟨(-e).toNat, by omega⟩
        refine refWhole_down x s m e J w (Lib.hid hJ) (show _ ≤ _ by omega) (Lib.hid hml) (Lib.hid hm0) (by simpa using c2) _ _ (Lib.hid fun v hv => ?_) (Lib.hid fun i v hi hiJ hv h1 => ?_) cS
        · have hv0 : 0 < v := by
            rcases Nat.eq_zero_or_pos v with h | h
            · subst h; simp at hv; omega
            · exact h
          have hvm : v ≤ m := by rw [hv]; exact Nat.le_mul_of_pos_right v (Nat.two_pow_pos _)
          rw [w_down ho hJ hv hv0 (by omega)]
          exact ⟨rfl, rfl⟩
        · rw [w_odd ho hJ hi hiJ hv h1]
          exact ⟨rfl, rfl⟩
      · obtain ⟨j, hj⟩ : ∃ j : Nat, e = (j : Int) := ⟨e.toNat, by omega⟩
        rw [w_up ho hj]
        have hp : 2 ^ j ≤ 2 ^ 11 := Nat.pow_le_pow_right (by decide) (by omega)
        have hb : m * 2 ^ j ≤ 9007199254740991 * 2048 := Nat.mul_le_mul (by omega) hp
        have h1 : 1 ≤ m * 2 ^ j := Nat.mul_pos hm0 (Nat.two_pow_pos _)
        exact refWhole_up x s m e j _ w (Lib.hid hj) (show _ ≤ _ by omega) (Lib.hid rfl) (show _ < _ by omega) (by simpa using c2) (by simpa using c3) (Lib.hid h1) _ _ (Lib.hid rfl) (Lib.hid rfl) cS
  · have h1 : wholeP s r = none := by unfold wholeP; rw [if_neg c0, if_pos (by omega)]
    rw [h1]
    by_cases c3 : r = 9218868437227405312
    · have hk : kOf r = 3 := by rw [c3]; decide
      rw [hk] at cS
      exact refWhole_neither _ 3 s _ _ w rfl (by decide) cS
    · have hk : kOf r = 4 := (tells_nan (by omega)).1
      rw [hk] at cS
      exact refWhole_neither _ 4 s _ _ w rfl (by decide) cS

end Go.Proofs.YtbbpibbckfnlbaaDoor
