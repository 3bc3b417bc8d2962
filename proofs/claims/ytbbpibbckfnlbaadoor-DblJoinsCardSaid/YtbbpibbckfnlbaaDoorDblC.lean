/-
  The program's Join: the pattern of a number, if there is one. No condition but the table (Laid) and the arguments' own bounds.
-/
import Derived.Test.YtbbpibbckfnlbaaDoorDblB
namespace Go.Proofs.YtbbpibbckfnlbaaDoor
open Go.RowKit

/-- What Join answers: the pattern with its sign, or 0. -/
def jPat (s : Bool) : Option Nat → Nat
  | some r => pat s r
  | none => 0

set_option maxHeartbeats 400000 in
theorem join_nil (s : Bool) (e : Int) (p : Nat) (w : World) (cG : Hid (∀ w, Calls Tryd.prog 14 #[.bool s, .int .u64 0] w fun e w' => e = .returned (.int .u64 (p : Int)) ∧ w' = w)) :
    Calls Tryd.prog 7 #[.bool s, .int .u64 0, .int .i64 e] w fun r w' => r = .returned (.tuple #[.int .u64 (p : Int), .bool true]) ∧ w' = w := by
  go_enter Tryd.func7, Tryd.ntmps7
  go_wp2_with fail
  refine (cG.out _).mono ?_
  rintro r w1 ⟨rfl, hw⟩; subst w1
  go_wp2_with fail
  go_ret2
  exact ⟨rfl, rfl⟩

set_option maxHeartbeats 400000 in
theorem join_away (s : Bool) (m e : Int) (w : World) (m0 : (m == 0) = false) (d : decide (e < -1137) = true ∨ (decide (e < -1137) = false ∧ decide (1023 < e) = true)) :
    Calls Tryd.prog 7 #[.bool s, .int .u64 m, .int .i64 e] w fun r w' => r = .returned (.tuple #[.int .u64 0, .bool false]) ∧ w' = w := by
  rcases d with d | ⟨d, d2⟩
  · go_enter Tryd.func7, Tryd.ntmps7
    go_wp2_with fail
    go_ret2
    exact ⟨rfl, rfl⟩
  · go_enter Tryd.func7, Tryd.ntmps7
    go_wp2_with fail
    go_ret2
    exact ⟨rfl, rfl⟩

set_option maxHeartbeats 1000000 in
theorem join_low_no (s : Bool) (m e e2 L x1 x2 x3 : Int) (o : Nat) (w : World) (m0 : (m == 0) = false) (d1 : decide (e < -1137) = false) (d2 : decide (1023 < e) = false)
    (h1 : wrap64 (e2 + L) = x1) (h2 : wrap64 (x1 - 1) = x2) (h3 : wrap64 (x2 - 52) = x3) (c1 : x3 < -1074) (c2 : decide (e2 < -1074) = true)
    (cO : Hid (∀ w, Laid w → Calls Tryd.prog 15 #[.int .u64 m, .int .i64 e] w fun e w' => e = .returned (.tuple #[.int .u64 (o : Int), .int .i64 e2]) ∧ w' = w)) (hL : Hid (Laid w))
    (cL : Hid (∀ w, Calls Tryd.prog 16 #[.int .u64 (o : Int)] w fun e w' => e = .returned (.int .i64 L) ∧ w = w')) :
    Calls Tryd.prog 7 #[.bool s, .int .u64 m, .int .i64 e] w fun r w' => r = .returned (.tuple #[.int .u64 0, .bool false]) ∧ w' = w := by
  go_enter Tryd.func7, Tryd.ntmps7
  go_wp2_with fail
  refine (cO.out _ hL.out).mono ?_
  rintro r w1 ⟨rfl, hw⟩; subst w1
  go_wp2_with fail
  refine (cL.out _).mono ?_
  rintro r w1 ⟨rfl, hw⟩; subst w1
  go_wp2_with fail
  go_ret2
  exact ⟨rfl, rfl⟩

set_option maxHeartbeats 1000000 in
theorem join_high_no (s : Bool) (m e e2 L x1 x2 x3 : Int) (o : Nat) (w : World) (m0 : (m == 0) = false) (d1 : decide (e < -1137) = false) (d2 : decide (1023 < e) = false)
    (h1 : wrap64 (e2 + L) = x1) (h2 : wrap64 (x1 - 1) = x2) (h3 : wrap64 (x2 - 52) = x3) (c1 : -1074 ≤ x3) (c2 : decide (e2 < x3) = true)
    (cO : Hid (∀ w, Laid w → Calls Tryd.prog 15 #[.int .u64 m, .int .i64 e] w fun e w' => e = .returned (.tuple #[.int .u64 (o : Int), .int .i64 e2]) ∧ w' = w)) (hL : Hid (Laid w))
    (cL : Hid (∀ w, Calls Tryd.prog 16 #[.int .u64 (o : Int)] w fun e w' => e = .returned (.int .i64 L) ∧ w = w')) :
    Calls Tryd.prog 7 #[.bool s, .int .u64 m, .int .i64 e] w fun r w' => r = .returned (.tuple #[.int .u64 0, .bool false]) ∧ w' = w := by
  go_enter Tryd.func7, Tryd.ntmps7
  go_wp2_with fail
  refine (cO.out _ hL.out).mono ?_
  rintro r w1 ⟨rfl, hw⟩; subst w1
  go_wp2_with fail
  refine (cL.out _).mono ?_
  rintro r w1 ⟨rfl, hw⟩; subst w1
  go_wp2_with fail
  go_ret2
  exact ⟨rfl, rfl⟩

set_option maxHeartbeats 1000000 in
theorem join_high_far (s : Bool) (m e e2 L x1 x2 x3 : Int) (o : Nat) (w : World) (m0 : (m == 0) = false) (d1 : decide (e < -1137) = false) (d2 : decide (1023 < e) = false)
    (h1 : wrap64 (e2 + L) = x1) (h2 : wrap64 (x1 - 1) = x2) (h3 : wrap64 (x2 - 52) = x3) (c1 : -1074 ≤ x3) (c2 : decide (e2 < x3) = false) (c3 : decide (971 < x3) = true)
    (cO : Hid (∀ w, Laid w → Calls Tryd.prog 15 #[.int .u64 m, .int .i64 e] w fun e w' => e = .returned (.tuple #[.int .u64 (o : Int), .int .i64 e2]) ∧ w' = w)) (hL : Hid (Laid w))
    (cL : Hid (∀ w, Calls Tryd.prog 16 #[.int .u64 (o : Int)] w fun e w' => e = .returned (.int .i64 L) ∧ w = w')) :
    Calls Tryd.prog 7 #[.bool s, .int .u64 m, .int .i64 e] w fun r w' => r = .returned (.tuple #[.int .u64 0, .bool false]) ∧ w' = w := by
  go_enter Tryd.func7, Tryd.ntmps7
  go_wp2_with fail
  refine (cO.out _ hL.out).mono ?_
  rintro r w1 ⟨rfl, hw⟩; subst w1
  go_wp2_with fail
  refine (cL.out _).mono ?_
  rintro r w1 ⟨rfl, hw⟩; subst w1
  go_wp2_with fail
  go_ret2
  exact ⟨rfl, rfl⟩

set_option maxHeartbeats 1000000 in
theorem join_low_yes (s : Bool) (m e e2 L x1 x2 x3 : Int) (o : Nat) (j M p q : Nat) (w : World) (m0 : (m == 0) = false) (d1 : decide (e < -1137) = false) (d2 : decide (1023 < e) = false)
    (h1 : wrap64 (e2 + L) = x1) (h2 : wrap64 (x1 - 1) = x2) (h3 : wrap64 (x2 - 52) = x3) (c1 : x3 < -1074) (c2 : decide (e2 < -1074) = false) (y1 : wrap64 (e2 + 1074) = (j : Int)) (y2 : IntKind.u64.wrap ((o : Int) * 2 ^ min j 64) = (M : Int))
    (cO : Hid (∀ w, Laid w → Calls Tryd.prog 15 #[.int .u64 m, .int .i64 e] w fun e w' => e = .returned (.tuple #[.int .u64 (o : Int), .int .i64 e2]) ∧ w' = w)) (hL : Hid (Laid w))
    (cL : Hid (∀ w, Calls Tryd.prog 16 #[.int .u64 (o : Int)] w fun e w' => e = .returned (.int .i64 L) ∧ w = w')) 
    (cP : Hid (∀ w, Calls Tryd.prog 17 #[.int .u64 (M : Int), .int .i64 (-1074)] w fun e w' => e = .returned (.int .u64 (p : Int)) ∧ w' = w))
    (cG : Hid (∀ w, Calls Tryd.prog 14 #[.bool s, .int .u64 (p : Int)] w fun e w' => e = .returned (.int .u64 (q : Int)) ∧ w' = w)) :
    Calls Tryd.prog 7 #[.bool s, .int .u64 m, .int .i64 e] w fun r w' => r = .returned (.tuple #[.int .u64 (q : Int), .bool true]) ∧ w' = w := by
  go_enter Tryd.func7, Tryd.ntmps7
  go_wp2_with fail
  refine (cO.out _ hL.out).mono ?_
  rintro r w1 ⟨rfl, hw⟩; subst w1
  go_wp2_with fail
  refine (cL.out _).mono ?_
  rintro r w1 ⟨rfl, hw⟩; subst w1
  go_wp2_with fail
  refine (cP.out _).mono ?_
  rintro r w1 ⟨rfl, hw⟩; subst w1
  go_wp2_with fail
  refine (cG.out _).mono ?_
  rintro r w1 ⟨rfl, hw⟩; subst w1
  go_wp2_with fail
  go_ret2
  exact ⟨rfl, rfl⟩

set_option maxHeartbeats 1000000 in
theorem join_high_yes (s : Bool) (m e e2 L x1 x2 x3 : Int) (o : Nat) (j M p q : Nat) (w : World) (m0 : (m == 0) = false) (d1 : decide (e < -1137) = false) (d2 : decide (1023 < e) = false)
    (h1 : wrap64 (e2 + L) = x1) (h2 : wrap64 (x1 - 1) = x2) (h3 : wrap64 (x2 - 52) = x3) (c1 : -1074 ≤ x3) (c2 : decide (e2 < x3) = false) (c3 : decide (971 < x3) = false) (y1 : wrap64 (e2 - x3) = (j : Int)) (y2 : IntKind.u64.wrap ((o : Int) * 2 ^ min j 64) = (M : Int))
    (cO : Hid (∀ w, Laid w → Calls Tryd.prog 15 #[.int .u64 m, .int .i64 e] w fun e w' => e = .returned (.tuple #[.int .u64 (o : Int), .int .i64 e2]) ∧ w' = w)) (hL : Hid (Laid w))
    (cL : Hid (∀ w, Calls Tryd.prog 16 #[.int .u64 (o : Int)] w fun e w' => e = .returned (.int .i64 L) ∧ w = w')) 
    (cP : Hid (∀ w, Calls Tryd.prog 17 #[.int .u64 (M : Int), .int .i64 x3] w fun e w' => e = .returned (.int .u64 (p : Int)) ∧ w' = w))
    (cG : Hid (∀ w, Calls Tryd.prog 14 #[.bool s, .int .u64 (p : Int)] w fun e w' => e = .returned (.int .u64 (q : Int)) ∧ w' = w)) :
    Calls Tryd.prog 7 #[.bool s, .int .u64 m, .int .i64 e] w fun r w' => r = .returned (.tuple #[.int .u64 (q : Int), .bool true]) ∧ w' = w := by
  go_enter Tryd.func7, Tryd.ntmps7
  go_wp2_with fail
  refine (cO.out _ hL.out).mono ?_
  rintro r w1 ⟨rfl, hw⟩; subst w1
  go_wp2_with fail
  refine (cL.out _).mono ?_
  rintro r w1 ⟨rfl, hw⟩; subst w1
  go_wp2_with fail
  refine (cP.out _).mono ?_
  rintro r w1 ⟨rfl, hw⟩; subst w1
  go_wp2_with fail
  refine (cG.out _).mono ?_
  rintro r w1 ⟨rfl, hw⟩; subst w1
  go_wp2_with fail
  go_ret2
  exact ⟨rfl, rfl⟩

theorem shl_min {o j M : Nat} (hj : j ≤ 64) (hM : o * 2 ^ j = M) (hb : M < 18446744073709551616) : IntKind.u64.wrap ((o : Int) * 2 ^ min j 64) = (M : Int) := by
  rw [Nat.min_eq_left hj]
  have e : (o : Int) * 2 ^ j = ((o * 2 ^ j : Nat) : Int) := by simp
  rw [e, hM, IntKind.wrap_u64]
  omega

/-- The program's Join. -/
theorem join_any (s : Bool) (m : Nat) (e : Int) (hm : m < 18446744073709551616) (w : World) (hL : Laid w) :
    Calls Tryd.prog 7 #[.bool s, .int .u64 (m : Int), .int .i64 e] w fun r w' => r = .returned (.tuple #[.int .u64 ((jPat s (joinP m e) : Nat) : Int), .bool (joinP m e).isSome]) ∧ w' = w := by
  by_cases m0 : m = 0
  · subst m0
    exact join_nil s e _ w (Lib.hid fun w => signed_any s 0 (by decide) w)
  have m1 : ((m : Int) == 0) = false := by simp only [beq_eq_false_iff_ne]; omega
  by_cases c : e < -1137 ∨ 1023 < e
  · rw [join_far (by omega) hm c]
    refine join_away s (m : Int) e w m1 ?_
    by_cases d : e < -1137
    · exact .inl (by simpa using d)
    · exact .inr ⟨by simpa using d, by have : 1023 < e := by omega
                                       simpa using this⟩
  have d1 : decide (e < -1137) = false := by simp; omega
  have d2 : decide (1023 < e) = false := by simp; omega
  have ho := odd_of (m := m) (by omega) hm
  have cO := Lib.hid fun w hL => odd_any m e (by omega) hm (by omega) w hL
  have hol : oOf m < 18446744073709551616 := Nat.lt_of_le_of_lt (Nat.div_le_self _ _) hm
  have cL := Lib.hid fun w => len64_any (oOf m) hol w
  have ej : joinP m e = joinO (oOf m) (lOf m) (e + (tOf m : Int)) := by unfold joinP; rw [if_neg m0]
  have et := fun r h => join_tells (r := r) (e := e + (tOf m : Int)) ho.lo ho.hi ho.pos h
  rw [ej]
  change Hid (∀ w, Calls Tryd.prog 16 #[.int .u64 ((oOf m : Nat) : Int)] w fun e w' => e = .returned (.int .i64 ((lOf m : Nat) : Int)) ∧ w = w') at cL
  have hfit := ho.fit
  have hpos := ho.pos
  clear ej ho hol
  generalize oOf m = o at *
  generalize tOf m = t at *
  generalize lOf m = l at *
  generalize he2 : e + (t : Int) = e2 at *
  have b2 : -1137 ≤ e2 ∧ e2 ≤ 1087 := by omega
  have y1 : wrap64 (e2 + (l : Int)) = e2 + (l : Int) := in64 (by omega)
  have y2 : wrap64 (e2 + (l : Int) - 1) = e2 + (l : Int) - 1 := in64 (by omega)
  have y3 : wrap64 (e2 + (l : Int) - 1 - 52) = e2 + (l : Int) - 53 := by rw [in64 (by omega)]; omega
  by_cases c1 : e2 + (l : Int) - 53 < -1074
  · have hu : uOf l e2 = -1074 := by unfold uOf; rw [if_pos c1]
    by_cases c2 : e2 < -1074
    · have hj : joinO o l e2 = none := by unfold joinO; rw [hu, if_pos c2]
      rw [hj]
      exact join_low_no s m e e2 l _ _ _ o w m1 d1 d2 y1 y2 y3 c1 (by simpa using c2) cO (Lib.hid hL) cL
    · obtain ⟨r, hr⟩ : ∃ r, joinO o l e2 = some r := by unfold joinO; rw [hu, if_neg c2, if_neg (by omega)]; exact ⟨_, rfl⟩
      obtain ⟨j, hj, r0, r1, -, -, u0, u1, hM, -, hq⟩ := et r hr
      rw [hr]
      rw [hu] at hj u0 u1 hq
      generalize hMM : o * 2 ^ j = M at *
      have hq2 : r = M + 0 * 4503599627370496 := by rw [Nat.zero_mul, Nat.add_zero]; simpa using hq
      exact join_low_yes s m e e2 l _ _ _ o j M r _ w m1 d1 d2 y1 y2 y3 c1 (by simp; omega) (by rw [in64 (by omega)]; omega) (shl_min (by omega) hMM (by omega)) cO (Lib.hid hL) cL
        (Lib.hid fun w => packed_any _ 0 (-1074) r w (show _ = _ by omega) (show _ ≤ _ by omega) (Lib.hid hM) (Lib.hid hq2)) (Lib.hid fun w => signed_any s r (by omega) w)
  · have hu : uOf l e2 = e2 + (l : Int) - 53 := by unfold uOf; rw [if_neg c1]
    by_cases c2 : e2 < e2 + (l : Int) - 53
    · have hj : joinO o l e2 = none := by unfold joinO; rw [hu, if_pos c2]
      rw [hj]
      exact join_high_no s m e e2 l _ _ _ o w m1 d1 d2 y1 y2 y3 (by omega) (by simpa using c2) cO (Lib.hid hL) cL
    · by_cases c3 : 971 < e2 + (l : Int) - 53
      · have hj : joinO o l e2 = none := by unfold joinO; rw [hu, if_neg c2, if_pos c3]
        rw [hj]
        exact join_high_far s m e e2 l _ _ _ o w m1 d1 d2 y1 y2 y3 (by omega) (by simpa using c2) (by simpa using c3) cO (Lib.hid hL) cL
      · obtain ⟨r, hr⟩ : ∃ r, joinO o l e2 = some r := by unfold joinO; rw [hu, if_neg c2, if_neg c3]; exact ⟨_, rfl⟩
        obtain ⟨j, hj, r0, r1, -, -, u0, u1, hM, -, hq⟩ := et r hr
        rw [hr]
        rw [hu] at hj u0 u1 hq
        generalize hMM : o * 2 ^ j = M at *
        obtain ⟨q, hqq⟩ : ∃ q : Nat, (q : Int) = e2 + (l : Int) - 53 + 1074 := ⟨(e2 + (l : Int) - 53 + 1074).toNat, by omega⟩
        rw [show (e2 + (l : Int) - 53 + 1074).toNat = q by omega] at hq
        exact join_high_yes s m e e2 l _ _ _ o j M r _ w m1 d1 d2 y1 y2 y3 (by omega) (by simpa using c2) (by simpa using c3) (by rw [in64 (by omega)]; omega) (shl_min (by omega) hMM (by omega)) cO (Lib.hid hL) cL
          (Lib.hid fun w => packed_any _ q _ r w (show _ = _ by omega) (show _ ≤ _ by omega) (Lib.hid hM) (Lib.hid hq)) (Lib.hid fun w => signed_any s r (by omega) w)

end Go.Proofs.YtbbpibbckfnlbaaDoor
