/-
  The program's Whole and Of: a pattern as a whole number, a whole number as a pattern. No condition but the table (Laid) and the arguments' own bounds.
-/
import Derived.Test.YtbbpibbckfnlbaaDoorDblC
namespace Go.Proofs.YtbbpibbckfnlbaaDoor
open Go.RowKit

/-- What Whole answers: the number, or 0. -/
def wNum : Option Int → Int
  | some v => v
  | none => 0

set_option maxHeartbeats 400000 in
theorem whole_nought (x : Int) (s : Bool) (m : Nat) (e : Int) (w : World) (cS : Hid (∀ w, Calls Tryd.prog 13 #[.int .u64 x] w fun r w' => r = .returned (.tuple #[.int .i64 1, .bool s, .int .u64 (m : Int), .int .i64 e]) ∧ w' = w)) :
    Calls Tryd.prog 9 #[.int .u64 x] w fun r w' => r = .returned (.tuple #[.int .i64 0, .bool true]) ∧ w' = w := by
  go_enter Tryd.func9, Tryd.ntmps9
  go_wp2_with fail
  refine (cS.out _).mono ?_
  rintro r w1 ⟨rfl, hw⟩; subst w1
  go_wp2_with fail
  go_ret2
  exact ⟨rfl, rfl⟩

set_option maxHeartbeats 400000 in
theorem whole_kind (x : Int) (k : Int) (s : Bool) (m : Nat) (e : Int) (w : World) (k1 : (k == 1) = false) (k3 : ¬ k = 2) (cS : Hid (∀ w, Calls Tryd.prog 13 #[.int .u64 x] w fun r w' => r = .returned (.tuple #[.int .i64 k, .bool s, .int .u64 (m : Int), .int .i64 e]) ∧ w' = w)) :
    Calls Tryd.prog 9 #[.int .u64 x] w fun r w' => r = .returned (.tuple #[.int .i64 0, .bool false]) ∧ w' = w := by
  go_enter Tryd.func9, Tryd.ntmps9
  go_wp2_with fail
  refine (cS.out _).mono ?_
  rintro r w1 ⟨rfl, hw⟩; subst w1
  go_wp2_with fail
  go_ret2
  exact ⟨rfl, rfl⟩

set_option maxHeartbeats 400000 in
theorem whole_part (x : Int) (s : Bool) (o : Nat) (e2 : Int) (m : Nat) (e : Int) (w : World) (c : decide (e2 < 0) = true) (cS : Hid (∀ w, Calls Tryd.prog 13 #[.int .u64 x] w fun r w' => r = .returned (.tuple #[.int .i64 2, .bool s, .int .u64 (m : Int), .int .i64 e]) ∧ w' = w)) (cO : Hid (∀ w, Laid w → Calls Tryd.prog 15 #[.int .u64 (m : Int), .int .i64 e] w fun r w' => r = .returned (.tuple #[.int .u64 (o : Int), .int .i64 e2]) ∧ w' = w)) (hL : Hid (Laid w)) :
    Calls Tryd.prog 9 #[.int .u64 x] w fun r w' => r = .returned (.tuple #[.int .i64 0, .bool false]) ∧ w' = w := by
  go_enter Tryd.func9, Tryd.ntmps9
  go_wp2_with fail
  refine (cS.out _).mono ?_
  rintro r w1 ⟨rfl, hw⟩; subst w1
  go_wp2_with fail
  refine (cO.out _ hL.out).mono ?_
  rintro r w1 ⟨rfl, hw⟩; subst w1
  go_wp2_with fail
  go_ret2
  exact ⟨rfl, rfl⟩

set_option maxHeartbeats 400000 in
theorem whole_far (x : Int) (s : Bool) (o j Q : Nat) (m : Nat) (e : Int) (w : World) (h1 : ((mostOf s : Nat) : Int) / 2 ^ min j 64 = (Q : Int)) (cn : Q < o) (cS : Hid (∀ w, Calls Tryd.prog 13 #[.int .u64 x] w fun r w' => r = .returned (.tuple #[.int .i64 2, .bool s, .int .u64 (m : Int), .int .i64 e]) ∧ w' = w)) (cO : Hid (∀ w, Laid w → Calls Tryd.prog 15 #[.int .u64 (m : Int), .int .i64 e] w fun r w' => r = .returned (.tuple #[.int .u64 (o : Int), .int .i64 (j : Int)]) ∧ w' = w)) (hL : Hid (Laid w)) :
    Calls Tryd.prog 9 #[.int .u64 x] w fun r w' => r = .returned (.tuple #[.int .i64 0, .bool false]) ∧ w' = w := by
  go_enter Tryd.func9, Tryd.ntmps9
  go_wp2_with fail
  refine (cS.out _).mono ?_
  rintro r w1 ⟨rfl, hw⟩; subst w1
  go_wp2_with fail
  refine (cO.out _ hL.out).mono ?_
  rintro r w1 ⟨rfl, hw⟩; subst w1
  go_wp2_with fail
  refine (most_any _ _).mono ?_
  rintro r w1 ⟨rfl, hw⟩; subst w1
  go_wp2_with fail
  go_ret2
  exact ⟨rfl, rfl⟩

set_option maxHeartbeats 400000 in
theorem whole_pos (x : Int) (o j Q V : Nat) (m : Nat) (e : Int) (w : World) (h1 : ((mostOf false : Nat) : Int) / 2 ^ min j 64 = (Q : Int)) (cn : ¬ Q < o) (h2 : IntKind.u64.wrap ((o : Int) * 2 ^ min j 64) = (V : Int)) (h3 : wrap64 (V : Int) = (V : Int)) (cS : Hid (∀ w, Calls Tryd.prog 13 #[.int .u64 x] w fun r w' => r = .returned (.tuple #[.int .i64 2, .bool false, .int .u64 (m : Int), .int .i64 e]) ∧ w' = w)) (cO : Hid (∀ w, Laid w → Calls Tryd.prog 15 #[.int .u64 (m : Int), .int .i64 e] w fun r w' => r = .returned (.tuple #[.int .u64 (o : Int), .int .i64 (j : Int)]) ∧ w' = w)) (hL : Hid (Laid w)) :
    Calls Tryd.prog 9 #[.int .u64 x] w fun r w' => r = .returned (.tuple #[.int .i64 (V : Int), .bool true]) ∧ w' = w := by
  go_enter Tryd.func9, Tryd.ntmps9
  go_wp2_with fail
  refine (cS.out _).mono ?_
  rintro r w1 ⟨rfl, hw⟩; subst w1
  go_wp2_with fail
  refine (cO.out _ hL.out).mono ?_
  rintro r w1 ⟨rfl, hw⟩; subst w1
  go_wp2_with fail
  refine (most_any _ _).mono ?_
  rintro r w1 ⟨rfl, hw⟩; subst w1
  go_wp2_with fail
  go_ret2
  exact ⟨by simp [h3], rfl⟩

set_option maxHeartbeats 400000 in
theorem whole_neg (x : Int) (o j Q V U : Nat) (m : Nat) (e : Int) (w : World) (h1 : ((mostOf true : Nat) : Int) / 2 ^ min j 64 = (Q : Int)) (cn : ¬ Q < o) (h2 : IntKind.u64.wrap ((o : Int) * 2 ^ min j 64) = (V : Int)) (h4 : IntKind.u64.wrap (-(V : Int)) = (U : Int)) (h3 : wrap64 (U : Int) = -(V : Int)) (cS : Hid (∀ w, Calls Tryd.prog 13 #[.int .u64 x] w fun r w' => r = .returned (.tuple #[.int .i64 2, .bool true, .int .u64 (m : Int), .int .i64 e]) ∧ w' = w)) (cO : Hid (∀ w, Laid w → Calls Tryd.prog 15 #[.int .u64 (m : Int), .int .i64 e] w fun r w' => r = .returned (.tuple #[.int .u64 (o : Int), .int .i64 (j : Int)]) ∧ w' = w)) (hL : Hid (Laid w)) :
    Calls Tryd.prog 9 #[.int .u64 x] w fun r w' => r = .returned (.tuple #[.int .i64 (-(V : Int)), .bool true]) ∧ w' = w := by
  go_enter Tryd.func9, Tryd.ntmps9
  go_wp2_with fail
  refine (cS.out _).mono ?_
  rintro r w1 ⟨rfl, hw⟩; subst w1
  go_wp2_with fail
  refine (cO.out _ hL.out).mono ?_
  rintro r w1 ⟨rfl, hw⟩; subst w1
  go_wp2_with fail
  refine (most_any _ _).mono ?_
  rintro r w1 ⟨rfl, hw⟩; subst w1
  go_wp2_with fail
  go_ret2
  exact ⟨by simp [h3], rfl⟩

theorem shr_most {s : Bool} {j : Nat} : ((mostOf s : Nat) : Int) / 2 ^ min j 64 = ((mostOf s / 2 ^ min j 64 : Nat) : Int) := by simp
/-- Is the quotient below o, the product is beyond the bound, and the other way round. -/
theorem most_iff {s : Bool} {j o : Nat} (ho : 1 ≤ o) : mostOf s / 2 ^ min j 64 < o ↔ mostOf s < o * 2 ^ j := by
  have hm : mostOf s < 2 ^ 64 := by cases s <;> decide
  rcases Nat.le_total j 64 with h | h
  · rw [Nat.min_eq_left h, Nat.div_lt_iff_lt_mul (Nat.two_pow_pos j)]
  · rw [Nat.min_eq_right h, Nat.div_eq_of_lt hm]
    have h1 : 2 ^ 64 ≤ 2 ^ j := Nat.pow_le_pow_right (by decide) h
    have h2 : 1 * 2 ^ j ≤ o * 2 ^ j := Nat.mul_le_mul_right _ ho
    constructor
    · intro _; omega
    · intro _; omega

theorem wholeA_far {s : Bool} {V : Nat} (h : mostOf s < V) : wholeA s V = none := by
  cases s
  · simp only [mostOf, Bool.false_eq_true, if_false] at h
    simp only [wholeA, Bool.false_eq_true, if_false]
    rw [if_neg (by omega)]
  · simp only [mostOf, if_true] at h
    simp only [wholeA, if_true]
    rw [if_neg (by omega)]
theorem wholeA_in {s : Bool} {V : Nat} (h : V ≤ mostOf s) : wholeA s V = some (if s then -(V : Int) else (V : Int)) := by
  cases s
  · simp only [mostOf, Bool.false_eq_true, if_false] at h
    simp only [wholeA, Bool.false_eq_true, if_false]
    rw [if_pos (by omega)]
  · simp only [mostOf, if_true] at h
    simp only [wholeA, if_true]
    rw [if_pos (by omega)]

theorem m_pos {r : Nat} (c0 : ¬ r = 0) (c : r < 9218868437227405312) : 0 < mOf r := by
  unfold mOf
  split
  · omega
  · omega
theorem e_bounds (r : Nat) : -1074 ≤ eOf r ∧ eOf r ≤ 971 := by
  unfold eOf
  split
  · omega
  · split
    · omega
    · split
      · omega
      · omega
theorem k_fin {r : Nat} (c0 : ¬ r = 0) (c : r < 9218868437227405312) : kOf r = 2 := by unfold kOf; rw [if_neg c0, if_pos c]

/-- The program's Whole. -/
theorem whole_any (s : Bool) (r : Nat) (hr : r < 9223372036854775808) (w : World) (hL : Laid w) :
    Calls Tryd.prog 9 #[.int .u64 ((pat s r : Nat) : Int)] w fun x w' => x = .returned (.tuple #[.int .i64 (wNum (wholeP s r)), .bool (wholeP s r).isSome]) ∧ w' = w := by
  have cS := Lib.hid fun w => split_any s r hr w
  by_cases c0 : r = 0
  · subst c0
    exact whole_nought _ s _ _ w cS
  by_cases c1 : r < 9218868437227405312
  · have hm0 := m_pos c0 c1
    have hml := m_lt r
    have heb := e_bounds r
    have hk := k_fin c0 c1
    have ho := odd_of hm0 (Nat.lt_trans hml (by decide))
    have hw : wholeP s r = wholeO s (oOf (mOf r)) (eOf r + (tOf (mOf r) : Int)) := by unfold wholeP; rw [if_neg c0, if_neg (by omega)]
    have cO := Lib.hid fun w hL => odd_any (mOf r) (eOf r) hm0 (Nat.lt_trans hml (by decide)) (by omega) w hL
    rw [hw]
    rw [hk] at cS
    have ho1 := ho.odd
    have hfit := ho.fit
    have hpos := ho.pos
    generalize mOf r = m at *
    generalize eOf r = e at *
    generalize oOf m = o at *
    generalize tOf m = t at *
    generalize lOf m = l at *
    generalize pat s r = x at *
    clear hw hr hk
    generalize he2 : e + (t : Int) = e2 at *
    by_cases c2 : e2 < 0
    · have h1 : wholeO s o e2 = none := by unfold wholeO; rw [if_pos c2]
      rw [h1]
      exact whole_part x s o e2 m e w (by simpa using c2) cS cO (Lib.hid hL)
    · obtain ⟨j, hj⟩ : ∃ j : Nat, e2 = (j : Int) := ⟨e2.toNat, by omega⟩
      have h1 : wholeO s o e2 = wholeA s (o * 2 ^ j) := by unfold wholeO; rw [if_neg c2, show e2.toNat = j by omega]
      rw [h1]
      subst hj
      have hi := most_iff (s := s) (j := j) (o := o) (by omega)
      by_cases c3 : mostOf s < o * 2 ^ j
      · rw [wholeA_far c3]
        exact whole_far x s o j _ m e w shr_most (hi.2 c3) cS cO (Lib.hid hL)
      · rw [wholeA_in (by omega)]
        have hjb : j ≤ 64 := by
          apply Nat.le_of_not_lt
          intro hlt
          have h2 : 2 ^ 65 ≤ 2 ^ j := Nat.pow_le_pow_right (by decide) hlt
          have h3 : 1 * 2 ^ j ≤ o * 2 ^ j := Nat.mul_le_mul_right _ (by omega)
          have : mostOf s < 2 ^ 64 := by cases s <;> decide
          omega
        have hM : mostOf s ≤ 9223372036854775808 := by cases s <;> decide
        have h0 : ¬ mostOf s / 2 ^ min j 64 < o := fun h => c3 (hi.1 h)
        have hV : o * 2 ^ j < 18446744073709551616 := by omega
        cases s
        · have hV2 : o * 2 ^ j ≤ 9223372036854775807 := by
            have : mostOf false = 9223372036854775807 := rfl
            omega
          exact whole_pos x o j _ (o * 2 ^ j) m e w shr_most h0 (shl_min hjb rfl hV) (in64 (by omega)) cS cO (Lib.hid hL)
        · have hV2 : o * 2 ^ j ≤ 9223372036854775808 := by
            have : mostOf true = 9223372036854775808 := rfl
            omega
          have hV0 : 0 < o * 2 ^ j := Nat.mul_pos (by omega) (Nat.two_pow_pos j)
          exact whole_neg x o j _ (o * 2 ^ j) (18446744073709551616 - o * 2 ^ j) m e w shr_most h0 (shl_min hjb rfl hV) (by rw [IntKind.wrap_u64]; omega) (by unfold wrap64; omega) cS cO (Lib.hid hL)
  · have h1 : wholeP s r = none := by unfold wholeP; rw [if_neg c0, if_pos (by omega)]
    rw [h1]
    by_cases c3 : r = 9218868437227405312
    · have hk : kOf r = 3 := by rw [c3]; decide
      rw [hk] at cS
      exact whole_kind _ 3 s _ _ w rfl (by decide) cS
    · have hk : kOf r = 4 := (tells_nan (by omega)).1
      rw [hk] at cS
      exact whole_kind _ 4 s _ _ w rfl (by decide) cS

set_option maxHeartbeats 400000 in
theorem of_low (v : Int) (U V p : Nat) (b : Bool) (w : World) (h0 : decide (v < 0) = true) (h1 : IntKind.u64.wrap v = (U : Int)) (h2 : IntKind.u64.wrap (-(U : Int)) = (V : Int))
    (cJ : Hid (∀ w, Laid w → Calls Tryd.prog 7 #[.bool true, .int .u64 (V : Int), .int .i64 0] w fun r w' => r = .returned (.tuple #[.int .u64 (p : Int), .bool b]) ∧ w' = w)) (hL : Hid (Laid w)) :
    Calls Tryd.prog 11 #[.int .i64 v] w fun r w' => r = .returned (.tuple #[.int .u64 (p : Int), .bool b]) ∧ w' = w := by
  go_enter Tryd.func11, Tryd.ntmps11
  go_wp2_with fail
  refine (cJ.out _ hL.out).mono ?_
  rintro r w1 ⟨rfl, hw⟩; subst w1
  go_wp2_with fail
  go_ret2
  exact ⟨rfl, rfl⟩
set_option maxHeartbeats 400000 in
theorem of_high (v : Int) (V p : Nat) (b : Bool) (w : World) (h0 : decide (v < 0) = false) (h1 : IntKind.u64.wrap v = (V : Int))
    (cJ : Hid (∀ w, Laid w → Calls Tryd.prog 7 #[.bool false, .int .u64 (V : Int), .int .i64 0] w fun r w' => r = .returned (.tuple #[.int .u64 (p : Int), .bool b]) ∧ w' = w)) (hL : Hid (Laid w)) :
    Calls Tryd.prog 11 #[.int .i64 v] w fun r w' => r = .returned (.tuple #[.int .u64 (p : Int), .bool b]) ∧ w' = w := by
  go_enter Tryd.func11, Tryd.ntmps11
  go_wp2_with fail
  refine (cJ.out _ hL.out).mono ?_
  rintro r w1 ⟨rfl, hw⟩; subst w1
  go_wp2_with fail
  go_ret2
  exact ⟨rfl, rfl⟩

/-- The program's Of. -/
theorem of_any (v : Int) (hv : -9223372036854775808 ≤ v ∧ v ≤ 9223372036854775807) (w : World) (hL : Laid w) :
    Calls Tryd.prog 11 #[.int .i64 v] w fun r w' => r = .returned (.tuple #[.int .u64 ((jPat (decide (v < 0)) (joinP v.natAbs 0) : Nat) : Int), .bool (joinP v.natAbs 0).isSome]) ∧ w' = w := by
  by_cases c : v < 0
  · rw [show decide (v < 0) = true from decide_eq_true c]
    exact of_low v (18446744073709551616 - v.natAbs) v.natAbs _ _ w (decide_eq_true c) (by rw [IntKind.wrap_u64]; omega) (by rw [IntKind.wrap_u64]; omega)
      (Lib.hid fun w hL => join_any true v.natAbs 0 (by omega) w hL) (Lib.hid hL)
  · rw [show decide (v < 0) = false from decide_eq_false c]
    exact of_high v v.natAbs _ _ w (decide_eq_false c) (by rw [IntKind.wrap_u64]; omega)
      (Lib.hid fun w hL => join_any false v.natAbs 0 (by omega) w hL) (Lib.hid hL)

end Go.Proofs.YtbbpibbckfnlbaaDoor
