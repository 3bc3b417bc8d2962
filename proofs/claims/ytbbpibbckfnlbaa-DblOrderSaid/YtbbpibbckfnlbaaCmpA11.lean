/-
  Both comparisons of patterns, the program's and the document's. For all patterns; no condition.
-/
import Derived.Test.YtbbpibbckfnlbaaAwake11
import Derived.Laws.BitsAllLaws
namespace Go.Proofs.Ytbbpibbckfnlbaa
open Go.RowKit

/-- Where a pattern stands. -/
def rk (s : Bool) (r : Nat) : Int := if s then -(r : Int) else (r : Int)
def cI (x y : Int) : Int := if x < y then -1 else if y < x then 1 else 0
theorem cI_turn (x y : Int) : cI y x = -cI x y := by
  unfold cI
  by_cases h1 : x < y
  · rw [if_pos h1, if_neg (show ¬ y < x by omega), if_pos h1]; rfl
  · by_cases h2 : y < x
    · rw [if_pos h2, if_neg h1, if_pos h2]
    · rw [if_neg h1, if_neg h2, if_neg h2, if_neg h1]; rfl

set_option maxHeartbeats 400000 in
theorem compareNaN_any (x : Int) (w : World) : Calls Try.prog 14 #[.int .i64 x] w fun e w' => e = .returned (.bool false) ∧ w' = w := by
  go_enter Try.func14, Try.ntmps14
  go_wp2_with fail
  go_ret
  exact ⟨by simp, rfl⟩
set_option maxHeartbeats 1000000 in
theorem compare_any (x y : Int) (w : World) : Calls Try.prog 12 #[.int .i64 x, .int .i64 y] w fun e w' => e = .returned (.int .i64 (cI x y)) ∧ w' = w := by
  have c1 := Lib.hid (compareNaN_any x w)
  have c2 := Lib.hid (compareNaN_any y w)
  have hc : (decide (x < y) = true ∧ cI x y = -1) ∨ (decide (x < y) = false ∧ decide (y < x) = true ∧ cI x y = 1) ∨ (decide (x < y) = false ∧ decide (y < x) = false ∧ cI x y = 0) := by
    unfold cI
    by_cases h1 : x < y
    · exact .inl ⟨by simpa using h1, by rw [if_pos h1]⟩
    · by_cases h2 : y < x
      · exact .inr (.inl ⟨by simpa using h1, by simpa using h2, by rw [if_neg h1, if_pos h2]⟩)
      · exact .inr (.inr ⟨by simpa using h1, by simpa using h2, by rw [if_neg h1, if_neg h2]⟩)
  rcases hc with ⟨d1, h⟩ | ⟨d1, d2, h⟩ | ⟨d1, d2, h⟩
  all_goals
    rw [h]
    clear h
    go_enter Try.func12, Try.ntmps12
    go_wp2_with fail
    refine c1.out.mono ?_
    rintro e v1 ⟨rfl, hw⟩; subst v1
    go_wp2_with fail
    refine c2.out.mono ?_
    rintro e v1 ⟨rfl, hw⟩; subst v1
    go_wp2_with fail
    go_ret
    exact ⟨rfl, rfl⟩

set_option maxHeartbeats 400000 in
theorem isNaN_walk (x : Int) (k : Int) (s : Bool) (m e : Int) (b : Bool) (w : World) (hk : (k == 4) = b)
    (cS : Hid (∀ w, Calls Try.prog 7 #[.int .u64 x] w fun r w' => r = .returned (.tuple #[.int .i64 k, .bool s, .int .u64 m, .int .i64 e]) ∧ w' = w)) :
    Calls Try.prog 11 #[.int .u64 x] w fun e w' => e = .returned (.bool b) ∧ w' = w := by
  go_enter Try.func11, Try.ntmps11
  go_wp2_with fail
  refine (cS.out _).mono ?_
  rintro e v1 ⟨rfl, hw⟩; subst v1
  go_wp2_with fail
  go_ret
  exact ⟨rfl, rfl⟩

theorem and_not_top (s : Bool) (r : Nat) (hr : r < 9223372036854775808) : bits .andNot .u64 ((pat s r : Nat) : Int) 9223372036854775808 = (r : Int) := by
  have h := u64_andNot_nat (pat s r) 9223372036854775808 (pat_lt hr) (by decide)
  have e : pat s r &&& (18446744073709551615 - 9223372036854775808) = pat s r % 2 ^ 63 := Nat.and_two_pow_sub_one_eq_mod (pat s r) 63
  have e2 : pat s r % 2 ^ 63 = r := by cases s <;> simp [pat] <;> omega
  rw [e, e2] at h
  exact h

set_option maxHeartbeats 400000 in
theorem rank_walk (X S R : Int) (b : Bool) (Q : Int) (w : World) (h1 : bits .andNot .u64 X 9223372036854775808 = R) (h2 : wrap64 R = R) (h3 : bits .and .u64 X 9223372036854775808 = S) (h4 : (S != 0) = b) (h5 : (b = true ∧ wrap64 (-R) = Q) ∨ (b = false ∧ Q = R)) :
    Calls Try.prog 13 #[.int .u64 X] w fun e w' => e = .returned (.int .i64 Q) ∧ w' = w := by
  rcases h5 with ⟨rfl, h5⟩ | ⟨rfl, rfl⟩
  · go_enter Try.func13, Try.ntmps13
    go_wp2_with fail
    go_ret
    exact ⟨by simp [h5], rfl⟩
  · go_enter Try.func13, Try.ntmps13
    go_wp2_with fail
    go_ret
    exact ⟨by simp [h2], rfl⟩
theorem rank_any (s : Bool) (r : Nat) (hr : r < 9223372036854775808) (w : World) :
    Calls Try.prog 13 #[.int .u64 ((pat s r : Nat) : Int)] w fun e w' => e = .returned (.int .i64 (rk s r)) ∧ w' = w := by
  refine rank_walk _ _ _ s _ w (and_not_top s r hr) (in64 (by omega)) (and_top s r hr) (by cases s <;> rfl) ?_
  cases s
  · exact .inr ⟨rfl, rfl⟩
  · exact .inl ⟨rfl, in64 (by omega)⟩

/-- Is it a NaN? -/
def nn (r : Nat) : Bool := decide (9218868437227405312 < r)
theorem k_nan (r : Nat) : (kOf r == 4) = nn r := by
  unfold nn
  by_cases h : 9218868437227405312 < r
  · rw [(tells_nan h).1, decide_eq_true h]; rfl
  · rw [decide_eq_false h]
    unfold kOf
    split
    · rfl
    · split
      · rfl
      · rw [if_pos (by omega)]; rfl
theorem isNaN_any (s : Bool) (r : Nat) (hr : r < 9223372036854775808) (w : World) :
    Calls Try.prog 11 #[.int .u64 ((pat s r : Nat) : Int)] w fun e w' => e = .returned (.bool (nn r)) ∧ w' = w :=
  isNaN_walk _ _ s _ _ _ w (k_nan r) (Lib.hid fun w => split_any s r hr w)

/-- What Cmp answers. -/
def cA (s : Bool) (r : Nat) (s' : Bool) (r' : Nat) : Int := if nn r || nn r' then 0 else cI (rk s r) (rk s' r')
def cB (r r' : Nat) : Bool := !(nn r || nn r')

set_option maxHeartbeats 1000000 in
theorem cmp_walk (x y a b c : Int) (m n : Bool) (w : World)
    (c1 : Hid (∀ w, Calls Try.prog 11 #[.int .u64 x] w fun e w' => e = .returned (.bool m) ∧ w' = w)) (c2 : Hid (∀ w, Calls Try.prog 11 #[.int .u64 y] w fun e w' => e = .returned (.bool n) ∧ w' = w))
    (c3 : Hid (∀ w, Calls Try.prog 13 #[.int .u64 x] w fun e w' => e = .returned (.int .i64 a) ∧ w' = w)) (c4 : Hid (∀ w, Calls Try.prog 13 #[.int .u64 y] w fun e w' => e = .returned (.int .i64 b) ∧ w' = w))
    (c5 : Hid (∀ w, Calls Try.prog 12 #[.int .i64 a, .int .i64 b] w fun e w' => e = .returned (.int .i64 c) ∧ w' = w)) :
    Calls Try.prog 9 #[.int .u64 x, .int .u64 y] w fun e w' => e = .returned (.tuple #[.int .i64 (if m || n then 0 else c), .bool (!(m || n))]) ∧ w' = w := by
  cases m
  · cases n
    · go_enter Try.func9, Try.ntmps9
      go_wp2_with fail
      refine (c1.out _).mono ?_
      rintro e v1 ⟨rfl, hw⟩; subst v1
      go_wp2_with fail
      refine (c2.out _).mono ?_
      rintro e v1 ⟨rfl, hw⟩; subst v1
      go_wp2_with fail
      refine (c3.out _).mono ?_
      rintro e v1 ⟨rfl, hw⟩; subst v1
      go_wp2_with fail
      refine (c4.out _).mono ?_
      rintro e v1 ⟨rfl, hw⟩; subst v1
      go_wp2_with fail
      refine (c5.out _).mono ?_
      rintro e v1 ⟨rfl, hw⟩; subst v1
      go_wp2_with fail
      go_ret2
      exact ⟨rfl, rfl⟩
    · go_enter Try.func9, Try.ntmps9
      go_wp2_with fail
      refine (c1.out _).mono ?_
      rintro e v1 ⟨rfl, hw⟩; subst v1
      go_wp2_with fail
      refine (c2.out _).mono ?_
      rintro e v1 ⟨rfl, hw⟩; subst v1
      go_wp2_with fail
      go_ret2
      exact ⟨rfl, rfl⟩
  · go_enter Try.func9, Try.ntmps9
    go_wp2_with fail
    refine (c1.out _).mono ?_
    rintro e v1 ⟨rfl, hw⟩; subst v1
    go_wp2_with fail
    go_ret2
    exact ⟨rfl, rfl⟩

theorem cmp_any (s : Bool) (r : Nat) (hr : r < 9223372036854775808) (s' : Bool) (r' : Nat) (hr' : r' < 9223372036854775808) (w : World) :
    Calls Try.prog 9 #[.int .u64 ((pat s r : Nat) : Int), .int .u64 ((pat s' r' : Nat) : Int)] w fun e w' => e = .returned (.tuple #[.int .i64 (cA s r s' r'), .bool (cB r r')]) ∧ w' = w :=
  cmp_walk _ _ _ _ _ _ _ w (Lib.hid fun w => isNaN_any s r hr w) (Lib.hid fun w => isNaN_any s' r' hr' w) (Lib.hid fun w => rank_any s r hr w) (Lib.hid fun w => rank_any s' r' hr' w) (Lib.hid fun w => compare_any _ _ w)

/-! ### The document's -/

set_option maxHeartbeats 400000 in
theorem refCmp_nan (x y k l m1 e1 m2 e2 : Int) (s t : Bool) (w : World) (hk : (k == 4) = true ∨ ((k == 4) = false ∧ (l == 4) = true))
    (c1 : Hid (∀ w, Calls Try.prog 8 #[.int .u64 x] w fun r w' => r = .returned (.tuple #[.int .i64 k, .bool s, .int .u64 m1, .int .i64 e1]) ∧ w' = w))
    (c2 : Hid (∀ w, Calls Try.prog 8 #[.int .u64 y] w fun r w' => r = .returned (.tuple #[.int .i64 l, .bool t, .int .u64 m2, .int .i64 e2]) ∧ w' = w)) :
    Calls Try.prog 10 #[.int .u64 x, .int .u64 y] w fun e w' => e = .returned (.tuple #[.int .i64 0, .bool false]) ∧ w' = w := by
  rcases hk with h | ⟨h, h2⟩
  all_goals
    go_enter Try.func10, Try.ntmps10
    go_wp2_with fail
    refine (c1.out _).mono ?_
    rintro e v1 ⟨rfl, hw⟩; subst v1
    go_wp2_with fail
    refine (c2.out _).mono ?_
    rintro e v1 ⟨rfl, hw⟩; subst v1
    go_wp2_with fail
    go_ret2
    exact ⟨rfl, rfl⟩

/-- What the document's switch comes to. -/
def cc (s t b1 b2 g l : Bool) : Int := if b1 && b2 then 0 else if s != t then (if s then -1 else 1) else if g then (if s then -1 else 1) else if l then (if s then 1 else -1) else 0

set_option maxHeartbeats 4000000 in
theorem refCmp_core (x y k l m1 e1 m2 e2 X2 Y2 P Q : Int) (s t b1 b2 g d : Bool) (w : World) (hk : (k == 4) = false) (hl : (l == 4) = false) (h1 : IntKind.u64.wrap (x * 2) = X2) (h2 : X2 / 2 = P) (h3 : IntKind.u64.wrap (y * 2) = Y2) (h4 : Y2 / 2 = Q)
    (z1 : (P == 0) = b1) (z2 : (Q == 0) = b2) (z3 : decide (Q < P) = g) (z4 : decide (P < Q) = d)
    (c1 : Hid (∀ w, Calls Try.prog 8 #[.int .u64 x] w fun r w' => r = .returned (.tuple #[.int .i64 k, .bool s, .int .u64 m1, .int .i64 e1]) ∧ w' = w))
    (c2 : Hid (∀ w, Calls Try.prog 8 #[.int .u64 y] w fun r w' => r = .returned (.tuple #[.int .i64 l, .bool t, .int .u64 m2, .int .i64 e2]) ∧ w' = w)) :
    Calls Try.prog 10 #[.int .u64 x, .int .u64 y] w fun e w' => e = .returned (.tuple #[.int .i64 (cc s t b1 b2 g d), .bool true]) ∧ w' = w := by
  cases b1 <;> cases b2 <;> cases s <;> cases t <;> cases g <;> cases d
  all_goals
    go_enter Try.func10, Try.ntmps10
    go_wp2_with fail
    refine (c1.out _).mono ?_
    rintro e v1 ⟨rfl, hw⟩; subst v1
    go_wp2_with fail
    refine (c2.out _).mono ?_
    rintro e v1 ⟨rfl, hw⟩; subst v1
    go_wp2_with fail
    go_ret2
    exact ⟨rfl, rfl⟩

theorem pat_twice (s : Bool) (r : Nat) (hr : r < 9223372036854775808) : IntKind.u64.wrap (((pat s r : Nat) : Int) * 2) = ((r * 2 : Nat) : Int) ∧ ((r * 2 : Nat) : Int) / 2 = (r : Int) := by
  rw [IntKind.wrap_u64]
  cases s <;> simp [pat] <;> omega

theorem cc_eq (s t : Bool) (r q : Nat) : cc s t ((r : Int) == 0) ((q : Int) == 0) (decide ((q : Int) < (r : Int))) (decide ((r : Int) < (q : Int))) = cI (rk s r) (rk t q) := by
  have h1 : ((r : Int) == 0) = decide (r = 0) := by
    rcases Nat.eq_zero_or_pos r with h | h
    · subst h; rfl
    · rw [decide_eq_false (by omega), beq_eq_false_iff_ne]; omega
  have h2 : ((q : Int) == 0) = decide (q = 0) := by
    rcases Nat.eq_zero_or_pos q with h | h
    · subst h; rfl
    · rw [decide_eq_false (by omega), beq_eq_false_iff_ne]; omega
  rw [h1, h2]
  unfold cc cI rk
  by_cases a : r = 0 <;> by_cases b : q = 0 <;> rcases Nat.lt_trichotomy r q with c | c | c <;> cases s <;> cases t <;> simp [*] <;> omega

/-- The document's comparison. -/
theorem refCmp_any (s : Bool) (r : Nat) (hr : r < 9223372036854775808) (t : Bool) (q : Nat) (hq : q < 9223372036854775808) (w : World) :
    Calls Try.prog 10 #[.int .u64 ((pat s r : Nat) : Int), .int .u64 ((pat t q : Nat) : Int)] w fun e w' => e = .returned (.tuple #[.int .i64 (cA s r t q), .bool (cB r q)]) ∧ w' = w := by
  have c1 := Lib.hid fun w => refSplit_any s r hr w
  have c2 := Lib.hid fun w => refSplit_any t q hq w
  unfold cA cB
  cases h1 : nn r with
  | true => exact refCmp_nan _ _ _ _ _ _ _ _ s t w (.inl ((k_nan r).trans h1)) c1 c2
  | false =>
    cases h2 : nn q with
    | true => exact refCmp_nan _ _ _ _ _ _ _ _ s t w (.inr ⟨(k_nan r).trans h1, (k_nan q).trans h2⟩) c1 c2
    | false =>
      have h := refCmp_core _ _ _ _ _ _ _ _ _ _ (r : Int) (q : Int) s t _ _ _ _ w ((k_nan r).trans h1) ((k_nan q).trans h2) (pat_twice s r hr).1 (pat_twice s r hr).2 (pat_twice t q hq).1 (pat_twice t q hq).2 rfl rfl rfl rfl c1 c2
      rw [cc_eq] at h
      exact h

end Go.Proofs.Ytbbpibbckfnlbaa
