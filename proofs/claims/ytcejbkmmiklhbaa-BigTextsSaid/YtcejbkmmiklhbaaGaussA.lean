/-
  gauss's tests: is a double whole and within a bound? is a number? For all bits; no condition beyond what each contract says.
-/
import Derived.Test.YtcejbkmmiklhbaaBase
import Derived.Test.YtcejbkmmiklhbaaGaussNum
namespace Go.Proofs.Ytcejbkmmiklhbaa
open Go.RowKit

theorem run_neg_float {P : Program} (k : FloatKind) (b : Nat) (w : World) : (Op.unary .neg (.float k b)).run P w = .ok (.float k (Op.negFloat k b)) w := rfl
theorem run_neg_complex {P : Program} (k : FloatKind) (a b : Nat) (w : World) : (Op.unary .neg (.complex k a b)).run P w = .ok (.complex k (Op.negFloat k a) (Op.negFloat k b)) w := rfl

set_option maxHeartbeats 400000 in
theorem wholeWithin_last (x mb : Nat) (t : Int) (h1 : geB x (Op.negFloat .f64 mb) = true) (h2 : leB x mb = true) (h3 : floatToIntVal .f64 x .i64 = some t) (w : World) :
    Calls Try.prog 70 #[.float .f64 x, .float .f64 mb] w fun e w' => e = .returned (.bool (eqB x (floatOfInt .f64 t))) ∧ w' = w := by
  unfold geB at h1
  unfold leB at h2
  unfold eqB
  have h5 : ∀ w, (convert 90 3 (.float .f64 x)).run Try.prog w = .ok (.int .i64 t) w := fun w => run_convert_float_int w _ _ _ _ _ _ (by kernel_rfl) (by kernel_rfl) h3
  have h6 := run_neg_float (P := Try.prog) .f64 mb
  go_enter Try.func70, Try.ntmps70
  go_wp2
  go_ret
  exact ⟨rfl, rfl⟩

set_option maxHeartbeats 400000 in
theorem wholeWithin_low (x mb : Nat) (h1 : geB x (Op.negFloat .f64 mb) = false) (w : World) :
    Calls Try.prog 70 #[.float .f64 x, .float .f64 mb] w fun e w' => e = .returned (.bool false) ∧ w' = w := by
  unfold geB at h1
  have h6 := run_neg_float (P := Try.prog) .f64 mb
  go_enter Try.func70, Try.ntmps70
  go_wp2
  go_ret
  exact ⟨rfl, rfl⟩

set_option maxHeartbeats 400000 in
theorem wholeWithin_high (x mb : Nat) (h1 : geB x (Op.negFloat .f64 mb) = true) (h2 : leB x mb = false) (w : World) :
    Calls Try.prog 70 #[.float .f64 x, .float .f64 mb] w fun e w' => e = .returned (.bool false) ∧ w' = w := by
  unfold geB at h1
  unfold leB at h2
  have h6 := run_neg_float (P := Try.prog) .f64 mb
  go_enter Try.func70, Try.ntmps70
  go_wp2
  go_ret
  exact ⟨rfl, rfl⟩

/-- A whole one within the bound. -/
theorem wholeWithin_yes {x mb : Nat} {n M : Int} (hx : Whole x n) (hm : Whole mb M) (h1 : M ≤ 4503599627370496) (l : -M ≤ n) (r : n ≤ M) (w : World) :
    Calls Try.prog 70 #[.float .f64 x, .float .f64 mb] w fun e w' => e = .returned (.bool true) ∧ w' = w := by
  have h := wholeWithin_last x mb n (by rw [hx.ge hm.neg]; simpa using l) (by rw [hx.le hm]; simpa using r) (hx.int (by omega)) w
  rw [hx.eq (whole_of_int n (by omega))] at h
  simpa using h

/-- No whole one within the bound. -/
theorem wholeWithin_no {x mb : Nat} {M : Int} (hx : x < 18446744073709551616) (hm : Whole mb M) (h0 : 0 ≤ M) (h1 : M ≤ 4503599627370496) (hn : ∀ n, Whole x n → -M ≤ n → n ≤ M → False) (w : World) :
    Calls Try.prog 70 #[.float .f64 x, .float .f64 mb] w fun e w' => e = .returned (.bool false) ∧ w' = w := by
  rcases inside_cases hx hm h0 h1 with h | ⟨h, k⟩ | ⟨h, k, t, ht, t1, t2, ht2⟩
  · exact wholeWithin_low x mb h w
  · exact wholeWithin_high x mb h k w
  · have := wholeWithin_last x mb t h k ht w
    cases he : eqB x (floatOfInt .f64 t) with
    | true => exact (hn t (ht2 he) t1 t2).elim
    | false => rw [he] at this; exact this

set_option maxHeartbeats 400000 in
theorem within_yes {x y mb : Nat} {a b M : Int} (hx : Whole x a) (hy : Whole y b) (hm : Whole mb M) (h1 : M ≤ 4503599627370496) (l : -M ≤ a) (r : a ≤ M) (l2 : -M ≤ b) (r2 : b ≤ M) (w : World) :
    Calls Try.prog 67 #[.complex .f64 x y, .float .f64 mb] w fun e w' => e = .returned (.bool true) ∧ w' = w := by
  have c1 := Lib.hid (wholeWithin_yes hx hm h1 l r)
  have c2 := Lib.hid (wholeWithin_yes hy hm h1 l2 r2)
  clear hx hy hm h1 l r l2 r2
  go_enter Try.func67, Try.ntmps67
  go_wp2_with fail
  refine (c1.out _).mono ?_
  rintro e w1 ⟨rfl, hw⟩; subst w1
  go_wp2_with fail
  refine (c2.out _).mono ?_
  rintro e w1 ⟨rfl, hw⟩; subst w1
  go_wp2_with fail
  go_ret
  exact ⟨rfl, rfl⟩

set_option maxHeartbeats 400000 in
theorem within_no_1 {x y mb : Nat} {M : Int} (hx : x < 18446744073709551616) (hm : Whole mb M) (h0 : 0 ≤ M) (h1 : M ≤ 4503599627370496) (hn : ∀ n, Whole x n → -M ≤ n → n ≤ M → False) (w : World) :
    Calls Try.prog 67 #[.complex .f64 x y, .float .f64 mb] w fun e w' => e = .returned (.bool false) ∧ w' = w := by
  have c1 := Lib.hid (wholeWithin_no hx hm h0 h1 hn)
  clear hx hm h0 h1 hn
  go_enter Try.func67, Try.ntmps67
  go_wp2_with fail
  refine (c1.out _).mono ?_
  rintro e w1 ⟨rfl, hw⟩; subst w1
  go_wp2_with fail
  go_ret
  exact ⟨rfl, rfl⟩

set_option maxHeartbeats 400000 in
theorem within_no_2 {x y mb : Nat} {a M : Int} (hx : Whole x a) (hy : y < 18446744073709551616) (hm : Whole mb M) (h0 : 0 ≤ M) (h1 : M ≤ 4503599627370496) (l : -M ≤ a) (r : a ≤ M) (hn : ∀ n, Whole y n → -M ≤ n → n ≤ M → False) (w : World) :
    Calls Try.prog 67 #[.complex .f64 x y, .float .f64 mb] w fun e w' => e = .returned (.bool false) ∧ w' = w := by
  have c1 := Lib.hid (wholeWithin_yes hx hm h1 l r)
  have c2 := Lib.hid (wholeWithin_no hy hm h0 h1 hn)
  clear hx hy hm h0 h1 l r hn
  go_enter Try.func67, Try.ntmps67
  go_wp2_with fail
  refine (c1.out _).mono ?_
  rintro e w1 ⟨rfl, hw⟩; subst w1
  go_wp2_with fail
  refine (c2.out _).mono ?_
  rintro e w1 ⟨rfl, hw⟩; subst w1
  go_wp2_with fail
  go_ret
  exact ⟨rfl, rfl⟩

/-- One part at least is no whole one within the bound. -/
theorem within_no {x y mb : Nat} {M : Int} (hx : x < 18446744073709551616) (hy : y < 18446744073709551616) (hm : Whole mb M) (h0 : 0 ≤ M) (h1 : M ≤ 4503599627370496)
    (hn : ∀ m n, Whole x m → -M ≤ m → m ≤ M → Whole y n → -M ≤ n → n ≤ M → False) (w : World) :
    Calls Try.prog 67 #[.complex .f64 x y, .float .f64 mb] w fun e w' => e = .returned (.bool false) ∧ w' = w := by
  by_cases h : ∃ m, Whole x m ∧ -M ≤ m ∧ m ≤ M
  · obtain ⟨m, k, l, r⟩ := h
    exact within_no_2 k hy hm h0 h1 l r (fun n => hn m n k l r) w
  · exact within_no_1 hx hm h0 h1 (fun n k l r => h ⟨n, k, l, r⟩) w

end Go.Proofs.Ytcejbkmmiklhbaa
