/-
  The walk of the law BigMuls: for all rows that came in. No condition.
-/
import Derived.Test.YtcejbkmmiklhbaaSums9Walk
import Derived.Test.YtcejbkmmiklhbaaRefM9
namespace Go.Proofs.Ytcejbkmmiklhbaa
open Go.RowKit

theorem prod_len {a b l : Nat} (ha : a < top) (hb : b < top) (h : (dg (a * b)).length = l) : l ≤ 1000000000 := by
  subst h
  exact Nat.le_trans ((dg_len (a * b) (256 + 256)).2 (lim_mul (k := 256) (l := 256) ha hb)) (by decide)

set_option maxHeartbeats 8000000 in
theorem muls9_yes (A : Option Addr) (n c : Nat) (a : Nat) (B : Option Addr) (m d : Nat) (b : Nat) (w : World) (h1 : Digs w A n (dg a)) (h2 : Digs w B m (dg b)) (ta : a < top) (tb : b < top) :
    Calls Try.prog 4 #[.slice A n c, .slice B m d] w fun e w' => e = .returned (.bool true) ∧ Below w.heap.size w w' := by
  have hn : n ≤ 256 := by have := top_len ta; have := h1.1; omega
  have hm : m ≤ 256 := by have := top_len tb; have := h2.1; omega
  have dn : decide ((300 : Int) < (n : Int)) = false := by simp; omega
  have dm : decide ((300 : Int) < (m : Int)) = false := by simp; omega
  have Hta := Lib.hid ta; have Htb := Lib.hid tb
  have H_a := Lib.hid h1; have H_b := Lib.hid h2
  clear h1 h2 ta tb
  go_enter Try.func4, Try.ntmps4
  have c1 := Lib.hid (awake_any w)
  go_wp2_with fail
  refine c1.out.mono ?_
  rintro e w1 ⟨rfl, BB⟩
  have H_a1 := Lib.hid (H_a.out.below BB)
  have H_b1 := Lib.hid (H_b.out.below BB)
  have HB1 := Lib.hid BB
  clear H_a H_b
  clear c1 BB
  have c2 := Lib.hid (mul_yes A n c a B m d b w1 H_a1.out H_b1.out Hta.out Htb.out)
  go_wp2_with fail
  refine c2.out.mono ?_
  rintro e w2 ⟨R2, k2, rfl, D, BB⟩
  have H_a2 := Lib.hid (H_a1.out.below BB)
  have H_b2 := Lib.hid (H_b1.out.below BB)
  have HB2 := Lib.hid (HB1.out.trans (BB.mono HB1.out.size))
  clear H_a1 H_b1 HB1
  obtain ⟨l2, hl⟩ : ∃ l, l = (dg (a * b)).length := ⟨_, rfl⟩
  rw [← hl] at D ⊢
  have L_p := Lib.hid hl
  have H_p2 := Lib.hid D
  clear c2 BB D hl
  have c3 := Lib.hid (refIs_yes A n c a w2 H_a2.out Hta.out)
  go_wp2_with fail
  refine c3.out.mono ?_
  rintro e v3 ⟨rfl, hw⟩; subst v3
  clear c3
  have c4 := Lib.hid (refIs_yes B m d b w2 H_b2.out Htb.out)
  go_wp2_with fail
  refine c4.out.mono ?_
  rintro e v4 ⟨rfl, hw⟩; subst v4
  clear c4
  have c5 := Lib.hid (refMul_any A n c (dg a) B m d (dg b) w2 H_a2.out H_b2.out (by omega) (by omega) (a * b) (by rw [nv_dg, nv_dg]))
  go_wp2_with fail
  refine c5.out.mono ?_
  rintro e w5 ⟨R5, k5, rfl, D, BB⟩
  have H_a5 := Lib.hid (H_a2.out.below BB)
  have H_b5 := Lib.hid (H_b2.out.below BB)
  have H_p5 := Lib.hid (H_p2.out.below BB)
  have HB5 := Lib.hid (HB2.out.trans (BB.mono HB2.out.size))
  clear H_a2 H_b2 H_p2 HB2
  obtain ⟨l5, hl⟩ : ∃ l, l = (dg (a * b)).length := ⟨_, rfl⟩
  rw [← hl] at D ⊢
  have L_t := Lib.hid hl
  have H_t5 := Lib.hid D
  clear c5 BB D hl
  have c6 := Lib.hid (same_any R2 l2 k2 (dg (a * b)) R5 l5 k5 (dg (a * b)) w5 H_p5.out H_t5.out (prod_len Hta.out Htb.out H_p5.out.1) (prod_len Hta.out Htb.out H_t5.out.1))
  rw [decide_eq_true rfl] at c6
  go_wp2_with fail
  refine c6.out.mono ?_
  rintro e w6 ⟨rfl, BB⟩
  have H_a6 := Lib.hid (H_a5.out.below BB)
  have H_b6 := Lib.hid (H_b5.out.below BB)
  have H_p6 := Lib.hid (H_p5.out.below BB)
  have H_t6 := Lib.hid (H_t5.out.below BB)
  have HB6 := Lib.hid (HB5.out.trans (BB.mono HB5.out.size))
  clear H_a5 H_b5 H_p5 H_t5 HB5
  clear c6 BB
  go_wp2_with fail
  go_ret
  exact ⟨rfl, HB6.out⟩

set_option maxHeartbeats 8000000 in
theorem muls9_no (A : Option Addr) (n c : Nat) (xs : List Nat) (B : Option Addr) (m d : Nat) (ys : List Nat) (w : World) (h1 : Digs w A n xs) (h2 : Digs w B m ys) (hn : n ≤ 300) (hm : m ≤ 300) (p q : Bool) (hp : isN xs = p) (hq : isN ys = q) (hpq : p = false ∨ q = false) :
    Calls Try.prog 4 #[.slice A n c, .slice B m d] w fun e w' => e = .returned (.bool true) ∧ Below w.heap.size w w' := by
  have dn : decide ((300 : Int) < (n : Int)) = false := by simp; omega
  have dm : decide ((300 : Int) < (m : Int)) = false := by simp; omega
  have hi : isN xs = false ∨ isN ys = false := by rw [hp, hq]; exact hpq
  have HI := Lib.hid hi
  have H_a := Lib.hid h1; have H_b := Lib.hid h2
  have HP := Lib.hid hp; have HQ := Lib.hid hq
  clear h1 h2 hi hp hq
  cases p
  · clear hpq
    go_enter Try.func4, Try.ntmps4
    have c1 := Lib.hid (awake_any w)
    go_wp2_with fail
    refine c1.out.mono ?_
    rintro e w1 ⟨rfl, BB⟩
    have H_a1 := Lib.hid (H_a.out.below BB)
    have H_b1 := Lib.hid (H_b.out.below BB)
    have HB1 := Lib.hid BB
    clear H_a H_b
    clear c1 BB
    have c2 := Lib.hid (mul_no A n c xs B m d ys w1 H_a1.out H_b1.out (by omega) (by omega) HI.out)
    go_wp2_with fail
    refine c2.out.mono ?_
    rintro e v2 ⟨rfl, hw⟩; subst v2
    clear c2
    have c3 := Lib.hid (refIs_any A n c xs w1 H_a1.out (by omega))
    rw [HP.out] at c3
    go_wp2_with fail
    refine c3.out.mono ?_
    rintro e v3 ⟨rfl, hw⟩; subst v3
    clear c3
    go_wp2_with fail
    go_ret
    exact ⟨rfl, HB1.out⟩
  · obtain rfl : q = false := by rcases hpq with h | h; cases h; exact h
    clear hpq
    go_enter Try.func4, Try.ntmps4
    have c1 := Lib.hid (awake_any w)
    go_wp2_with fail
    refine c1.out.mono ?_
    rintro e w1 ⟨rfl, BB⟩
    have H_a1 := Lib.hid (H_a.out.below BB)
    have H_b1 := Lib.hid (H_b.out.below BB)
    have HB1 := Lib.hid BB
    clear H_a H_b
    clear c1 BB
    have c2 := Lib.hid (mul_no A n c xs B m d ys w1 H_a1.out H_b1.out (by omega) (by omega) HI.out)
    go_wp2_with fail
    refine c2.out.mono ?_
    rintro e v2 ⟨rfl, hw⟩; subst v2
    clear c2
    have c3 := Lib.hid (refIs_any A n c xs w1 H_a1.out (by omega))
    rw [HP.out] at c3
    go_wp2_with fail
    refine c3.out.mono ?_
    rintro e v3 ⟨rfl, hw⟩; subst v3
    clear c3
    have c4 := Lib.hid (refIs_any B m d ys w1 H_b1.out (by omega))
    rw [HQ.out] at c4
    go_wp2_with fail
    refine c4.out.mono ?_
    rintro e v4 ⟨rfl, hw⟩; subst v4
    clear c4
    go_wp2_with fail
    go_ret
    exact ⟨rfl, HB1.out⟩

set_option maxHeartbeats 4000000 in
theorem muls9_walk (A : Option Addr) (n c : Nat) (xs : List Nat) (B : Option Addr) (m d : Nat) (ys : List Nat) (w : World) (h1 : Digs w A n xs) (h2 : Digs w B m ys) :
    Calls Try.prog 4 #[.slice A n c, .slice B m d] w fun e w' => e = .returned (.bool true) ∧ Below w.heap.size w w' := by
  by_cases t0 : 300 < n
  · have d0 : decide ((300 : Int) < (n : Int)) = true := by simp; omega
    have HA := Lib.hid (awake_any w)
    clear h1 h2 t0
    go_enter Try.func4, Try.ntmps4
    go_wp2_with fail
    refine HA.out.mono ?_
    rintro e w1 ⟨rfl, B1⟩
    have HB := Lib.hid B1
    clear B1 HA
    go_wp2_with fail
    go_ret
    exact ⟨rfl, HB.out⟩
  by_cases t1 : 300 < m
  · have d0 : decide ((300 : Int) < (n : Int)) = false := by simp; omega
    have d1 : decide ((300 : Int) < (m : Int)) = true := by simp; omega
    have HA := Lib.hid (awake_any w)
    clear h1 h2 t0 t1
    go_enter Try.func4, Try.ntmps4
    go_wp2_with fail
    refine HA.out.mono ?_
    rintro e w1 ⟨rfl, B1⟩
    have HB := Lib.hid B1
    clear B1 HA
    go_wp2_with fail
    go_ret
    exact ⟨rfl, HB.out⟩
  by_cases hx : isN xs = true
  · by_cases hy : isN ys = true
    · obtain ⟨a, rfl, la⟩ := num_of (k := 256) h1.2.1 h1.1 (by have := (of_decide_eq_true hx).1; have := h1.1; omega) hx
      obtain ⟨b, rfl, lb⟩ := num_of (k := 256) h2.2.1 h2.1 (by have := (of_decide_eq_true hy).1; have := h2.1; omega) hy
      exact muls9_yes A n c a B m d b w h1 h2 la lb
    · exact muls9_no A n c xs B m d ys w h1 h2 (by omega) (by omega) true false hx (eq_false_of_ne_true hy) (.inr rfl)
  · exact muls9_no A n c xs B m d ys w h1 h2 (by omega) (by omega) false (isN ys) (eq_false_of_ne_true hx) rfl (.inl rfl)

end Go.Proofs.Ytcejbkmmiklhbaa
