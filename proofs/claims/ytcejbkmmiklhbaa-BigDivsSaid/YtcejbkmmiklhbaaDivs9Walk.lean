/-
  The walk of the law BigDivs: for all rows that came in. No condition.
-/
import Derived.Test.YtcejbkmmiklhbaaMuls9Walk
import Derived.Test.YtcejbkmmiklhbaaDivC
namespace Go.Proofs.Ytcejbkmmiklhbaa
open Go.RowKit

set_option maxHeartbeats 8000000 in
theorem divs9_yes (A : Option Addr) (n c : Nat) (a : Nat) (B : Option Addr) (m d : Nat) (b : Nat) (w : World) (h1 : Digs w A n (dg a)) (h2 : Digs w B m (dg b)) (ta : a < top) (tb : b < top) (hb0 : b ≠ 0) (hn : n ≤ 100) (hm : m ≤ 100) :
    Calls Try.prog 5 #[.slice A n c, .slice B m d] w fun e w' => e = .returned (.bool true) ∧ Below w.heap.size w w' := by
  have dn : decide ((100 : Int) < (n : Int)) = false := by simp; omega
  have dm : decide ((100 : Int) < (m : Int)) = false := by simp; omega
  have hm0 : 0 < m := by have := dg_some hb0; have := h2.1; omega
  have dm0 : ((m : Int) == 0) = false := beq0_f (by omega)
  have dm0n : (m == 0) = false := by simp; omega
  obtain ⟨x, hx⟩ : ∃ x, x = cp (a % b) b := ⟨_, rfl⟩
  have x0 : decide (x < 0) = true := by rw [hx, cp_lt (Nat.mod_lt a (Nat.pos_of_ne_zero hb0))]; decide
  have Htq : Hid (a / b < top) := Nat.lt_of_le_of_lt (Nat.div_le_self a b) ta
  have Htr : Hid (a % b < top) := Nat.lt_of_le_of_lt (Nat.mod_le a b) ta
  have Htp : Hid ((dg (a / b * b)).length ≤ 1000) := Nat.le_trans (dg_small (Nat.div_mul_le_self a b)) (by have := h1.1; omega)
  have HSUM : Hid (a / b * b + a % b = a) := show _ = _ by rw [Nat.mul_comm]; exact Nat.div_add_mod a b
  have Hta := Lib.hid ta; have Htb := Lib.hid tb; have HB0 := Lib.hid hb0; have HX := Lib.hid hx
  have H_a := Lib.hid h1; have H_b := Lib.hid h2
  clear h1 h2 ta tb hb0 hx hm0
  go_enter Try.func5, Try.ntmps5
  have c1 := Lib.hid (awake_any w)
  go_wp2_with fail
  refine c1.out.mono ?_
  rintro e w1 ⟨rfl, BB⟩
  have H_a1 := Lib.hid (H_a.out.below BB)
  have H_b1 := Lib.hid (H_b.out.below BB)
  have HB1 := Lib.hid BB
  clear H_a H_b
  clear c1 BB
  have c2 := Lib.hid (div_yes A n c a B m d b w1 H_a1.out H_b1.out Hta.out Htb.out HB0.out)
  go_wp2_with fail
  refine c2.out.mono ?_
  rintro e w2 ⟨Rq, Rr, kq, kr, rfl, Dq, Dr, BB⟩
  have H_a2 := Lib.hid (H_a1.out.below BB)
  have H_b2 := Lib.hid (H_b1.out.below BB)
  have HB2 := Lib.hid (HB1.out.trans (BB.mono HB1.out.size))
  clear H_a1 H_b1 HB1
  obtain ⟨lq, hlq⟩ : ∃ l, l = (dg (a / b)).length := ⟨_, rfl⟩
  obtain ⟨lr, hlr⟩ : ∃ l, l = (dg (a % b)).length := ⟨_, rfl⟩
  rw [← hlq] at Dq ⊢
  rw [← hlr] at Dr ⊢
  have LBq : Hid (lq ≤ 256) := show _ ≤ _ by rw [hlq]; exact top_len Htq.out
  have H_q2 := Lib.hid Dq
  have LBr : Hid (lr ≤ 256) := show _ ≤ _ by rw [hlr]; exact top_len Htr.out
  have H_r2 := Lib.hid Dr
  clear c2 BB Dq Dr hlq hlr
  have c3 := Lib.hid (refIs_yes A n c a w2 H_a2.out Hta.out)
  go_wp2_with fail
  refine c3.out.mono ?_
  rintro e v3 ⟨rfl, hw⟩; subst v3
  clear c3
  have c4 := Lib.hid (refIs_yes B m d b w2 H_b2.out Htb.out)
  go_wp2_with fail
  refine c4.out.mono ?_
  rintro e v4 ⟨rfl, hw⟩; subst v4
  clear c4
  have c5 := Lib.hid (refCmp_any Rr lr kr (a % b) B m d b w2 H_r2.out H_b2.out (by have := LBr.out; omega) (by omega))
  rw [← HX.out] at c5
  go_wp2_with fail
  refine c5.out.mono ?_
  rintro e w5 ⟨rfl, BB⟩
  have H_a5 := Lib.hid (H_a2.out.below BB)
  have H_b5 := Lib.hid (H_b2.out.below BB)
  have H_q5 := Lib.hid (H_q2.out.below BB)
  have H_r5 := Lib.hid (H_r2.out.below BB)
  have HB5 := Lib.hid (HB2.out.trans (BB.mono HB2.out.size))
  clear H_a2 H_b2 H_q2 H_r2 HB2
  clear c5 BB
  have c6 := Lib.hid (refMul_any Rq lq kq (dg (a / b)) B m d (dg b) w5 H_q5.out H_b5.out (by have := LBq.out; omega) (by omega) (a / b * b) (by rw [nv_dg, nv_dg]))
  go_wp2_with fail
  refine c6.out.mono ?_
  rintro e w6 ⟨R6, k6, rfl, D, BB⟩
  have H_a6 := Lib.hid (H_a5.out.below BB)
  have H_b6 := Lib.hid (H_b5.out.below BB)
  have H_q6 := Lib.hid (H_q5.out.below BB)
  have H_r6 := Lib.hid (H_r5.out.below BB)
  have HB6 := Lib.hid (HB5.out.trans (BB.mono HB5.out.size))
  clear H_a5 H_b5 H_q5 H_r5 HB5
  obtain ⟨l6, hl⟩ : ∃ l, l = (dg (a / b * b)).length := ⟨_, rfl⟩
  rw [← hl] at D ⊢
  have L_p := Lib.hid hl
  have H_p6 := Lib.hid D
  clear c6 BB D hl
  have c7 := Lib.hid (refAdd_any R6 l6 k6 (a / b * b) Rr lr kr (a % b) w6 H_p6.out H_r6.out (by have := L_p.out; have := Htp.out; omega) (by have := LBr.out; omega))
  rw [HSUM.out] at c7
  go_wp2_with fail
  refine c7.out.mono ?_
  rintro e w7 ⟨R7, k7, rfl, D, BB⟩
  have H_a7 := Lib.hid (H_a6.out.below BB)
  have H_b7 := Lib.hid (H_b6.out.below BB)
  have H_q7 := Lib.hid (H_q6.out.below BB)
  have H_r7 := Lib.hid (H_r6.out.below BB)
  have H_p7 := Lib.hid (H_p6.out.below BB)
  have HB7 := Lib.hid (HB6.out.trans (BB.mono HB6.out.size))
  clear H_a6 H_b6 H_q6 H_r6 H_p6 HB6
  obtain ⟨l7, hl⟩ : ∃ l, l = (dg a).length := ⟨_, rfl⟩
  rw [← hl] at D ⊢
  have L_s := Lib.hid hl
  have H_s7 := Lib.hid D
  clear c7 BB D hl
  have c8 := Lib.hid (same_any R7 l7 k7 (dg a) A n c (dg a) w7 H_s7.out H_a7.out (by have := L_s.out; have := top_len Hta.out; omega) (by omega))
  rw [decide_eq_true rfl] at c8
  go_wp2_with fail
  refine c8.out.mono ?_
  rintro e w8 ⟨rfl, BB⟩
  have H_a8 := Lib.hid (H_a7.out.below BB)
  have H_b8 := Lib.hid (H_b7.out.below BB)
  have H_q8 := Lib.hid (H_q7.out.below BB)
  have H_r8 := Lib.hid (H_r7.out.below BB)
  have H_p8 := Lib.hid (H_p7.out.below BB)
  have H_s8 := Lib.hid (H_s7.out.below BB)
  have HB8 := Lib.hid (HB7.out.trans (BB.mono HB7.out.size))
  clear H_a7 H_b7 H_q7 H_r7 H_p7 H_s7 HB7
  clear c8 BB
  have c9 := Lib.hid (refIs_yes Rq lq kq (a / b) w8 H_q8.out Htq.out)
  go_wp2_with fail
  refine c9.out.mono ?_
  rintro e v9 ⟨rfl, hw⟩; subst v9
  clear c9
  have c10 := Lib.hid (refIs_yes Rr lr kr (a % b) w8 H_r8.out Htr.out)
  go_wp2_with fail
  refine c10.out.mono ?_
  rintro e v10 ⟨rfl, hw⟩; subst v10
  clear c10
  go_wp2_with fail
  go_ret
  exact ⟨rfl, HB8.out⟩

set_option maxHeartbeats 8000000 in
theorem divs9_no (A : Option Addr) (n c : Nat) (xs : List Nat) (B : Option Addr) (m d : Nat) (ys : List Nat) (w : World) (h1 : Digs w A n xs) (h2 : Digs w B m ys) (hn : n ≤ 100) (hm : m ≤ 100) (p q : Bool) (hp : isN xs = p) (hq : isN ys = q) (hpq : p = false ∨ q = false ∨ m = 0) :
    Calls Try.prog 5 #[.slice A n c, .slice B m d] w fun e w' => e = .returned (.bool true) ∧ Below w.heap.size w w' := by
  have dn : decide ((100 : Int) < (n : Int)) = false := by simp; omega
  have dm : decide ((100 : Int) < (m : Int)) = false := by simp; omega
  have hi : isN xs = false ∨ isN ys = false ∨ m = 0 := by rw [hp, hq]; exact hpq
  have HI := Lib.hid hi
  have H_a := Lib.hid h1; have H_b := Lib.hid h2
  have HP := Lib.hid hp; have HQ := Lib.hid hq
  clear h1 h2 hi hp hq
  cases p
  · clear hpq
    go_enter Try.func5, Try.ntmps5
    have c1 := Lib.hid (awake_any w)
    go_wp2_with fail
    refine c1.out.mono ?_
    rintro e w1 ⟨rfl, BB⟩
    have H_a1 := Lib.hid (H_a.out.below BB)
    have H_b1 := Lib.hid (H_b.out.below BB)
    have HB1 := Lib.hid BB
    clear H_a H_b
    clear c1 BB
    have c2 := Lib.hid (div_no A n c xs B m d ys w1 H_a1.out H_b1.out (by omega) (by omega) HI.out)
    go_wp2_with fail
    refine c2.out.mono ?_
    rintro e v2 ⟨rfl, hw⟩; subst v2
    clear c2
    have c3 := Lib.hid (refIs_any A n c xs w1 H_a1.out (by omega))
    rw [HP.out] at c3
    go_wp2_with fail
    refine c3.out.mono ?_
    rintro e v3 ⟨rfl, hw⟩; subst v3
    clear c3
    go_wp2_with fail
    go_ret
    exact ⟨rfl, HB1.out⟩
  · cases q
    · clear hpq
      go_enter Try.func5, Try.ntmps5
      have c1 := Lib.hid (awake_any w)
      go_wp2_with fail
      refine c1.out.mono ?_
      rintro e w1 ⟨rfl, BB⟩
      have H_a1 := Lib.hid (H_a.out.below BB)
      have H_b1 := Lib.hid (H_b.out.below BB)
      have HB1 := Lib.hid BB
      clear H_a H_b
      clear c1 BB
      have c2 := Lib.hid (div_no A n c xs B m d ys w1 H_a1.out H_b1.out (by omega) (by omega) HI.out)
      go_wp2_with fail
      refine c2.out.mono ?_
      rintro e v2 ⟨rfl, hw⟩; subst v2
      clear c2
      have c3 := Lib.hid (refIs_any A n c xs w1 H_a1.out (by omega))
      rw [HP.out] at c3
      go_wp2_with fail
      refine c3.out.mono ?_
      rintro e v3 ⟨rfl, hw⟩; subst v3
      clear c3
      have c4 := Lib.hid (refIs_any B m d ys w1 H_b1.out (by omega))
      rw [HQ.out] at c4
      go_wp2_with fail
      refine c4.out.mono ?_
      rintro e v4 ⟨rfl, hw⟩; subst v4
      clear c4
      go_wp2_with fail
      go_ret
      exact ⟨rfl, HB1.out⟩
    · obtain rfl : m = 0 := by rcases hpq with h | h | h; cases h; cases h; exact h
      clear hpq
      go_enter Try.func5, Try.ntmps5
      have c1 := Lib.hid (awake_any w)
      go_wp2_with fail
      refine c1.out.mono ?_
      rintro e w1 ⟨rfl, BB⟩
      have H_a1 := Lib.hid (H_a.out.below BB)
      have H_b1 := Lib.hid (H_b.out.below BB)
      have HB1 := Lib.hid BB
      clear H_a H_b
      clear c1 BB
      have c2 := Lib.hid (div_no A n c xs B 0 d ys w1 H_a1.out H_b1.out (by omega) (by omega) (.inr (.inr rfl)))
      go_wp2_with fail
      refine c2.out.mono ?_
      rintro e v2 ⟨rfl, hw⟩; subst v2
      clear c2
      have c3 := Lib.hid (refIs_any A n c xs w1 H_a1.out (by omega))
      rw [HP.out] at c3
      go_wp2_with fail
      refine c3.out.mono ?_
      rintro e v3 ⟨rfl, hw⟩; subst v3
      clear c3
      have c4 := Lib.hid (refIs_any B 0 d ys w1 H_b1.out (by omega))
      rw [HQ.out] at c4
      go_wp2_with fail
      refine c4.out.mono ?_
      rintro e v4 ⟨rfl, hw⟩; subst v4
      clear c4
      go_wp2_with fail
      go_ret
      exact ⟨rfl, HB1.out⟩

set_option maxHeartbeats 4000000 in
theorem divs9_walk (A : Option Addr) (n c : Nat) (xs : List Nat) (B : Option Addr) (m d : Nat) (ys : List Nat) (w : World) (h1 : Digs w A n xs) (h2 : Digs w B m ys) :
    Calls Try.prog 5 #[.slice A n c, .slice B m d] w fun e w' => e = .returned (.bool true) ∧ Below w.heap.size w w' := by
  by_cases t0 : 100 < n
  · have d0 : decide ((100 : Int) < (n : Int)) = true := by simp; omega
    have HA := Lib.hid (awake_any w)
    clear h1 h2 t0
    go_enter Try.func5, Try.ntmps5
    go_wp2_with fail
    refine HA.out.mono ?_
    rintro e w1 ⟨rfl, B1⟩
    have HB := Lib.hid B1
    clear B1 HA
    go_wp2_with fail
    go_ret
    exact ⟨rfl, HB.out⟩
  by_cases t1 : 100 < m
  · have d0 : decide ((100 : Int) < (n : Int)) = false := by simp; omega
    have d1 : decide ((100 : Int) < (m : Int)) = true := by simp; omega
    have HA := Lib.hid (awake_any w)
    clear h1 h2 t0 t1
    go_enter Try.func5, Try.ntmps5
    go_wp2_with fail
    refine HA.out.mono ?_
    rintro e w1 ⟨rfl, B1⟩
    have HB := Lib.hid B1
    clear B1 HA
    go_wp2_with fail
    go_ret
    exact ⟨rfl, HB.out⟩
  by_cases hx : isN xs = true
  · by_cases hy : isN ys = true
    · by_cases hm0 : m = 0
      · exact divs9_no A n c xs B m d ys w h1 h2 (by omega) (by omega) true true hx hy (.inr (.inr hm0))
      · obtain ⟨a, rfl, la⟩ := num_of (k := 256) h1.2.1 h1.1 (by have := (of_decide_eq_true hx).1; have := h1.1; omega) hx
        obtain ⟨b, rfl, lb⟩ := num_of (k := 256) h2.2.1 h2.1 (by have := (of_decide_eq_true hy).1; have := h2.1; omega) hy
        refine divs9_yes A n c a B m d b w h1 h2 la lb (fun h => ?_) (by omega) (by omega)
        subst h
        rw [dg_zero] at h2
        exact hm0 (h2.1.symm.trans rfl)
    · exact divs9_no A n c xs B m d ys w h1 h2 (by omega) (by omega) true false hx (eq_false_of_ne_true hy) (.inr (.inl rfl))
  · exact divs9_no A n c xs B m d ys w h1 h2 (by omega) (by omega) false (isN ys) (eq_false_of_ne_true hx) rfl (.inl rfl)

end Go.Proofs.Ytcejbkmmiklhbaa
