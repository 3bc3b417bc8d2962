/-
  The walk of the law BigLaws: for all rows that came in. No condition.
-/
import Derived.Test.YtcejbkmmiklhbaaAwake9
namespace Go.Proofs.Ytcejbkmmiklhbaa
open Go.RowKit

theorem lim_le {k : Nat} (h : k ≤ 256) : 65536 ^ k ≤ top := Nat.pow_le_pow_right (by decide) h
theorem lim_add {a b k : Nat} (ha : a < 65536 ^ k) (hb : b < 65536 ^ k) : a + b < 65536 ^ (k + 1) := by
  rw [Nat.pow_succ]
  generalize 65536 ^ k = p at *
  omega
theorem lim_mul {a b k l : Nat} (ha : a < 65536 ^ k) (hb : b < 65536 ^ l) : a * b < 65536 ^ (k + l) := by
  rw [Nat.pow_add]
  exact Nat.mul_lt_mul'' ha hb
theorem lim {a k : Nat} (h : a < 65536 ^ k) (hk : k ≤ 256) : a < top := Nat.lt_of_lt_of_le h (lim_le hk)
theorem num_of {xs : List Nat} {n k : Nat} (hx : Dg xs) (hl : xs.length = n) (hn : n ≤ k) (hi : isN xs = true) : ∃ a, xs = dg a ∧ a < 65536 ^ k := by
  obtain ⟨e, _⟩ := isN_dg hx hi
  refine ⟨nv xs, e.symm, ?_⟩
  exact Nat.lt_of_lt_of_le (nv_lt hx) (Nat.pow_le_pow_right (by decide) (by omega))
theorem gt_t {x k : Nat} (h : k < x) : decide ((k : Int) < (x : Int)) = true := by simp; omega
theorem gt_f {x k : Nat} (h : x ≤ k) : decide ((k : Int) < (x : Int)) = false := by simp; omega

theorem refIs_yes (A : Option Addr) (n c : Nat) (a : Nat) (w : World) (h : Digs w A n (dg a)) (ha : a < top) :
    Calls Try.prog 10 #[.slice A n c] w fun e w' => e = .returned (.bool true) ∧ w' = w := by
  have c := refIs_any A n c (dg a) w h (by have := h.1; have := top_len ha; omega)
  rw [isN_of, decide_eq_true ha] at c
  exact c

set_option maxHeartbeats 8000000 in
theorem laws9_main (A : Option Addr) (n c : Nat) (a : Nat) (B : Option Addr) (m d : Nat) (b : Nat) (C : Option Addr) (l ec : Nat) (cc : Nat) (w : World)
    (h1 : Digs w A n (dg a)) (h2 : Digs w B m (dg b)) (h3 : Digs w C l (dg cc)) (hn : n ≤ 80) (hm : m ≤ 80) (hl : l ≤ 80) (la : a < 65536 ^ 80) (lb : b < 65536 ^ 80) (lc : cc < 65536 ^ 80) :
    Calls Try.prog 8 #[.slice A n c, .slice B m d, .slice C l ec] w fun e w' => e = .returned (.bool true) ∧ Below w.heap.size w w' := by
  have ta : Hid (a < top) := lim la (by decide)
  have tb : Hid (b < top) := lim lb (by decide)
  have tc : Hid (cc < top) := lim lc (by decide)
  have tab : Hid (a + b < top) := lim (lim_add la lb) (by decide)
  have tbc : Hid (b + cc < top) := lim (lim_add lb lc) (by decide)
  have tmab : Hid (a * b < top) := lim (lim_mul la lb) (by decide)
  have tmac : Hid (a * cc < top) := lim (lim_mul la lc) (by decide)
  have tdist : Hid (a * b + a * cc < top) := show _ < _ by rw [← Nat.mul_add]; exact lim (lim_mul la (lim_add lb lc)) (by decide)
  have dn : decide ((80 : Int) < (n : Int)) = false := by simp; omega
  have dm : decide ((80 : Int) < (m : Int)) = false := by simp; omega
  have dl : decide ((80 : Int) < (l : Int)) = false := by simp; omega
  have H_a := Lib.hid h1; have H_b := Lib.hid h2; have H_c := Lib.hid h3
  clear h1 h2 h3 la lb lc
  go_enter Try.func8, Try.ntmps8
  have c1 := Lib.hid (awake_any w)
  go_wp2_with fail
  refine c1.out.mono ?_
  rintro e w1 ⟨rfl, BB⟩
  have H_a1 := Lib.hid (H_a.out.below BB)
  have H_b1 := Lib.hid (H_b.out.below BB)
  have H_c1 := Lib.hid (H_c.out.below BB)
  have HB1 := Lib.hid BB
  clear H_a H_b H_c
  clear c1 BB
  have c2 := Lib.hid (refIs_yes A n c a w1 H_a1.out ta.out)
  go_wp2_with fail
  refine c2.out.mono ?_
  rintro e v2 ⟨rfl, hw⟩; subst v2
  clear c2
  have c3 := Lib.hid (refIs_yes B m d b w1 H_b1.out tb.out)
  go_wp2_with fail
  refine c3.out.mono ?_
  rintro e v3 ⟨rfl, hw⟩; subst v3
  clear c3
  have c4 := Lib.hid (refIs_yes C l ec cc w1 H_c1.out tc.out)
  go_wp2_with fail
  refine c4.out.mono ?_
  rintro e v4 ⟨rfl, hw⟩; subst v4
  clear c4
  have c5 := Lib.hid (add_yes A n c a B m d b w1 H_a1.out H_b1.out ta.out tb.out)
  go_wp2_with fail
  refine c5.out.mono ?_
  rintro e w5 ⟨R5, k5, rfl, D, BB⟩
  have H_a5 := Lib.hid (H_a1.out.below BB)
  have H_b5 := Lib.hid (H_b1.out.below BB)
  have H_c5 := Lib.hid (H_c1.out.below BB)
  have HB5 := Lib.hid (HB1.out.trans (BB.mono HB1.out.size))
  clear H_a1 H_b1 H_c1 HB1
  obtain ⟨l5, hl⟩ : ∃ l, l = (dg (a + b)).length := ⟨_, rfl⟩
  rw [← hl] at D ⊢
  have L_ab := Lib.hid hl
  have H_ab5 := Lib.hid D
  clear c5 BB D hl
  have c6 := Lib.hid (sub_yes R5 l5 k5 (a + b) B m d b w5 H_ab5.out H_b5.out tab.out tb.out (Nat.le_add_left b a))
  rw [Nat.add_sub_cancel] at c6
  go_wp2_with fail
  refine c6.out.mono ?_
  rintro e w6 ⟨R6, k6, rfl, D, BB⟩
  have H_a6 := Lib.hid (H_a5.out.below BB)
  have H_b6 := Lib.hid (H_b5.out.below BB)
  have H_c6 := Lib.hid (H_c5.out.below BB)
  have H_ab6 := Lib.hid (H_ab5.out.below BB)
  have HB6 := Lib.hid (HB5.out.trans (BB.mono HB5.out.size))
  clear H_a5 H_b5 H_c5 H_ab5 HB5
  have e1 : (dg a).length = n := H_a6.out.1
  rw [e1] at D ⊢
  have H_d6 := Lib.hid D
  clear c6 BB D e1
  clear H_ab6
  have c7 := Lib.hid (same_any R6 n k6 (dg a) A n c (dg a) w6 H_d6.out H_a6.out (by have := H_d6.out.1; have := top_len (show _ < top from ta.out); omega) (by have := H_a6.out.1; have := top_len (show _ < top from ta.out); omega))
  rw [decide_eq_true rfl] at c7
  go_wp2_with fail
  refine c7.out.mono ?_
  rintro e w7 ⟨rfl, BB⟩
  have H_a7 := Lib.hid (H_a6.out.below BB)
  have H_b7 := Lib.hid (H_b6.out.below BB)
  have H_c7 := Lib.hid (H_c6.out.below BB)
  have H_d7 := Lib.hid (H_d6.out.below BB)
  have HB7 := Lib.hid (HB6.out.trans (BB.mono HB6.out.size))
  clear H_a6 H_b6 H_c6 H_d6 HB6
  clear c7 BB
  clear H_d7
  have c8 := Lib.hid (add_yes A n c a B m d b w7 H_a7.out H_b7.out ta.out tb.out)
  go_wp2_with fail
  refine c8.out.mono ?_
  rintro e w8 ⟨R8, k8, rfl, D, BB⟩
  have H_a8 := Lib.hid (H_a7.out.below BB)
  have H_b8 := Lib.hid (H_b7.out.below BB)
  have H_c8 := Lib.hid (H_c7.out.below BB)
  have HB8 := Lib.hid (HB7.out.trans (BB.mono HB7.out.size))
  clear H_a7 H_b7 H_c7 HB7
  obtain ⟨l8, hl⟩ : ∃ l, l = (dg (a + b)).length := ⟨_, rfl⟩
  rw [← hl] at D ⊢
  have L_ab := Lib.hid hl
  have H_ab8 := Lib.hid D
  clear c8 BB D hl
  have c9 := Lib.hid (add_yes B m d b A n c a w8 H_b8.out H_a8.out tb.out ta.out)
  rw [Nat.add_comm b a] at c9
  go_wp2_with fail
  refine c9.out.mono ?_
  rintro e w9 ⟨R9, k9, rfl, D, BB⟩
  have H_a9 := Lib.hid (H_a8.out.below BB)
  have H_b9 := Lib.hid (H_b8.out.below BB)
  have H_c9 := Lib.hid (H_c8.out.below BB)
  have H_ab9 := Lib.hid (H_ab8.out.below BB)
  have HB9 := Lib.hid (HB8.out.trans (BB.mono HB8.out.size))
  clear H_a8 H_b8 H_c8 H_ab8 HB8
  obtain ⟨l9, hl⟩ : ∃ l, l = (dg (a + b)).length := ⟨_, rfl⟩
  rw [← hl] at D ⊢
  have L_ba := Lib.hid hl
  have H_ba9 := Lib.hid D
  clear c9 BB D hl
  have c10 := Lib.hid (same_any R8 l8 k8 (dg (a + b)) R9 l9 k9 (dg (a + b)) w9 H_ab9.out H_ba9.out (by have := H_ab9.out.1; have := top_len (show _ < top from tab.out); omega) (by have := H_ba9.out.1; have := top_len (show _ < top from tab.out); omega))
  rw [decide_eq_true rfl] at c10
  go_wp2_with fail
  refine c10.out.mono ?_
  rintro e w10 ⟨rfl, BB⟩
  have H_a10 := Lib.hid (H_a9.out.below BB)
  have H_b10 := Lib.hid (H_b9.out.below BB)
  have H_c10 := Lib.hid (H_c9.out.below BB)
  have H_ab10 := Lib.hid (H_ab9.out.below BB)
  have H_ba10 := Lib.hid (H_ba9.out.below BB)
  have HB10 := Lib.hid (HB9.out.trans (BB.mono HB9.out.size))
  clear H_a9 H_b9 H_c9 H_ab9 H_ba9 HB9
  clear c10 BB
  clear H_ab10 H_ba10
  have c11 := Lib.hid (mul_yes A n c a B m d b w10 H_a10.out H_b10.out ta.out tb.out)
  go_wp2_with fail
  refine c11.out.mono ?_
  rintro e w11 ⟨R11, k11, rfl, D, BB⟩
  have H_a11 := Lib.hid (H_a10.out.below BB)
  have H_b11 := Lib.hid (H_b10.out.below BB)
  have H_c11 := Lib.hid (H_c10.out.below BB)
  have HB11 := Lib.hid (HB10.out.trans (BB.mono HB10.out.size))
  clear H_a10 H_b10 H_c10 HB10
  obtain ⟨l11, hl⟩ : ∃ l, l = (dg (a * b)).length := ⟨_, rfl⟩
  rw [← hl] at D ⊢
  have L_ab := Lib.hid hl
  have H_ab11 := Lib.hid D
  clear c11 BB D hl
  have c12 := Lib.hid (mul_yes B m d b A n c a w11 H_b11.out H_a11.out tb.out ta.out)
  rw [Nat.mul_comm b a] at c12
  go_wp2_with fail
  refine c12.out.mono ?_
  rintro e w12 ⟨R12, k12, rfl, D, BB⟩
  have H_a12 := Lib.hid (H_a11.out.below BB)
  have H_b12 := Lib.hid (H_b11.out.below BB)
  have H_c12 := Lib.hid (H_c11.out.below BB)
  have H_ab12 := Lib.hid (H_ab11.out.below BB)
  have HB12 := Lib.hid (HB11.out.trans (BB.mono HB11.out.size))
  clear H_a11 H_b11 H_c11 H_ab11 HB11
  obtain ⟨l12, hl⟩ : ∃ l, l = (dg (a * b)).length := ⟨_, rfl⟩
  rw [← hl] at D ⊢
  have L_ba := Lib.hid hl
  have H_ba12 := Lib.hid D
  clear c12 BB D hl
  have c13 := Lib.hid (same_any R11 l11 k11 (dg (a * b)) R12 l12 k12 (dg (a * b)) w12 H_ab12.out H_ba12.out (by have := H_ab12.out.1; have := top_len (show _ < top from tmab.out); omega) (by have := H_ba12.out.1; have := top_len (show _ < top from tmab.out); omega))
  rw [decide_eq_true rfl] at c13
  go_wp2_with fail
  refine c13.out.mono ?_
  rintro e w13 ⟨rfl, BB⟩
  have H_a13 := Lib.hid (H_a12.out.below BB)
  have H_b13 := Lib.hid (H_b12.out.below BB)
  have H_c13 := Lib.hid (H_c12.out.below BB)
  have H_ab13 := Lib.hid (H_ab12.out.below BB)
  have H_ba13 := Lib.hid (H_ba12.out.below BB)
  have HB13 := Lib.hid (HB12.out.trans (BB.mono HB12.out.size))
  clear H_a12 H_b12 H_c12 H_ab12 H_ba12 HB12
  clear c13 BB
  clear H_ab13 H_ba13
  have c14 := Lib.hid (add_yes B m d b C l ec cc w13 H_b13.out H_c13.out tb.out tc.out)
  go_wp2_with fail
  refine c14.out.mono ?_
  rintro e w14 ⟨R14, k14, rfl, D, BB⟩
  have H_a14 := Lib.hid (H_a13.out.below BB)
  have H_b14 := Lib.hid (H_b13.out.below BB)
  have H_c14 := Lib.hid (H_c13.out.below BB)
  have HB14 := Lib.hid (HB13.out.trans (BB.mono HB13.out.size))
  clear H_a13 H_b13 H_c13 HB13
  obtain ⟨l14, hl⟩ : ∃ l, l = (dg (b + cc)).length := ⟨_, rfl⟩
  rw [← hl] at D ⊢
  have L_s := Lib.hid hl
  have H_s14 := Lib.hid D
  clear c14 BB D hl
  have c15 := Lib.hid (mul_yes A n c a R14 l14 k14 (b + cc) w14 H_a14.out H_s14.out ta.out tbc.out)
  rw [Nat.mul_add] at c15
  go_wp2_with fail
  refine c15.out.mono ?_
  rintro e w15 ⟨R15, k15, rfl, D, BB⟩
  have H_a15 := Lib.hid (H_a14.out.below BB)
  have H_b15 := Lib.hid (H_b14.out.below BB)
  have H_c15 := Lib.hid (H_c14.out.below BB)
  have H_s15 := Lib.hid (H_s14.out.below BB)
  have HB15 := Lib.hid (HB14.out.trans (BB.mono HB14.out.size))
  clear H_a14 H_b14 H_c14 H_s14 HB14
  obtain ⟨l15, hl⟩ : ∃ l, l = (dg (a * b + a * cc)).length := ⟨_, rfl⟩
  rw [← hl] at D ⊢
  have L_p := Lib.hid hl
  have H_p15 := Lib.hid D
  clear c15 BB D hl
  clear H_s15
  have c16 := Lib.hid (mul_yes A n c a B m d b w15 H_a15.out H_b15.out ta.out tb.out)
  go_wp2_with fail
  refine c16.out.mono ?_
  rintro e w16 ⟨R16, k16, rfl, D, BB⟩
  have H_a16 := Lib.hid (H_a15.out.below BB)
  have H_b16 := Lib.hid (H_b15.out.below BB)
  have H_c16 := Lib.hid (H_c15.out.below BB)
  have H_p16 := Lib.hid (H_p15.out.below BB)
  have HB16 := Lib.hid (HB15.out.trans (BB.mono HB15.out.size))
  clear H_a15 H_b15 H_c15 H_p15 HB15
  obtain ⟨l16, hl⟩ : ∃ l, l = (dg (a * b)).length := ⟨_, rfl⟩
  rw [← hl] at D ⊢
  have L_q := Lib.hid hl
  have H_q16 := Lib.hid D
  clear c16 BB D hl
  have c17 := Lib.hid (mul_yes A n c a C l ec cc w16 H_a16.out H_c16.out ta.out tc.out)
  go_wp2_with fail
  refine c17.out.mono ?_
  rintro e w17 ⟨R17, k17, rfl, D, BB⟩
  have H_a17 := Lib.hid (H_a16.out.below BB)
  have H_b17 := Lib.hid (H_b16.out.below BB)
  have H_c17 := Lib.hid (H_c16.out.below BB)
  have H_p17 := Lib.hid (H_p16.out.below BB)
  have H_q17 := Lib.hid (H_q16.out.below BB)
  have HB17 := Lib.hid (HB16.out.trans (BB.mono HB16.out.size))
  clear H_a16 H_b16 H_c16 H_p16 H_q16 HB16
  obtain ⟨l17, hl⟩ : ∃ l, l = (dg (a * cc)).length := ⟨_, rfl⟩
  rw [← hl] at D ⊢
  have L_r := Lib.hid hl
  have H_r17 := Lib.hid D
  clear c17 BB D hl
  have c18 := Lib.hid (add_yes R16 l16 k16 (a * b) R17 l17 k17 (a * cc) w17 H_q17.out H_r17.out tmab.out tmac.out)
  go_wp2_with fail
  refine c18.out.mono ?_
  rintro e w18 ⟨R18, k18, rfl, D, BB⟩
  have H_a18 := Lib.hid (H_a17.out.below BB)
  have H_b18 := Lib.hid (H_b17.out.below BB)
  have H_c18 := Lib.hid (H_c17.out.below BB)
  have H_p18 := Lib.hid (H_p17.out.below BB)
  have H_q18 := Lib.hid (H_q17.out.below BB)
  have H_r18 := Lib.hid (H_r17.out.below BB)
  have HB18 := Lib.hid (HB17.out.trans (BB.mono HB17.out.size))
  clear H_a17 H_b17 H_c17 H_p17 H_q17 H_r17 HB17
  obtain ⟨l18, hl⟩ : ∃ l, l = (dg (a * b + a * cc)).length := ⟨_, rfl⟩
  rw [← hl] at D ⊢
  have L_t := Lib.hid hl
  have H_t18 := Lib.hid D
  clear c18 BB D hl
  clear H_q18 H_r18
  have c19 := Lib.hid (same_any R15 l15 k15 (dg (a * b + a * cc)) R18 l18 k18 (dg (a * b + a * cc)) w18 H_p18.out H_t18.out (by have := H_p18.out.1; have := top_len (show _ < top from tdist.out); omega) (by have := H_t18.out.1; have := top_len (show _ < top from tdist.out); omega))
  rw [decide_eq_true rfl] at c19
  go_wp2_with fail
  refine c19.out.mono ?_
  rintro e w19 ⟨rfl, BB⟩
  have H_a19 := Lib.hid (H_a18.out.below BB)
  have H_b19 := Lib.hid (H_b18.out.below BB)
  have H_c19 := Lib.hid (H_c18.out.below BB)
  have H_p19 := Lib.hid (H_p18.out.below BB)
  have H_t19 := Lib.hid (H_t18.out.below BB)
  have HB19 := Lib.hid (HB18.out.trans (BB.mono HB18.out.size))
  clear H_a18 H_b18 H_c18 H_p18 H_t18 HB18
  clear c19 BB
  clear H_p19 H_t19
  have c20 := Lib.hid (add_yes A n c a B m d b w19 H_a19.out H_b19.out ta.out tb.out)
  go_wp2_with fail
  refine c20.out.mono ?_
  rintro e w20 ⟨R20, k20, rfl, D, BB⟩
  have H_a20 := Lib.hid (H_a19.out.below BB)
  have H_b20 := Lib.hid (H_b19.out.below BB)
  have H_c20 := Lib.hid (H_c19.out.below BB)
  have HB20 := Lib.hid (HB19.out.trans (BB.mono HB19.out.size))
  clear H_a19 H_b19 H_c19 HB19
  obtain ⟨l20, hl⟩ : ∃ l, l = (dg (a + b)).length := ⟨_, rfl⟩
  rw [← hl] at D ⊢
  have L_ab := Lib.hid hl
  have H_ab20 := Lib.hid D
  clear c20 BB D hl
  have hq : decide ((0 : Int) ≤ cp (a + b) a) = true := by unfold cp; rw [if_neg (by omega)]; split <;> decide
  have c21 := Lib.hid (cmp_yes R20 l20 k20 (a + b) A n c a w20 H_ab20.out H_a20.out tab.out ta.out)
  generalize cp (a + b) a = q at hq c21
  go_wp2_with fail
  refine c21.out.mono ?_
  rintro e w21 ⟨rfl, BB⟩
  have H_a21 := Lib.hid (H_a20.out.below BB)
  have H_b21 := Lib.hid (H_b20.out.below BB)
  have H_c21 := Lib.hid (H_c20.out.below BB)
  have H_ab21 := Lib.hid (H_ab20.out.below BB)
  have HB21 := Lib.hid (HB20.out.trans (BB.mono HB20.out.size))
  clear H_a20 H_b20 H_c20 H_ab20 HB20
  clear c21 BB
  go_wp2_with fail
  go_ret
  exact ⟨rfl, HB21.out⟩

set_option maxHeartbeats 4000000 in
theorem laws9_walk (A : Option Addr) (n c : Nat) (xs : List Nat) (B : Option Addr) (m d : Nat) (ys : List Nat) (C : Option Addr) (l ec : Nat) (zs : List Nat) (w : World)
    (h1 : Digs w A n xs) (h2 : Digs w B m ys) (h3 : Digs w C l zs) :
    Calls Try.prog 8 #[.slice A n c, .slice B m d, .slice C l ec] w fun e w' => e = .returned (.bool true) ∧ Below w.heap.size w w' := by
  by_cases t0 : 80 < n
  · have d0 : decide ((80 : Int) < (n : Int)) = true := by simp; omega
    have HA := Lib.hid (awake_any w)
    clear h1 h2 h3 t0
    go_enter Try.func8, Try.ntmps8
    go_wp2_with fail
    refine HA.out.mono ?_
    rintro e w1 ⟨rfl, B1⟩
    have HB := Lib.hid B1
    clear B1 HA
    go_wp2_with fail
    go_ret
    exact ⟨rfl, HB.out⟩
  by_cases t1 : 80 < m
  · have d0 : decide ((80 : Int) < (n : Int)) = false := by simp; omega
    have d1 : decide ((80 : Int) < (m : Int)) = true := by simp; omega
    have HA := Lib.hid (awake_any w)
    clear h1 h2 h3 t0 t1
    go_enter Try.func8, Try.ntmps8
    go_wp2_with fail
    refine HA.out.mono ?_
    rintro e w1 ⟨rfl, B1⟩
    have HB := Lib.hid B1
    clear B1 HA
    go_wp2_with fail
    go_ret
    exact ⟨rfl, HB.out⟩
  by_cases t2 : 80 < l
  · have d0 : decide ((80 : Int) < (n : Int)) = false := by simp; omega
    have d1 : decide ((80 : Int) < (m : Int)) = false := by simp; omega
    have d2 : decide ((80 : Int) < (l : Int)) = true := by simp; omega
    have HA := Lib.hid (awake_any w)
    clear h1 h2 h3 t0 t1 t2
    go_enter Try.func8, Try.ntmps8
    go_wp2_with fail
    refine HA.out.mono ?_
    rintro e w1 ⟨rfl, B1⟩
    have HB := Lib.hid B1
    clear B1 HA
    go_wp2_with fail
    go_ret
    exact ⟨rfl, HB.out⟩
  by_cases t3 : isN xs = false
  · have d0 : decide ((80 : Int) < (n : Int)) = false := by simp; omega
    have d1 : decide ((80 : Int) < (m : Int)) = false := by simp; omega
    have d2 : decide ((80 : Int) < (l : Int)) = false := by simp; omega
    have HA := Lib.hid (awake_any w)
    have i3 : Hid (∀ W, Below w.heap.size w W → Calls Try.prog 10 #[.slice A n c] W fun e w' => e = .returned (.bool false) ∧ w' = W) := fun W BW => by have h := refIs_any A n c xs W (h1.below BW) (by omega); rw [t3] at h; exact h
    clear h1 h2 h3 t0 t1 t2 t3
    go_enter Try.func8, Try.ntmps8
    go_wp2_with fail
    refine HA.out.mono ?_
    rintro e w1 ⟨rfl, B1⟩
    have HB := Lib.hid B1
    clear B1 HA
    go_wp2_with fail
    refine (i3.out _ HB.out).mono ?_
    rintro e v1 ⟨rfl, hw⟩; subst v1
    go_wp2_with fail
    go_ret
    exact ⟨rfl, HB.out⟩
  by_cases t4 : isN ys = false
  · have d0 : decide ((80 : Int) < (n : Int)) = false := by simp; omega
    have d1 : decide ((80 : Int) < (m : Int)) = false := by simp; omega
    have d2 : decide ((80 : Int) < (l : Int)) = false := by simp; omega
    have HA := Lib.hid (awake_any w)
    have i3 : Hid (∀ W, Below w.heap.size w W → Calls Try.prog 10 #[.slice A n c] W fun e w' => e = .returned (.bool true) ∧ w' = W) := fun W BW => by have h := refIs_any A n c xs W (h1.below BW) (by omega); rw [eq_true_of_ne_false t3] at h; exact h
    have i4 : Hid (∀ W, Below w.heap.size w W → Calls Try.prog 10 #[.slice B m d] W fun e w' => e = .returned (.bool false) ∧ w' = W) := fun W BW => by have h := refIs_any B m d ys W (h2.below BW) (by omega); rw [t4] at h; exact h
    clear h1 h2 h3 t0 t1 t2 t3 t4
    go_enter Try.func8, Try.ntmps8
    go_wp2_with fail
    refine HA.out.mono ?_
    rintro e w1 ⟨rfl, B1⟩
    have HB := Lib.hid B1
    clear B1 HA
    go_wp2_with fail
    refine (i3.out _ HB.out).mono ?_
    rintro e v1 ⟨rfl, hw⟩; subst v1
    go_wp2_with fail
    refine (i4.out _ HB.out).mono ?_
    rintro e v1 ⟨rfl, hw⟩; subst v1
    go_wp2_with fail
    go_ret
    exact ⟨rfl, HB.out⟩
  by_cases t5 : isN zs = false
  · have d0 : decide ((80 : Int) < (n : Int)) = false := by simp; omega
    have d1 : decide ((80 : Int) < (m : Int)) = false := by simp; omega
    have d2 : decide ((80 : Int) < (l : Int)) = false := by simp; omega
    have HA := Lib.hid (awake_any w)
    have i3 : Hid (∀ W, Below w.heap.size w W → Calls Try.prog 10 #[.slice A n c] W fun e w' => e = .returned (.bool true) ∧ w' = W) := fun W BW => by have h := refIs_any A n c xs W (h1.below BW) (by omega); rw [eq_true_of_ne_false t3] at h; exact h
    have i4 : Hid (∀ W, Below w.heap.size w W → Calls Try.prog 10 #[.slice B m d] W fun e w' => e = .returned (.bool true) ∧ w' = W) := fun W BW => by have h := refIs_any B m d ys W (h2.below BW) (by omega); rw [eq_true_of_ne_false t4] at h; exact h
    have i5 : Hid (∀ W, Below w.heap.size w W → Calls Try.prog 10 #[.slice C l ec] W fun e w' => e = .returned (.bool false) ∧ w' = W) := fun W BW => by have h := refIs_any C l ec zs W (h3.below BW) (by omega); rw [t5] at h; exact h
    clear h1 h2 h3 t0 t1 t2 t3 t4 t5
    go_enter Try.func8, Try.ntmps8
    go_wp2_with fail
    refine HA.out.mono ?_
    rintro e w1 ⟨rfl, B1⟩
    have HB := Lib.hid B1
    clear B1 HA
    go_wp2_with fail
    refine (i3.out _ HB.out).mono ?_
    rintro e v1 ⟨rfl, hw⟩; subst v1
    go_wp2_with fail
    refine (i4.out _ HB.out).mono ?_
    rintro e v1 ⟨rfl, hw⟩; subst v1
    go_wp2_with fail
    refine (i5.out _ HB.out).mono ?_
    rintro e v1 ⟨rfl, hw⟩; subst v1
    go_wp2_with fail
    go_ret
    exact ⟨rfl, HB.out⟩
  obtain ⟨a, rfl, la⟩ := num_of h1.2.1 h1.1 (show n ≤ 80 by omega) (eq_true_of_ne_false t3)
  obtain ⟨b, rfl, lb⟩ := num_of h2.2.1 h2.1 (show m ≤ 80 by omega) (eq_true_of_ne_false t4)
  obtain ⟨cc, rfl, lc⟩ := num_of h3.2.1 h3.1 (show l ≤ 80 by omega) (eq_true_of_ne_false t5)
  exact laws9_main A n c a B m d b C l ec cc w h1 h2 h3 (by omega) (by omega) (by omega) la lb lc

end Go.Proofs.Ytcejbkmmiklhbaa
