/-
  The walk of the law BigSums: for all rows that came in. No condition.
-/
import Derived.Test.YtcejbkmmiklhbaaLaws9Walk
import Derived.Test.YtcejbkmmiklhbaaRefA9
namespace Go.Proofs.Ytcejbkmmiklhbaa
open Go.RowKit

theorem sum_len {a b l : Nat} (ha : a < top) (hb : b < top) (h : (dg (a + b)).length = l) : l ≤ 1000000000 := by
  subst h
  exact Nat.le_trans ((dg_len (a + b) (256 + 1)).2 (lim_add (k := 256) ha hb)) (by decide)
theorem dif_len {a b l : Nat} (ha : a < top) (h : (dg (a - b)).length = l) : l ≤ 1000000000 := by
  subst h
  exact Nat.le_trans (top_len (Nat.lt_of_le_of_lt (Nat.sub_le a b) ha)) (by decide)

set_option maxHeartbeats 8000000 in
theorem sums9_ge (A : Option Addr) (n c : Nat) (a : Nat) (B : Option Addr) (m d : Nat) (b : Nat) (w : World) (h1 : Digs w A n (dg a)) (h2 : Digs w B m (dg b)) (ta : a < top) (tb : b < top) (hab : b ≤ a) :
    Calls Try.prog 3 #[.slice A n c, .slice B m d] w fun e w' => e = .returned (.bool true) ∧ Below w.heap.size w w' := by
  have hn : n ≤ 256 := by have := top_len ta; have := h1.1; omega
  have hm : m ≤ 256 := by have := top_len tb; have := h2.1; omega
  have dn : decide ((300 : Int) < (n : Int)) = false := by simp; omega
  have dm : decide ((300 : Int) < (m : Int)) = false := by simp; omega
  obtain ⟨q, hq⟩ : ∃ q, q = cp a b := ⟨_, rfl⟩
  have q0 : decide ((0 : Int) ≤ q) = true := by
    rw [hq]
    unfold cp; rw [if_neg (by omega)]; split <;> decide
  have qq : (q != q) = false := by simp
  have Hta := Lib.hid ta; have Htb := Lib.hid tb; have HAB := Lib.hid hab; have HQ := Lib.hid hq
  have H_a := Lib.hid h1; have H_b := Lib.hid h2
  clear h1 h2 ta tb hab hq
  go_enter Try.func3, Try.ntmps3
  have c1 := Lib.hid (awake_any w)
  go_wp2_with fail
  refine c1.out.mono ?_
  rintro e w1 ⟨rfl, BB⟩
  have H_a1 := Lib.hid (H_a.out.below BB)
  have H_b1 := Lib.hid (H_b.out.below BB)
  have HB1 := Lib.hid BB
  clear H_a H_b
  clear c1 BB
  have c2 := Lib.hid (refIs_yes A n c a w1 H_a1.out Hta.out)
  go_wp2_with fail
  refine c2.out.mono ?_
  rintro e v2 ⟨rfl, hw⟩; subst v2
  clear c2
  have c3 := Lib.hid (refIs_yes B m d b w1 H_b1.out Htb.out)
  go_wp2_with fail
  refine c3.out.mono ?_
  rintro e v3 ⟨rfl, hw⟩; subst v3
  clear c3
  have c4 := Lib.hid (is_yes A n c a w1 H_a1.out Hta.out)
  go_wp2_with fail
  refine c4.out.mono ?_
  rintro e v4 ⟨rfl, hw⟩; subst v4
  clear c4
  have c5 := Lib.hid (is_yes B m d b w1 H_b1.out Htb.out)
  go_wp2_with fail
  refine c5.out.mono ?_
  rintro e v5 ⟨rfl, hw⟩; subst v5
  clear c5
  have c6 := Lib.hid (sub_yes A n c a B m d b w1 H_a1.out H_b1.out Hta.out Htb.out HAB.out)
  go_wp2_with fail
  refine c6.out.mono ?_
  rintro e w6 ⟨R6, k6, rfl, D, BB⟩
  have H_a6 := Lib.hid (H_a1.out.below BB)
  have H_b6 := Lib.hid (H_b1.out.below BB)
  have HB6 := Lib.hid (HB1.out.trans (BB.mono HB1.out.size))
  clear H_a1 H_b1 HB1
  obtain ⟨l6, hl⟩ : ∃ l, l = (dg (a - b)).length := ⟨_, rfl⟩
  rw [← hl] at D ⊢
  have L_d := Lib.hid hl
  have H_d6 := Lib.hid D
  clear c6 BB D hl
  have c7 := Lib.hid (refCmp_any A n c a B m d b w6 H_a6.out H_b6.out (by omega) (by omega))
  rw [← HQ.out] at c7
  go_wp2_with fail
  refine c7.out.mono ?_
  rintro e w7 ⟨rfl, BB⟩
  have H_a7 := Lib.hid (H_a6.out.below BB)
  have H_b7 := Lib.hid (H_b6.out.below BB)
  have H_d7 := Lib.hid (H_d6.out.below BB)
  have HB7 := Lib.hid (HB6.out.trans (BB.mono HB6.out.size))
  clear H_a6 H_b6 H_d6 HB6
  clear c7 BB
  have c8 := Lib.hid (cmp_yes A n c a B m d b w7 H_a7.out H_b7.out Hta.out Htb.out)
  rw [← HQ.out] at c8
  go_wp2_with fail
  refine c8.out.mono ?_
  rintro e w8 ⟨rfl, BB⟩
  have H_a8 := Lib.hid (H_a7.out.below BB)
  have H_b8 := Lib.hid (H_b7.out.below BB)
  have H_d8 := Lib.hid (H_d7.out.below BB)
  have HB8 := Lib.hid (HB7.out.trans (BB.mono HB7.out.size))
  clear H_a7 H_b7 H_d7 HB7
  clear c8 BB
  have c9 := Lib.hid (add_yes A n c a B m d b w8 H_a8.out H_b8.out Hta.out Htb.out)
  go_wp2_with fail
  refine c9.out.mono ?_
  rintro e w9 ⟨R9, k9, rfl, D, BB⟩
  have H_a9 := Lib.hid (H_a8.out.below BB)
  have H_b9 := Lib.hid (H_b8.out.below BB)
  have H_d9 := Lib.hid (H_d8.out.below BB)
  have HB9 := Lib.hid (HB8.out.trans (BB.mono HB8.out.size))
  clear H_a8 H_b8 H_d8 HB8
  obtain ⟨l9, hl⟩ : ∃ l, l = (dg (a + b)).length := ⟨_, rfl⟩
  rw [← hl] at D ⊢
  have L_s := Lib.hid hl
  have H_s9 := Lib.hid D
  clear c9 BB D hl
  have c10 := Lib.hid (refAdd_any A n c a B m d b w9 H_a9.out H_b9.out (by omega) (by omega))
  go_wp2_with fail
  refine c10.out.mono ?_
  rintro e w10 ⟨R10, k10, rfl, D, BB⟩
  have H_a10 := Lib.hid (H_a9.out.below BB)
  have H_b10 := Lib.hid (H_b9.out.below BB)
  have H_d10 := Lib.hid (H_d9.out.below BB)
  have H_s10 := Lib.hid (H_s9.out.below BB)
  have HB10 := Lib.hid (HB9.out.trans (BB.mono HB9.out.size))
  clear H_a9 H_b9 H_d9 H_s9 HB9
  obtain ⟨l10, hl⟩ : ∃ l, l = (dg (a + b)).length := ⟨_, rfl⟩
  rw [← hl] at D ⊢
  have L_t := Lib.hid hl
  have H_t10 := Lib.hid D
  clear c10 BB D hl
  have c11 := Lib.hid (same_any R9 l9 k9 (dg (a + b)) R10 l10 k10 (dg (a + b)) w10 H_s10.out H_t10.out (sum_len Hta.out Htb.out H_s10.out.1) (sum_len Hta.out Htb.out H_t10.out.1))
  rw [decide_eq_true rfl] at c11
  go_wp2_with fail
  refine c11.out.mono ?_
  rintro e w11 ⟨rfl, BB⟩
  have H_a11 := Lib.hid (H_a10.out.below BB)
  have H_b11 := Lib.hid (H_b10.out.below BB)
  have H_d11 := Lib.hid (H_d10.out.below BB)
  have H_s11 := Lib.hid (H_s10.out.below BB)
  have H_t11 := Lib.hid (H_t10.out.below BB)
  have HB11 := Lib.hid (HB10.out.trans (BB.mono HB10.out.size))
  clear H_a10 H_b10 H_d10 H_s10 H_t10 HB10
  clear c11 BB
  clear H_s11 H_t11
  have c12 := Lib.hid (refSub_any A n c a B m d b w11 H_a11.out H_b11.out (by omega) (by omega) HAB.out)
  go_wp2_with fail
  refine c12.out.mono ?_
  rintro e w12 ⟨R12, k12, rfl, D, BB⟩
  have H_a12 := Lib.hid (H_a11.out.below BB)
  have H_b12 := Lib.hid (H_b11.out.below BB)
  have H_d12 := Lib.hid (H_d11.out.below BB)
  have HB12 := Lib.hid (HB11.out.trans (BB.mono HB11.out.size))
  clear H_a11 H_b11 H_d11 HB11
  obtain ⟨l12, hl⟩ : ∃ l, l = (dg (a - b)).length := ⟨_, rfl⟩
  rw [← hl] at D ⊢
  have L_u := Lib.hid hl
  have H_u12 := Lib.hid D
  clear c12 BB D hl
  have c13 := Lib.hid (same_any R6 l6 k6 (dg (a - b)) R12 l12 k12 (dg (a - b)) w12 H_d12.out H_u12.out (dif_len Hta.out H_d12.out.1) (dif_len Hta.out H_u12.out.1))
  rw [decide_eq_true rfl] at c13
  go_wp2_with fail
  refine c13.out.mono ?_
  rintro e w13 ⟨rfl, BB⟩
  have H_a13 := Lib.hid (H_a12.out.below BB)
  have H_b13 := Lib.hid (H_b12.out.below BB)
  have H_d13 := Lib.hid (H_d12.out.below BB)
  have H_u13 := Lib.hid (H_u12.out.below BB)
  have HB13 := Lib.hid (HB12.out.trans (BB.mono HB12.out.size))
  clear H_a12 H_b12 H_d12 H_u12 HB12
  clear c13 BB
  go_wp2_with fail
  go_ret
  exact ⟨rfl, HB13.out⟩

set_option maxHeartbeats 8000000 in
theorem sums9_lt (A : Option Addr) (n c : Nat) (a : Nat) (B : Option Addr) (m d : Nat) (b : Nat) (w : World) (h1 : Digs w A n (dg a)) (h2 : Digs w B m (dg b)) (ta : a < top) (tb : b < top) (hab : a < b) :
    Calls Try.prog 3 #[.slice A n c, .slice B m d] w fun e w' => e = .returned (.bool true) ∧ Below w.heap.size w w' := by
  have hn : n ≤ 256 := by have := top_len ta; have := h1.1; omega
  have hm : m ≤ 256 := by have := top_len tb; have := h2.1; omega
  have dn : decide ((300 : Int) < (n : Int)) = false := by simp; omega
  have dm : decide ((300 : Int) < (m : Int)) = false := by simp; omega
  obtain ⟨q, hq⟩ : ∃ q, q = cp a b := ⟨_, rfl⟩
  have q0 : decide ((0 : Int) ≤ q) = false := by
    rw [hq]
    rw [cp_lt hab]; decide
  have qq : (q != q) = false := by simp
  have Hta := Lib.hid ta; have Htb := Lib.hid tb; have HAB := Lib.hid hab; have HQ := Lib.hid hq
  have H_a := Lib.hid h1; have H_b := Lib.hid h2
  clear h1 h2 ta tb hab hq
  go_enter Try.func3, Try.ntmps3
  have c1 := Lib.hid (awake_any w)
  go_wp2_with fail
  refine c1.out.mono ?_
  rintro e w1 ⟨rfl, BB⟩
  have H_a1 := Lib.hid (H_a.out.below BB)
  have H_b1 := Lib.hid (H_b.out.below BB)
  have HB1 := Lib.hid BB
  clear H_a H_b
  clear c1 BB
  have c2 := Lib.hid (refIs_yes A n c a w1 H_a1.out Hta.out)
  go_wp2_with fail
  refine c2.out.mono ?_
  rintro e v2 ⟨rfl, hw⟩; subst v2
  clear c2
  have c3 := Lib.hid (refIs_yes B m d b w1 H_b1.out Htb.out)
  go_wp2_with fail
  refine c3.out.mono ?_
  rintro e v3 ⟨rfl, hw⟩; subst v3
  clear c3
  have c4 := Lib.hid (is_yes A n c a w1 H_a1.out Hta.out)
  go_wp2_with fail
  refine c4.out.mono ?_
  rintro e v4 ⟨rfl, hw⟩; subst v4
  clear c4
  have c5 := Lib.hid (is_yes B m d b w1 H_b1.out Htb.out)
  go_wp2_with fail
  refine c5.out.mono ?_
  rintro e v5 ⟨rfl, hw⟩; subst v5
  clear c5
  have c6 := Lib.hid (sub_less A n c a B m d b w1 H_a1.out H_b1.out Hta.out Htb.out HAB.out)
  go_wp2_with fail
  refine c6.out.mono ?_
  rintro e w6 ⟨rfl, BB⟩
  have H_a6 := Lib.hid (H_a1.out.below BB)
  have H_b6 := Lib.hid (H_b1.out.below BB)
  have HB6 := Lib.hid (HB1.out.trans (BB.mono HB1.out.size))
  clear H_a1 H_b1 HB1
  clear c6 BB
  have c7 := Lib.hid (refCmp_any A n c a B m d b w6 H_a6.out H_b6.out (by omega) (by omega))
  rw [← HQ.out] at c7
  go_wp2_with fail
  refine c7.out.mono ?_
  rintro e w7 ⟨rfl, BB⟩
  have H_a7 := Lib.hid (H_a6.out.below BB)
  have H_b7 := Lib.hid (H_b6.out.below BB)
  have HB7 := Lib.hid (HB6.out.trans (BB.mono HB6.out.size))
  clear H_a6 H_b6 HB6
  clear c7 BB
  have c8 := Lib.hid (cmp_yes A n c a B m d b w7 H_a7.out H_b7.out Hta.out Htb.out)
  rw [← HQ.out] at c8
  go_wp2_with fail
  refine c8.out.mono ?_
  rintro e w8 ⟨rfl, BB⟩
  have H_a8 := Lib.hid (H_a7.out.below BB)
  have H_b8 := Lib.hid (H_b7.out.below BB)
  have HB8 := Lib.hid (HB7.out.trans (BB.mono HB7.out.size))
  clear H_a7 H_b7 HB7
  clear c8 BB
  have c9 := Lib.hid (add_yes A n c a B m d b w8 H_a8.out H_b8.out Hta.out Htb.out)
  go_wp2_with fail
  refine c9.out.mono ?_
  rintro e w9 ⟨R9, k9, rfl, D, BB⟩
  have H_a9 := Lib.hid (H_a8.out.below BB)
  have H_b9 := Lib.hid (H_b8.out.below BB)
  have HB9 := Lib.hid (HB8.out.trans (BB.mono HB8.out.size))
  clear H_a8 H_b8 HB8
  obtain ⟨l9, hl⟩ : ∃ l, l = (dg (a + b)).length := ⟨_, rfl⟩
  rw [← hl] at D ⊢
  have L_s := Lib.hid hl
  have H_s9 := Lib.hid D
  clear c9 BB D hl
  have c10 := Lib.hid (refAdd_any A n c a B m d b w9 H_a9.out H_b9.out (by omega) (by omega))
  go_wp2_with fail
  refine c10.out.mono ?_
  rintro e w10 ⟨R10, k10, rfl, D, BB⟩
  have H_a10 := Lib.hid (H_a9.out.below BB)
  have H_b10 := Lib.hid (H_b9.out.below BB)
  have H_s10 := Lib.hid (H_s9.out.below BB)
  have HB10 := Lib.hid (HB9.out.trans (BB.mono HB9.out.size))
  clear H_a9 H_b9 H_s9 HB9
  obtain ⟨l10, hl⟩ : ∃ l, l = (dg (a + b)).length := ⟨_, rfl⟩
  rw [← hl] at D ⊢
  have L_t := Lib.hid hl
  have H_t10 := Lib.hid D
  clear c10 BB D hl
  have c11 := Lib.hid (same_any R9 l9 k9 (dg (a + b)) R10 l10 k10 (dg (a + b)) w10 H_s10.out H_t10.out (sum_len Hta.out Htb.out H_s10.out.1) (sum_len Hta.out Htb.out H_t10.out.1))
  rw [decide_eq_true rfl] at c11
  go_wp2_with fail
  refine c11.out.mono ?_
  rintro e w11 ⟨rfl, BB⟩
  have H_a11 := Lib.hid (H_a10.out.below BB)
  have H_b11 := Lib.hid (H_b10.out.below BB)
  have H_s11 := Lib.hid (H_s10.out.below BB)
  have H_t11 := Lib.hid (H_t10.out.below BB)
  have HB11 := Lib.hid (HB10.out.trans (BB.mono HB10.out.size))
  clear H_a10 H_b10 H_s10 H_t10 HB10
  clear c11 BB
  clear H_s11 H_t11
  go_wp2_with fail
  go_ret
  exact ⟨rfl, HB11.out⟩

set_option maxHeartbeats 8000000 in
theorem sums9_no (A : Option Addr) (n c : Nat) (xs : List Nat) (B : Option Addr) (m d : Nat) (ys : List Nat) (w : World) (h1 : Digs w A n xs) (h2 : Digs w B m ys) (hn : n ≤ 300) (hm : m ≤ 300) (p q : Bool) (hp : isN xs = p) (hq : isN ys = q) (hpq : p = false ∨ q = false) :
    Calls Try.prog 3 #[.slice A n c, .slice B m d] w fun e w' => e = .returned (.bool true) ∧ Below w.heap.size w w' := by
  have dn : decide ((300 : Int) < (n : Int)) = false := by simp; omega
  have dm : decide ((300 : Int) < (m : Int)) = false := by simp; omega
  have hi : isN xs = false ∨ isN ys = false := by rw [hp, hq]; exact hpq
  have HI := Lib.hid hi
  have H_a := Lib.hid h1; have H_b := Lib.hid h2
  have HP := Lib.hid hp; have HQ := Lib.hid hq
  clear h1 h2 hi hp hq
  cases p
  · cases q
    · clear hpq
      go_enter Try.func3, Try.ntmps3
      have c1 := Lib.hid (awake_any w)
      go_wp2_with fail
      refine c1.out.mono ?_
      rintro e w1 ⟨rfl, BB⟩
      have H_a1 := Lib.hid (H_a.out.below BB)
      have H_b1 := Lib.hid (H_b.out.below BB)
      have HB1 := Lib.hid BB
      clear H_a H_b
      clear c1 BB
      have c2 := Lib.hid (refIs_any A n c xs w1 H_a1.out (by omega))
      rw [HP.out] at c2
      go_wp2_with fail
      refine c2.out.mono ?_
      rintro e v2 ⟨rfl, hw⟩; subst v2
      clear c2
      have c3 := Lib.hid (refIs_any B m d ys w1 H_b1.out (by omega))
      rw [HQ.out] at c3
      go_wp2_with fail
      refine c3.out.mono ?_
      rintro e v3 ⟨rfl, hw⟩; subst v3
      clear c3
      have c4 := Lib.hid (is_any A n c xs w1 H_a1.out (by omega))
      rw [HP.out] at c4
      go_wp2_with fail
      refine c4.out.mono ?_
      rintro e v4 ⟨rfl, hw⟩; subst v4
      clear c4
      have c5 := Lib.hid (is_any B m d ys w1 H_b1.out (by omega))
      rw [HQ.out] at c5
      go_wp2_with fail
      refine c5.out.mono ?_
      rintro e v5 ⟨rfl, hw⟩; subst v5
      clear c5
      have c6 := Lib.hid (sub_no A n c xs B m d ys w1 H_a1.out H_b1.out (by omega) (by omega) HI.out)
      go_wp2_with fail
      refine c6.out.mono ?_
      rintro e v6 ⟨rfl, hw⟩; subst v6
      clear c6
      have c7 := Lib.hid (add_no A n c xs B m d ys w1 H_a1.out H_b1.out (by omega) (by omega) HI.out)
      go_wp2_with fail
      refine c7.out.mono ?_
      rintro e v7 ⟨rfl, hw⟩; subst v7
      clear c7
      have c8 := Lib.hid (cmp_no A n c xs B m d ys w1 H_a1.out H_b1.out (by omega) (by omega) HI.out)
      go_wp2_with fail
      refine c8.out.mono ?_
      rintro e v8 ⟨rfl, hw⟩; subst v8
      clear c8
      go_wp2_with fail
      go_ret
      exact ⟨rfl, HB1.out⟩
    · clear hpq
      go_enter Try.func3, Try.ntmps3
      have c1 := Lib.hid (awake_any w)
      go_wp2_with fail
      refine c1.out.mono ?_
      rintro e w1 ⟨rfl, BB⟩
      have H_a1 := Lib.hid (H_a.out.below BB)
      have H_b1 := Lib.hid (H_b.out.below BB)
      have HB1 := Lib.hid BB
      clear H_a H_b
      clear c1 BB
      have c2 := Lib.hid (refIs_any A n c xs w1 H_a1.out (by omega))
      rw [HP.out] at c2
      go_wp2_with fail
      refine c2.out.mono ?_
      rintro e v2 ⟨rfl, hw⟩; subst v2
      clear c2
      have c3 := Lib.hid (refIs_any B m d ys w1 H_b1.out (by omega))
      rw [HQ.out] at c3
      go_wp2_with fail
      refine c3.out.mono ?_
      rintro e v3 ⟨rfl, hw⟩; subst v3
      clear c3
      have c4 := Lib.hid (is_any A n c xs w1 H_a1.out (by omega))
      rw [HP.out] at c4
      go_wp2_with fail
      refine c4.out.mono ?_
      rintro e v4 ⟨rfl, hw⟩; subst v4
      clear c4
      have c5 := Lib.hid (is_any B m d ys w1 H_b1.out (by omega))
      rw [HQ.out] at c5
      go_wp2_with fail
      refine c5.out.mono ?_
      rintro e v5 ⟨rfl, hw⟩; subst v5
      clear c5
      have c6 := Lib.hid (sub_no A n c xs B m d ys w1 H_a1.out H_b1.out (by omega) (by omega) HI.out)
      go_wp2_with fail
      refine c6.out.mono ?_
      rintro e v6 ⟨rfl, hw⟩; subst v6
      clear c6
      have c7 := Lib.hid (add_no A n c xs B m d ys w1 H_a1.out H_b1.out (by omega) (by omega) HI.out)
      go_wp2_with fail
      refine c7.out.mono ?_
      rintro e v7 ⟨rfl, hw⟩; subst v7
      clear c7
      have c8 := Lib.hid (cmp_no A n c xs B m d ys w1 H_a1.out H_b1.out (by omega) (by omega) HI.out)
      go_wp2_with fail
      refine c8.out.mono ?_
      rintro e v8 ⟨rfl, hw⟩; subst v8
      clear c8
      go_wp2_with fail
      go_ret
      exact ⟨rfl, HB1.out⟩
  · obtain rfl : q = false := by rcases hpq with h | h; cases h; exact h
    clear hpq
    go_enter Try.func3, Try.ntmps3
    have c1 := Lib.hid (awake_any w)
    go_wp2_with fail
    refine c1.out.mono ?_
    rintro e w1 ⟨rfl, BB⟩
    have H_a1 := Lib.hid (H_a.out.below BB)
    have H_b1 := Lib.hid (H_b.out.below BB)
    have HB1 := Lib.hid BB
    clear H_a H_b
    clear c1 BB
    have c2 := Lib.hid (refIs_any A n c xs w1 H_a1.out (by omega))
    rw [HP.out] at c2
    go_wp2_with fail
    refine c2.out.mono ?_
    rintro e v2 ⟨rfl, hw⟩; subst v2
    clear c2
    have c3 := Lib.hid (refIs_any B m d ys w1 H_b1.out (by omega))
    rw [HQ.out] at c3
    go_wp2_with fail
    refine c3.out.mono ?_
    rintro e v3 ⟨rfl, hw⟩; subst v3
    clear c3
    have c4 := Lib.hid (is_any A n c xs w1 H_a1.out (by omega))
    rw [HP.out] at c4
    go_wp2_with fail
    refine c4.out.mono ?_
    rintro e v4 ⟨rfl, hw⟩; subst v4
    clear c4
    have c5 := Lib.hid (is_any B m d ys w1 H_b1.out (by omega))
    rw [HQ.out] at c5
    go_wp2_with fail
    refine c5.out.mono ?_
    rintro e v5 ⟨rfl, hw⟩; subst v5
    clear c5
    have c6 := Lib.hid (sub_no A n c xs B m d ys w1 H_a1.out H_b1.out (by omega) (by omega) HI.out)
    go_wp2_with fail
    refine c6.out.mono ?_
    rintro e v6 ⟨rfl, hw⟩; subst v6
    clear c6
    have c7 := Lib.hid (add_no A n c xs B m d ys w1 H_a1.out H_b1.out (by omega) (by omega) HI.out)
    go_wp2_with fail
    refine c7.out.mono ?_
    rintro e v7 ⟨rfl, hw⟩; subst v7
    clear c7
    have c8 := Lib.hid (cmp_no A n c xs B m d ys w1 H_a1.out H_b1.out (by omega) (by omega) HI.out)
    go_wp2_with fail
    refine c8.out.mono ?_
    rintro e v8 ⟨rfl, hw⟩; subst v8
    clear c8
    go_wp2_with fail
    go_ret
    exact ⟨rfl, HB1.out⟩

set_option maxHeartbeats 4000000 in
theorem sums9_walk (A : Option Addr) (n c : Nat) (xs : List Nat) (B : Option Addr) (m d : Nat) (ys : List Nat) (w : World) (h1 : Digs w A n xs) (h2 : Digs w B m ys) :
    Calls Try.prog 3 #[.slice A n c, .slice B m d] w fun e w' => e = .returned (.bool true) ∧ Below w.heap.size w w' := by
  by_cases t0 : 300 < n
  · have d0 : decide ((300 : Int) < (n : Int)) = true := by simp; omega
    have HA := Lib.hid (awake_any w)
    clear h1 h2 t0
    go_enter Try.func3, Try.ntmps3
    go_wp2_with fail
    refine HA.out.mono ?_
    rintro e w1 ⟨rfl, B1⟩
    have HB := Lib.hid B1
    clear B1 HA
    go_wp2_with fail
    go_ret
    exact ⟨rfl, HB.out⟩
  by_cases t1 : 300 < m
  · have d0 : decide ((300 : Int) < (n : Int)) = false := by simp; omega
    have d1 : decide ((300 : Int) < (m : Int)) = true := by simp; omega
    have HA := Lib.hid (awake_any w)
    clear h1 h2 t0 t1
    go_enter Try.func3, Try.ntmps3
    go_wp2_with fail
    refine HA.out.mono ?_
    rintro e w1 ⟨rfl, B1⟩
    have HB := Lib.hid B1
    clear B1 HA
    go_wp2_with fail
    go_ret
    exact ⟨rfl, HB.out⟩
  by_cases hx : isN xs = true
  · by_cases hy : isN ys = true
    · obtain ⟨a, rfl, la⟩ := num_of (k := 256) h1.2.1 h1.1 (by have := (of_decide_eq_true hx).1; have := h1.1; omega) hx
      obtain ⟨b, rfl, lb⟩ := num_of (k := 256) h2.2.1 h2.1 (by have := (of_decide_eq_true hy).1; have := h2.1; omega) hy
      rcases Nat.lt_or_ge a b with hab | hab
      · exact sums9_lt A n c a B m d b w h1 h2 la lb hab
      · exact sums9_ge A n c a B m d b w h1 h2 la lb hab
    · exact sums9_no A n c xs B m d ys w h1 h2 (by omega) (by omega) true false hx (eq_false_of_ne_true hy) (.inr rfl)
  · exact sums9_no A n c xs B m d ys w h1 h2 (by omega) (by omega) false (isN ys) (eq_false_of_ne_true hx) rfl (.inl rfl)

end Go.Proofs.Ytcejbkmmiklhbaa
