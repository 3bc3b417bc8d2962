/-
  The walk of the law BigTexts: for all rows that came in. No condition.
-/
import Derived.Test.YtcejbkmmiklhbaaRefT9
import Derived.Test.YtcejbkmmiklhbaaRefP9
import Derived.Test.YtcejbkmmiklhbaaSums9Walk
namespace Go.Proofs.Ytcejbkmmiklhbaa
open Go.RowKit

theorem pv_top {L : List UInt8} {x : Nat} (h : pv L = some x) : x < top := by
  unfold pv at h
  split at h
  · cases h
  · cases hr : rd 0 L with
    | none => rw [hr] at h; cases h
    | some y =>
      rw [hr] at h
      have h' : (if y < top then some y else none) = some x := h
      split at h'
      · next ht => cases h'; exact ht
      · cases h'

set_option maxRecDepth 100000 in
set_option maxHeartbeats 8000000 in
theorem texts9_ys (A : Option Addr) (n c : Nat) (a : Nat) (L : List UInt8) (v : Nat) (w : World) (hL : L.length ≤ 1400) (hv : v < 18446744073709551616) (h1 : Digs w A n (dg a)) (ta : a < top) (x : Nat) (hp : pv L = some x) :
    Calls Try.prog 7 #[.slice A n c, .string ⟨L.toArray⟩, .int .u64 (v : Int)] w fun e w' => e = .returned (.bool true) ∧ Below w.heap.size w w' := by
  have hn : n ≤ 256 := by have := top_len ta; have := h1.1; omega
  have dn : decide ((300 : Int) < (n : Int)) = false := by simp; omega
  have dnn : decide (300 < n) = false := by simp; omega
  have dL : decide ((1400 : Int) < (L.length : Int)) = false := by simp; omega
  have HLL : Hid (L.length ≤ 1000000) := show _ ≤ _ by omega
  have HV := Lib.hid hv
  have H_a := Lib.hid h1
  have HVL : Hid ((dg v).length ≤ 4) := (dg_len v 4).2 (Nat.lt_of_lt_of_le hv (by decide))
  have HP := Lib.hid hp
  have HXL : Hid ((dg x).length ≤ 256) := top_len (pv_top hp)
  obtain ⟨T, hT⟩ : ∃ T : List UInt8, T = dec a := ⟨_, rfl⟩
  have HT := Lib.hid hT
  have HPT : Hid (pv T = some a) := show _ = _ by rw [hT]; exact pv_dec ta
  have HTL : Hid (T.length ≤ 1000000) := show _ ≤ _ by rw [hT]; have := dec_len ta; omega
  have Hta := Lib.hid ta
  clear h1 ta hT hL hv hp
  go_enter Try.func7, Try.ntmps7
  have c1 := Lib.hid (awake_any w)
  go_wp2_with fail
  refine c1.out.mono ?_
  rintro e w1 ⟨rfl, BB⟩
  have H_a1 := Lib.hid (H_a.out.below BB)
  have HB1 := Lib.hid BB
  clear H_a
  clear c1 BB
  have c2 := Lib.hid (text_yes A n c a w1 H_a1.out Hta.out)
  rw [← HT.out] at c2
  go_wp2_with fail
  refine c2.out.mono ?_
  rintro e w2 ⟨rfl, BB⟩
  have H_a2 := Lib.hid (H_a1.out.below BB)
  have HB2 := Lib.hid (HB1.out.trans (BB.mono HB1.out.size))
  clear H_a1 HB1
  clear c2 BB
  have c3 := Lib.hid (parse_some HP.out HLL.out w2)
  go_wp2_with fail
  refine c3.out.mono ?_
  rintro e w3 ⟨R3, k3, rfl, D, BB⟩
  have H_a3 := Lib.hid (H_a2.out.below BB)
  have HB3 := Lib.hid (HB2.out.trans (BB.mono HB2.out.size))
  clear H_a2 HB2
  obtain ⟨l3, hl⟩ : ∃ l, l = (dg x).length := ⟨_, rfl⟩
  rw [← hl] at D ⊢
  have L_c := Lib.hid hl
  have H_c3 := Lib.hid D
  clear c3 BB D hl
  have c4 := Lib.hid (refParse_some HP.out HLL.out w3)
  go_wp2_with fail
  refine c4.out.mono ?_
  rintro e w4 ⟨R4, k4, rfl, D, BB⟩
  have H_a4 := Lib.hid (H_a3.out.below BB)
  have H_c4 := Lib.hid (H_c3.out.below BB)
  have HB4 := Lib.hid (HB3.out.trans (BB.mono HB3.out.size))
  clear H_a3 H_c3 HB3
  obtain ⟨l4, hl⟩ : ∃ l, l = (dg x).length := ⟨_, rfl⟩
  rw [← hl] at D ⊢
  have L_d := Lib.hid hl
  have H_d4 := Lib.hid D
  clear c4 BB D hl
  have c5 := Lib.hid (same_any R3 l3 k3 (dg x) R4 l4 k4 (dg x) w4 H_c4.out H_d4.out (by have := L_c.out; have := HXL.out; omega) (by have := L_d.out; have := HXL.out; omega))
  rw [decide_eq_true rfl] at c5
  go_wp2_with fail
  refine c5.out.mono ?_
  rintro e w5 ⟨rfl, BB⟩
  have H_a5 := Lib.hid (H_a4.out.below BB)
  have H_c5 := Lib.hid (H_c4.out.below BB)
  have H_d5 := Lib.hid (H_d4.out.below BB)
  have HB5 := Lib.hid (HB4.out.trans (BB.mono HB4.out.size))
  clear H_a4 H_c4 H_d4 HB4
  clear c5 BB
  have c6 := Lib.hid (of_any9 v HV.out w5)
  go_wp2_with fail
  refine c6.out.mono ?_
  rintro e w6 ⟨R6, k6, rfl, D, BB⟩
  have H_a6 := Lib.hid (H_a5.out.below BB)
  have H_c6 := Lib.hid (H_c5.out.below BB)
  have H_d6 := Lib.hid (H_d5.out.below BB)
  have HB6 := Lib.hid (HB5.out.trans (BB.mono HB5.out.size))
  clear H_a5 H_c5 H_d5 HB5
  obtain ⟨l6, hl⟩ : ∃ l, l = (dg v).length := ⟨_, rfl⟩
  rw [← hl] at D ⊢
  have L_o := Lib.hid hl
  have H_o6 := Lib.hid D
  clear c6 BB D hl
  have c7 := Lib.hid (refOf_any v HV.out w6)
  go_wp2_with fail
  refine c7.out.mono ?_
  rintro e w7 ⟨R7, k7, rfl, D, BB⟩
  have H_a7 := Lib.hid (H_a6.out.below BB)
  have H_c7 := Lib.hid (H_c6.out.below BB)
  have H_d7 := Lib.hid (H_d6.out.below BB)
  have H_o7 := Lib.hid (H_o6.out.below BB)
  have HB7 := Lib.hid (HB6.out.trans (BB.mono HB6.out.size))
  clear H_a6 H_c6 H_d6 H_o6 HB6
  obtain ⟨l7, hl⟩ : ∃ l, l = (dg v).length := ⟨_, rfl⟩
  rw [← hl] at D ⊢
  have L_p := Lib.hid hl
  have H_p7 := Lib.hid D
  clear c7 BB D hl
  have c8 := Lib.hid (same_any R6 l6 k6 (dg v) R7 l7 k7 (dg v) w7 H_o7.out H_p7.out (by have := L_o.out; have := HVL.out; omega) (by have := L_p.out; have := HVL.out; omega))
  rw [decide_eq_true rfl] at c8
  go_wp2_with fail
  refine c8.out.mono ?_
  rintro e w8 ⟨rfl, BB⟩
  have H_a8 := Lib.hid (H_a7.out.below BB)
  have H_c8 := Lib.hid (H_c7.out.below BB)
  have H_d8 := Lib.hid (H_d7.out.below BB)
  have H_o8 := Lib.hid (H_o7.out.below BB)
  have H_p8 := Lib.hid (H_p7.out.below BB)
  have HB8 := Lib.hid (HB7.out.trans (BB.mono HB7.out.size))
  clear H_a7 H_c7 H_d7 H_o7 H_p7 HB7
  clear c8 BB
  have c9 := Lib.hid (refIs_yes A n c a w8 H_a8.out Hta.out)
  go_wp2_with fail
  refine c9.out.mono ?_
  rintro e v9 ⟨rfl, hw⟩; subst v9
  clear c9
  have c10 := Lib.hid (parse_some HPT.out HTL.out w8)
  go_wp2_with fail
  refine c10.out.mono ?_
  rintro e w10 ⟨R10, k10, rfl, D, BB⟩
  have H_a10 := Lib.hid (H_a8.out.below BB)
  have H_c10 := Lib.hid (H_c8.out.below BB)
  have H_d10 := Lib.hid (H_d8.out.below BB)
  have H_o10 := Lib.hid (H_o8.out.below BB)
  have H_p10 := Lib.hid (H_p8.out.below BB)
  have HB10 := Lib.hid (HB8.out.trans (BB.mono HB8.out.size))
  clear H_a8 H_c8 H_d8 H_o8 H_p8 HB8
  obtain ⟨l10, hl⟩ : ∃ l, l = (dg a).length := ⟨_, rfl⟩
  rw [← hl] at D ⊢
  have L_b := Lib.hid hl
  have H_b10 := Lib.hid D
  clear c10 BB D hl
  have c11 := Lib.hid (refText_any A n c a w10 H_a10.out Hta.out)
  rw [← HT.out] at c11
  go_wp2_with fail
  refine c11.out.mono ?_
  rintro e w11 ⟨rfl, BB⟩
  have H_a11 := Lib.hid (H_a10.out.below BB)
  have H_c11 := Lib.hid (H_c10.out.below BB)
  have H_d11 := Lib.hid (H_d10.out.below BB)
  have H_o11 := Lib.hid (H_o10.out.below BB)
  have H_p11 := Lib.hid (H_p10.out.below BB)
  have H_b11 := Lib.hid (H_b10.out.below BB)
  have HB11 := Lib.hid (HB10.out.trans (BB.mono HB10.out.size))
  clear H_a10 H_c10 H_d10 H_o10 H_p10 H_b10 HB10
  clear c11 BB
  have c12 := Lib.hid (same_any A n c (dg a) R10 l10 k10 (dg a) w11 H_a11.out H_b11.out (by omega) (by have := L_b.out; have := top_len Hta.out; omega))
  rw [decide_eq_true rfl] at c12
  go_wp2_with fail
  refine c12.out.mono ?_
  rintro e w12 ⟨rfl, BB⟩
  have H_a12 := Lib.hid (H_a11.out.below BB)
  have H_c12 := Lib.hid (H_c11.out.below BB)
  have H_d12 := Lib.hid (H_d11.out.below BB)
  have H_o12 := Lib.hid (H_o11.out.below BB)
  have H_p12 := Lib.hid (H_p11.out.below BB)
  have H_b12 := Lib.hid (H_b11.out.below BB)
  have HB12 := Lib.hid (HB11.out.trans (BB.mono HB11.out.size))
  clear H_a11 H_c11 H_d11 H_o11 H_p11 H_b11 HB11
  clear c12 BB
  go_wp2_with fail
  go_ret
  exact ⟨rfl, HB12.out⟩

set_option maxRecDepth 100000 in
set_option maxHeartbeats 8000000 in
theorem texts9_yn (A : Option Addr) (n c : Nat) (a : Nat) (L : List UInt8) (v : Nat) (w : World) (hL : L.length ≤ 1400) (hv : v < 18446744073709551616) (h1 : Digs w A n (dg a)) (ta : a < top) (hp : pv L = none) :
    Calls Try.prog 7 #[.slice A n c, .string ⟨L.toArray⟩, .int .u64 (v : Int)] w fun e w' => e = .returned (.bool true) ∧ Below w.heap.size w w' := by
  have hn : n ≤ 256 := by have := top_len ta; have := h1.1; omega
  have dn : decide ((300 : Int) < (n : Int)) = false := by simp; omega
  have dnn : decide (300 < n) = false := by simp; omega
  have dL : decide ((1400 : Int) < (L.length : Int)) = false := by simp; omega
  have HLL : Hid (L.length ≤ 1000000) := show _ ≤ _ by omega
  have HV := Lib.hid hv
  have H_a := Lib.hid h1
  have HVL : Hid ((dg v).length ≤ 4) := (dg_len v 4).2 (Nat.lt_of_lt_of_le hv (by decide))
  have HP := Lib.hid hp
  obtain ⟨T, hT⟩ : ∃ T : List UInt8, T = dec a := ⟨_, rfl⟩
  have HT := Lib.hid hT
  have HPT : Hid (pv T = some a) := show _ = _ by rw [hT]; exact pv_dec ta
  have HTL : Hid (T.length ≤ 1000000) := show _ ≤ _ by rw [hT]; have := dec_len ta; omega
  have Hta := Lib.hid ta
  clear h1 ta hT hL hv hp
  go_enter Try.func7, Try.ntmps7
  have c1 := Lib.hid (awake_any w)
  go_wp2_with fail
  refine c1.out.mono ?_
  rintro e w1 ⟨rfl, BB⟩
  have H_a1 := Lib.hid (H_a.out.below BB)
  have HB1 := Lib.hid BB
  clear H_a
  clear c1 BB
  have c2 := Lib.hid (text_yes A n c a w1 H_a1.out Hta.out)
  rw [← HT.out] at c2
  go_wp2_with fail
  refine c2.out.mono ?_
  rintro e w2 ⟨rfl, BB⟩
  have H_a2 := Lib.hid (H_a1.out.below BB)
  have HB2 := Lib.hid (HB1.out.trans (BB.mono HB1.out.size))
  clear H_a1 HB1
  clear c2 BB
  have c3 := Lib.hid (parse_none HP.out HLL.out w2)
  go_wp2_with fail
  refine c3.out.mono ?_
  rintro e w3 ⟨rfl, BB⟩
  have H_a3 := Lib.hid (H_a2.out.below BB)
  have HB3 := Lib.hid (HB2.out.trans (BB.mono HB2.out.size))
  clear H_a2 HB2
  clear c3 BB
  have c4 := Lib.hid (refParse_none HP.out HLL.out w3)
  go_wp2_with fail
  refine c4.out.mono ?_
  rintro e w4 ⟨R4, l4, k4, rfl, BB⟩
  have H_a4 := Lib.hid (H_a3.out.below BB)
  have HB4 := Lib.hid (HB3.out.trans (BB.mono HB3.out.size))
  clear H_a3 HB3
  clear c4 BB
  have c5 := Lib.hid (same_any none 0 0 [] none 0 0 [] w4 (Digs.none _ _) (Digs.none _ _) (by omega) (by omega))
  rw [decide_eq_true rfl] at c5
  go_wp2_with fail
  refine c5.out.mono ?_
  rintro e w5 ⟨rfl, BB⟩
  have H_a5 := Lib.hid (H_a4.out.below BB)
  have HB5 := Lib.hid (HB4.out.trans (BB.mono HB4.out.size))
  clear H_a4 HB4
  clear c5 BB
  have c6 := Lib.hid (of_any9 v HV.out w5)
  go_wp2_with fail
  refine c6.out.mono ?_
  rintro e w6 ⟨R6, k6, rfl, D, BB⟩
  have H_a6 := Lib.hid (H_a5.out.below BB)
  have HB6 := Lib.hid (HB5.out.trans (BB.mono HB5.out.size))
  clear H_a5 HB5
  obtain ⟨l6, hl⟩ : ∃ l, l = (dg v).length := ⟨_, rfl⟩
  rw [← hl] at D ⊢
  have L_o := Lib.hid hl
  have H_o6 := Lib.hid D
  clear c6 BB D hl
  have c7 := Lib.hid (refOf_any v HV.out w6)
  go_wp2_with fail
  refine c7.out.mono ?_
  rintro e w7 ⟨R7, k7, rfl, D, BB⟩
  have H_a7 := Lib.hid (H_a6.out.below BB)
  have H_o7 := Lib.hid (H_o6.out.below BB)
  have HB7 := Lib.hid (HB6.out.trans (BB.mono HB6.out.size))
  clear H_a6 H_o6 HB6
  obtain ⟨l7, hl⟩ : ∃ l, l = (dg v).length := ⟨_, rfl⟩
  rw [← hl] at D ⊢
  have L_p := Lib.hid hl
  have H_p7 := Lib.hid D
  clear c7 BB D hl
  have c8 := Lib.hid (same_any R6 l6 k6 (dg v) R7 l7 k7 (dg v) w7 H_o7.out H_p7.out (by have := L_o.out; have := HVL.out; omega) (by have := L_p.out; have := HVL.out; omega))
  rw [decide_eq_true rfl] at c8
  go_wp2_with fail
  refine c8.out.mono ?_
  rintro e w8 ⟨rfl, BB⟩
  have H_a8 := Lib.hid (H_a7.out.below BB)
  have H_o8 := Lib.hid (H_o7.out.below BB)
  have H_p8 := Lib.hid (H_p7.out.below BB)
  have HB8 := Lib.hid (HB7.out.trans (BB.mono HB7.out.size))
  clear H_a7 H_o7 H_p7 HB7
  clear c8 BB
  have c9 := Lib.hid (refIs_yes A n c a w8 H_a8.out Hta.out)
  go_wp2_with fail
  refine c9.out.mono ?_
  rintro e v9 ⟨rfl, hw⟩; subst v9
  clear c9
  have c10 := Lib.hid (parse_some HPT.out HTL.out w8)
  go_wp2_with fail
  refine c10.out.mono ?_
  rintro e w10 ⟨R10, k10, rfl, D, BB⟩
  have H_a10 := Lib.hid (H_a8.out.below BB)
  have H_o10 := Lib.hid (H_o8.out.below BB)
  have H_p10 := Lib.hid (H_p8.out.below BB)
  have HB10 := Lib.hid (HB8.out.trans (BB.mono HB8.out.size))
  clear H_a8 H_o8 H_p8 HB8
  obtain ⟨l10, hl⟩ : ∃ l, l = (dg a).length := ⟨_, rfl⟩
  rw [← hl] at D ⊢
  have L_b := Lib.hid hl
  have H_b10 := Lib.hid D
  clear c10 BB D hl
  have c11 := Lib.hid (refText_any A n c a w10 H_a10.out Hta.out)
  rw [← HT.out] at c11
  go_wp2_with fail
  refine c11.out.mono ?_
  rintro e w11 ⟨rfl, BB⟩
  have H_a11 := Lib.hid (H_a10.out.below BB)
  have H_o11 := Lib.hid (H_o10.out.below BB)
  have H_p11 := Lib.hid (H_p10.out.below BB)
  have H_b11 := Lib.hid (H_b10.out.below BB)
  have HB11 := Lib.hid (HB10.out.trans (BB.mono HB10.out.size))
  clear H_a10 H_o10 H_p10 H_b10 HB10
  clear c11 BB
  have c12 := Lib.hid (same_any A n c (dg a) R10 l10 k10 (dg a) w11 H_a11.out H_b11.out (by omega) (by have := L_b.out; have := top_len Hta.out; omega))
  rw [decide_eq_true rfl] at c12
  go_wp2_with fail
  refine c12.out.mono ?_
  rintro e w12 ⟨rfl, BB⟩
  have H_a12 := Lib.hid (H_a11.out.below BB)
  have H_o12 := Lib.hid (H_o11.out.below BB)
  have H_p12 := Lib.hid (H_p11.out.below BB)
  have H_b12 := Lib.hid (H_b11.out.below BB)
  have HB12 := Lib.hid (HB11.out.trans (BB.mono HB11.out.size))
  clear H_a11 H_o11 H_p11 H_b11 HB11
  clear c12 BB
  go_wp2_with fail
  go_ret
  exact ⟨rfl, HB12.out⟩

set_option maxRecDepth 100000 in
set_option maxHeartbeats 8000000 in
theorem texts9_ns (A : Option Addr) (n c : Nat) (xs : List Nat) (L : List UInt8) (v : Nat) (w : World) (hL : L.length ≤ 1400) (hv : v < 18446744073709551616) (h1 : Digs w A n xs) (hn : n ≤ 300) (hx : isN xs = false) (x : Nat) (hp : pv L = some x) :
    Calls Try.prog 7 #[.slice A n c, .string ⟨L.toArray⟩, .int .u64 (v : Int)] w fun e w' => e = .returned (.bool true) ∧ Below w.heap.size w w' := by
  have dn : decide ((300 : Int) < (n : Int)) = false := by simp; omega
  have dnn : decide (300 < n) = false := by simp; omega
  have dL : decide ((1400 : Int) < (L.length : Int)) = false := by simp; omega
  have HLL : Hid (L.length ≤ 1000000) := show _ ≤ _ by omega
  have HV := Lib.hid hv
  have H_a := Lib.hid h1
  have HVL : Hid ((dg v).length ≤ 4) := (dg_len v 4).2 (Nat.lt_of_lt_of_le hv (by decide))
  have HP := Lib.hid hp
  have HXL : Hid ((dg x).length ≤ 256) := top_len (pv_top hp)
  have HX := Lib.hid hx
  clear h1 hx hL hv hp
  go_enter Try.func7, Try.ntmps7
  have c1 := Lib.hid (awake_any w)
  go_wp2_with fail
  refine c1.out.mono ?_
  rintro e w1 ⟨rfl, BB⟩
  have H_a1 := Lib.hid (H_a.out.below BB)
  have HB1 := Lib.hid BB
  clear H_a
  clear c1 BB
  have c2 := Lib.hid (text_no A n c xs w1 H_a1.out (by omega) HX.out)
  go_wp2_with fail
  refine c2.out.mono ?_
  rintro e v2 ⟨rfl, hw⟩; subst v2
  clear c2
  have c3 := Lib.hid (parse_some HP.out HLL.out w1)
  go_wp2_with fail
  refine c3.out.mono ?_
  rintro e w3 ⟨R3, k3, rfl, D, BB⟩
  have H_a3 := Lib.hid (H_a1.out.below BB)
  have HB3 := Lib.hid (HB1.out.trans (BB.mono HB1.out.size))
  clear H_a1 HB1
  obtain ⟨l3, hl⟩ : ∃ l, l = (dg x).length := ⟨_, rfl⟩
  rw [← hl] at D ⊢
  have L_c := Lib.hid hl
  have H_c3 := Lib.hid D
  clear c3 BB D hl
  have c4 := Lib.hid (refParse_some HP.out HLL.out w3)
  go_wp2_with fail
  refine c4.out.mono ?_
  rintro e w4 ⟨R4, k4, rfl, D, BB⟩
  have H_a4 := Lib.hid (H_a3.out.below BB)
  have H_c4 := Lib.hid (H_c3.out.below BB)
  have HB4 := Lib.hid (HB3.out.trans (BB.mono HB3.out.size))
  clear H_a3 H_c3 HB3
  obtain ⟨l4, hl⟩ : ∃ l, l = (dg x).length := ⟨_, rfl⟩
  rw [← hl] at D ⊢
  have L_d := Lib.hid hl
  have H_d4 := Lib.hid D
  clear c4 BB D hl
  have c5 := Lib.hid (same_any R3 l3 k3 (dg x) R4 l4 k4 (dg x) w4 H_c4.out H_d4.out (by have := L_c.out; have := HXL.out; omega) (by have := L_d.out; have := HXL.out; omega))
  rw [decide_eq_true rfl] at c5
  go_wp2_with fail
  refine c5.out.mono ?_
  rintro e w5 ⟨rfl, BB⟩
  have H_a5 := Lib.hid (H_a4.out.below BB)
  have H_c5 := Lib.hid (H_c4.out.below BB)
  have H_d5 := Lib.hid (H_d4.out.below BB)
  have HB5 := Lib.hid (HB4.out.trans (BB.mono HB4.out.size))
  clear H_a4 H_c4 H_d4 HB4
  clear c5 BB
  have c6 := Lib.hid (of_any9 v HV.out w5)
  go_wp2_with fail
  refine c6.out.mono ?_
  rintro e w6 ⟨R6, k6, rfl, D, BB⟩
  have H_a6 := Lib.hid (H_a5.out.below BB)
  have H_c6 := Lib.hid (H_c5.out.below BB)
  have H_d6 := Lib.hid (H_d5.out.below BB)
  have HB6 := Lib.hid (HB5.out.trans (BB.mono HB5.out.size))
  clear H_a5 H_c5 H_d5 HB5
  obtain ⟨l6, hl⟩ : ∃ l, l = (dg v).length := ⟨_, rfl⟩
  rw [← hl] at D ⊢
  have L_o := Lib.hid hl
  have H_o6 := Lib.hid D
  clear c6 BB D hl
  have c7 := Lib.hid (refOf_any v HV.out w6)
  go_wp2_with fail
  refine c7.out.mono ?_
  rintro e w7 ⟨R7, k7, rfl, D, BB⟩
  have H_a7 := Lib.hid (H_a6.out.below BB)
  have H_c7 := Lib.hid (H_c6.out.below BB)
  have H_d7 := Lib.hid (H_d6.out.below BB)
  have H_o7 := Lib.hid (H_o6.out.below BB)
  have HB7 := Lib.hid (HB6.out.trans (BB.mono HB6.out.size))
  clear H_a6 H_c6 H_d6 H_o6 HB6
  obtain ⟨l7, hl⟩ : ∃ l, l = (dg v).length := ⟨_, rfl⟩
  rw [← hl] at D ⊢
  have L_p := Lib.hid hl
  have H_p7 := Lib.hid D
  clear c7 BB D hl
  have c8 := Lib.hid (same_any R6 l6 k6 (dg v) R7 l7 k7 (dg v) w7 H_o7.out H_p7.out (by have := L_o.out; have := HVL.out; omega) (by have := L_p.out; have := HVL.out; omega))
  rw [decide_eq_true rfl] at c8
  go_wp2_with fail
  refine c8.out.mono ?_
  rintro e w8 ⟨rfl, BB⟩
  have H_a8 := Lib.hid (H_a7.out.below BB)
  have H_c8 := Lib.hid (H_c7.out.below BB)
  have H_d8 := Lib.hid (H_d7.out.below BB)
  have H_o8 := Lib.hid (H_o7.out.below BB)
  have H_p8 := Lib.hid (H_p7.out.below BB)
  have HB8 := Lib.hid (HB7.out.trans (BB.mono HB7.out.size))
  clear H_a7 H_c7 H_d7 H_o7 H_p7 HB7
  clear c8 BB
  have c9 := Lib.hid (refIs_any A n c xs w8 H_a8.out (by omega))
  rw [HX.out] at c9
  go_wp2_with fail
  refine c9.out.mono ?_
  rintro e v9 ⟨rfl, hw⟩; subst v9
  clear c9
  go_wp2_with fail
  go_ret
  exact ⟨rfl, HB8.out⟩

set_option maxRecDepth 100000 in
set_option maxHeartbeats 8000000 in
theorem texts9_nn (A : Option Addr) (n c : Nat) (xs : List Nat) (L : List UInt8) (v : Nat) (w : World) (hL : L.length ≤ 1400) (hv : v < 18446744073709551616) (h1 : Digs w A n xs) (hn : n ≤ 300) (hx : isN xs = false) (hp : pv L = none) :
    Calls Try.prog 7 #[.slice A n c, .string ⟨L.toArray⟩, .int .u64 (v : Int)] w fun e w' => e = .returned (.bool true) ∧ Below w.heap.size w w' := by
  have dn : decide ((300 : Int) < (n : Int)) = false := by simp; omega
  have dnn : decide (300 < n) = false := by simp; omega
  have dL : decide ((1400 : Int) < (L.length : Int)) = false := by simp; omega
  have HLL : Hid (L.length ≤ 1000000) := show _ ≤ _ by omega
  have HV := Lib.hid hv
  have H_a := Lib.hid h1
  have HVL : Hid ((dg v).length ≤ 4) := (dg_len v 4).2 (Nat.lt_of_lt_of_le hv (by decide))
  have HP := Lib.hid hp
  have HX := Lib.hid hx
  clear h1 hx hL hv hp
  go_enter Try.func7, Try.ntmps7
  have c1 := Lib.hid (awake_any w)
  go_wp2_with fail
  refine c1.out.mono ?_
  rintro e w1 ⟨rfl, BB⟩
  have H_a1 := Lib.hid (H_a.out.below BB)
  have HB1 := Lib.hid BB
  clear H_a
  clear c1 BB
  have c2 := Lib.hid (text_no A n c xs w1 H_a1.out (by omega) HX.out)
  go_wp2_with fail
  refine c2.out.mono ?_
  rintro e v2 ⟨rfl, hw⟩; subst v2
  clear c2
  have c3 := Lib.hid (parse_none HP.out HLL.out w1)
  go_wp2_with fail
  refine c3.out.mono ?_
  rintro e w3 ⟨rfl, BB⟩
  have H_a3 := Lib.hid (H_a1.out.below BB)
  have HB3 := Lib.hid (HB1.out.trans (BB.mono HB1.out.size))
  clear H_a1 HB1
  clear c3 BB
  have c4 := Lib.hid (refParse_none HP.out HLL.out w3)
  go_wp2_with fail
  refine c4.out.mono ?_
  rintro e w4 ⟨R4, l4, k4, rfl, BB⟩
  have H_a4 := Lib.hid (H_a3.out.below BB)
  have HB4 := Lib.hid (HB3.out.trans (BB.mono HB3.out.size))
  clear H_a3 HB3
  clear c4 BB
  have c5 := Lib.hid (same_any none 0 0 [] none 0 0 [] w4 (Digs.none _ _) (Digs.none _ _) (by omega) (by omega))
  rw [decide_eq_true rfl] at c5
  go_wp2_with fail
  refine c5.out.mono ?_
  rintro e w5 ⟨rfl, BB⟩
  have H_a5 := Lib.hid (H_a4.out.below BB)
  have HB5 := Lib.hid (HB4.out.trans (BB.mono HB4.out.size))
  clear H_a4 HB4
  clear c5 BB
  have c6 := Lib.hid (of_any9 v HV.out w5)
  go_wp2_with fail
  refine c6.out.mono ?_
  rintro e w6 ⟨R6, k6, rfl, D, BB⟩
  have H_a6 := Lib.hid (H_a5.out.below BB)
  have HB6 := Lib.hid (HB5.out.trans (BB.mono HB5.out.size))
  clear H_a5 HB5
  obtain ⟨l6, hl⟩ : ∃ l, l = (dg v).length := ⟨_, rfl⟩
  rw [← hl] at D ⊢
  have L_o := Lib.hid hl
  have H_o6 := Lib.hid D
  clear c6 BB D hl
  have c7 := Lib.hid (refOf_any v HV.out w6)
  go_wp2_with fail
  refine c7.out.mono ?_
  rintro e w7 ⟨R7, k7, rfl, D, BB⟩
  have H_a7 := Lib.hid (H_a6.out.below BB)
  have H_o7 := Lib.hid (H_o6.out.below BB)
  have HB7 := Lib.hid (HB6.out.trans (BB.mono HB6.out.size))
  clear H_a6 H_o6 HB6
  obtain ⟨l7, hl⟩ : ∃ l, l = (dg v).length := ⟨_, rfl⟩
  rw [← hl] at D ⊢
  have L_p := Lib.hid hl
  have H_p7 := Lib.hid D
  clear c7 BB D hl
  have c8 := Lib.hid (same_any R6 l6 k6 (dg v) R7 l7 k7 (dg v) w7 H_o7.out H_p7.out (by have := L_o.out; have := HVL.out; omega) (by have := L_p.out; have := HVL.out; omega))
  rw [decide_eq_true rfl] at c8
  go_wp2_with fail
  refine c8.out.mono ?_
  rintro e w8 ⟨rfl, BB⟩
  have H_a8 := Lib.hid (H_a7.out.below BB)
  have H_o8 := Lib.hid (H_o7.out.below BB)
  have H_p8 := Lib.hid (H_p7.out.below BB)
  have HB8 := Lib.hid (HB7.out.trans (BB.mono HB7.out.size))
  clear H_a7 H_o7 H_p7 HB7
  clear c8 BB
  have c9 := Lib.hid (refIs_any A n c xs w8 H_a8.out (by omega))
  rw [HX.out] at c9
  go_wp2_with fail
  refine c9.out.mono ?_
  rintro e v9 ⟨rfl, hw⟩; subst v9
  clear c9
  go_wp2_with fail
  go_ret
  exact ⟨rfl, HB8.out⟩

set_option maxHeartbeats 4000000 in
theorem texts9_walk (A : Option Addr) (n c : Nat) (xs : List Nat) (s : ByteArray) (v : Int) (w : World) (h1 : Digs w A n xs) (hv0 : 0 ≤ v) (hv1 : v ≤ 18446744073709551615) :
    Calls Try.prog 7 #[.slice A n c, .string s, .int .u64 v] w fun e w' => e = .returned (.bool true) ∧ Below w.heap.size w w' := by
  obtain ⟨L, rfl⟩ : ∃ L : List UInt8, s = ⟨L.toArray⟩ := ⟨s.data.toList, by cases s; simp⟩
  obtain ⟨v, rfl⟩ : ∃ m : Nat, v = (m : Int) := ⟨v.toNat, by omega⟩
  by_cases t0 : 300 < n
  · have d0 : decide ((300 : Int) < (n : Int)) = true := by simp; omega
    have HA := Lib.hid (awake_any w)
    clear h1 t0 hv0 hv1
    go_enter Try.func7, Try.ntmps7
    go_wp2_with fail
    refine HA.out.mono ?_
    rintro e w1 ⟨rfl, B1⟩
    have HB := Lib.hid B1
    clear B1 HA
    go_wp2_with fail
    go_ret
    exact ⟨rfl, HB.out⟩
  by_cases t1 : 1400 < L.length
  · have d0 : decide ((300 : Int) < (n : Int)) = false := by simp; omega
    have d1 : decide ((1400 : Int) < (L.length : Int)) = true := by simp; omega
    have HA := Lib.hid (awake_any w)
    clear h1 t0 hv0 hv1 t1
    go_enter Try.func7, Try.ntmps7
    go_wp2_with fail
    refine HA.out.mono ?_
    rintro e w1 ⟨rfl, B1⟩
    have HB := Lib.hid B1
    clear B1 HA
    go_wp2_with fail
    go_ret
    exact ⟨rfl, HB.out⟩
  by_cases hx : isN xs = true
  · obtain ⟨a, rfl, la⟩ := num_of (k := 256) h1.2.1 h1.1 (by have := (of_decide_eq_true hx).1; have := h1.1; omega) hx
    cases hp : pv L with
    | some x => exact texts9_ys A n c a L v w (by omega) (by omega) h1 la x hp
    | none => exact texts9_yn A n c a L v w (by omega) (by omega) h1 la hp
  · cases hp : pv L with
    | some x => exact texts9_ns A n c xs L v w (by omega) (by omega) h1 (by omega) (eq_false_of_ne_true hx) x hp
    | none => exact texts9_nn A n c xs L v w (by omega) (by omega) h1 (by omega) (eq_false_of_ne_true hx) hp

end Go.Proofs.Ytcejbkmmiklhbaa
