/-
  What Cmp does, of the program and of the document, and cmp's Compare. No condition beyond what each contract says.
-/
import Derived.Test.YtcejbkmmiklhbaaBigB
namespace Go.Proofs.Ytcejbkmmiklhbaa
open Go.RowKit


set_option maxHeartbeats 400000 in
theorem compareNaN_any (x : Nat) (w : World) : Calls Try.prog 49 #[.int .i64 (x : Int)] w fun e w' => e = .returned (.bool false) ∧ w' = w := by
  go_enter Try.func49, Try.ntmps49
  go_wp2_with fail
  go_ret
  exact ⟨by simp, rfl⟩
set_option maxHeartbeats 1000000 in
theorem compare_any (x y : Nat) (w : World) : Calls Try.prog 37 #[.int .i64 (x : Int), .int .i64 (y : Int)] w fun e w' => e = .returned (.int .i64 (cp x y)) ∧ w' = w := by
  have c1 := Lib.hid (compareNaN_any x w)
  have c2 := Lib.hid (compareNaN_any y w)
  rcases Nat.lt_trichotomy x y with h | h | h
  · rw [cp_lt h]
    have d1 := lt_t h
    have d1n := ltn_t h
    clear h
    go_enter Try.func37, Try.ntmps37
    go_wp2_with fail
    refine c1.out.mono ?_
    rintro e v1 ⟨rfl, hw⟩; subst v1
    go_wp2_with fail
    refine c2.out.mono ?_
    rintro e v1 ⟨rfl, hw⟩; subst v1
    go_wp2_with fail
    go_ret
    exact ⟨rfl, rfl⟩
  · subst h
    rw [cp_eq]
    have d1 := lt_f (Nat.le_refl x)
    have d1n := ltn_f (Nat.le_refl x)
    go_enter Try.func37, Try.ntmps37
    go_wp2_with fail
    refine c1.out.mono ?_
    rintro e v1 ⟨rfl, hw⟩; subst v1
    go_wp2_with fail
    refine c2.out.mono ?_
    rintro e v1 ⟨rfl, hw⟩; subst v1
    go_wp2_with fail
    go_ret
    exact ⟨rfl, rfl⟩
  · rw [cp_gt h]
    have d1 := lt_f (Nat.le_of_lt h)
    have d1n := ltn_f (Nat.le_of_lt h)
    have d2 := lt_t h
    have d2n := ltn_t h
    clear h
    go_enter Try.func37, Try.ntmps37
    go_wp2_with fail
    refine c1.out.mono ?_
    rintro e v1 ⟨rfl, hw⟩; subst v1
    go_wp2_with fail
    refine c2.out.mono ?_
    rintro e v1 ⟨rfl, hw⟩; subst v1
    go_wp2_with fail
    go_ret
    exact ⟨rfl, rfl⟩

set_option maxHeartbeats 400000 in
theorem compare16NaN_any (x : Nat) (w : World) : Calls Try.prog 50 #[.int .u16 (x : Int)] w fun e w' => e = .returned (.bool false) ∧ w' = w := by
  go_enter Try.func50, Try.ntmps50
  go_wp2_with fail
  go_ret
  exact ⟨by simp, rfl⟩
set_option maxHeartbeats 1000000 in
theorem compare16_any (x y : Nat) (w : World) : Calls Try.prog 38 #[.int .u16 (x : Int), .int .u16 (y : Int)] w fun e w' => e = .returned (.int .i64 (cp x y)) ∧ w' = w := by
  have c1 := Lib.hid (compare16NaN_any x w)
  have c2 := Lib.hid (compare16NaN_any y w)
  rcases Nat.lt_trichotomy x y with h | h | h
  · rw [cp_lt h]
    have d1 := lt_t h
    have d1n := ltn_t h
    clear h
    go_enter Try.func38, Try.ntmps38
    go_wp2_with fail
    refine c1.out.mono ?_
    rintro e v1 ⟨rfl, hw⟩; subst v1
    go_wp2_with fail
    refine c2.out.mono ?_
    rintro e v1 ⟨rfl, hw⟩; subst v1
    go_wp2_with fail
    go_ret
    exact ⟨rfl, rfl⟩
  · subst h
    rw [cp_eq]
    have d1 := lt_f (Nat.le_refl x)
    have d1n := ltn_f (Nat.le_refl x)
    go_enter Try.func38, Try.ntmps38
    go_wp2_with fail
    refine c1.out.mono ?_
    rintro e v1 ⟨rfl, hw⟩; subst v1
    go_wp2_with fail
    refine c2.out.mono ?_
    rintro e v1 ⟨rfl, hw⟩; subst v1
    go_wp2_with fail
    go_ret
    exact ⟨rfl, rfl⟩
  · rw [cp_gt h]
    have d1 := lt_f (Nat.le_of_lt h)
    have d1n := ltn_f (Nat.le_of_lt h)
    have d2 := lt_t h
    have d2n := ltn_t h
    clear h
    go_enter Try.func38, Try.ntmps38
    go_wp2_with fail
    refine c1.out.mono ?_
    rintro e v1 ⟨rfl, hw⟩; subst v1
    go_wp2_with fail
    refine c2.out.mono ?_
    rintro e v1 ⟨rfl, hw⟩; subst v1
    go_wp2_with fail
    go_ret
    exact ⟨rfl, rfl⟩

theorem is_yes (A : Option Addr) (n c : Nat) (a : Nat) (w : World) (h : Digs w A n (dg a)) (ha : a < top) :
    Calls Try.prog 11 #[.slice A n c] w fun e w' => e = .returned (.bool true) ∧ w' = w := by
  have c := is_any A n c (dg a) w h (by have := h.1; have := top_len ha; omega)
  rw [isN_of, decide_eq_true ha] at c
  exact c
theorem is_val (A : Option Addr) (n c : Nat) (a : Nat) (w : World) (h : Digs w A n (dg a)) (hn : n ≤ 9223372036854775807) :
    Calls Try.prog 11 #[.slice A n c] w fun e w' => e = .returned (.bool (decide (a < top))) ∧ w' = w := by
  have c := is_any A n c (dg a) w h hn
  rw [isN_of] at c
  exact c
theorem is_not (A : Option Addr) (n c : Nat) (xs : List Nat) (w : World) (h : Digs w A n xs) (hn : n ≤ 9223372036854775807) (hi : isN xs = false) :
    Calls Try.prog 11 #[.slice A n c] w fun e w' => e = .returned (.bool false) ∧ w' = w := by
  have c := is_any A n c xs w h hn
  rw [hi] at c
  exact c

/-- Held against each other from the highest digit on: k are left. -/
def CmpAt (w : World) (xs ys : List Nat) (v : Value) (wr : World) : Prop :=
  Below w.heap.size w wr ∧ ∃ k : Nat, k ≤ xs.length ∧ v = .int .i64 ((k : Int) - 1) ∧ xs.drop k = ys.drop k

set_option maxHeartbeats 4000000 in
theorem cmp_yes (A : Option Addr) (n c : Nat) (a : Nat) (B : Option Addr) (m d : Nat) (b : Nat) (w : World) (h1 : Digs w A n (dg a)) (h2 : Digs w B m (dg b)) (ha : a < top) (hb : b < top) :
    Calls Try.prog 14 #[.slice A n c, .slice B m d] w fun e w' => e = .returned (.int .i64 (cp a b)) ∧ Below w.heap.size w w' := by
  obtain ⟨r, hr⟩ : ∃ r, r = cp a b := ⟨_, rfl⟩
  rw [← hr]
  have HR := Lib.hid hr
  have c1 := Lib.hid (is_yes A n c a w h1 ha)
  have c2 := Lib.hid (is_yes B m d b w h2 hb)
  have hn : n ≤ 256 := by have := top_len ha; have := h1.1; omega
  have hm : m ≤ 256 := by have := top_len hb; have := h2.1; omega
  clear ha hb
  have va := Lib.hid (nv_dg a)
  have vb := Lib.hid (nv_dg b)
  have ga := Lib.hid (fun h : (dg a).length < (dg b).length => cmp_len h)
  have gb := Lib.hid (fun h : (dg b).length < (dg a).length => cmp_len h)
  generalize dg a = xs at *
  generalize dg b = ys at *
  have H1 := Lib.hid h1
  have H2 := Lib.hid h2
  have l1 := h1.1
  have l2 := h2.1
  clear hr h1 h2
  by_cases hnm : n = m
  · have d0 := bne_f hnm
    have d0n : (n != m) = false := by simpa using hnm
    have HNm := Lib.hid hnm
    clear hnm
    go_enter Try.func14, Try.ntmps14
    go_wp2_with fail
    refine c1.out.mono ?_
    rintro e v1 ⟨rfl, hw⟩; subst v1
    go_wp2_with fail
    refine c2.out.mono ?_
    rintro e v1 ⟨rfl, hw⟩; subst v1
    go_wp2_with fail
    go_loopw [5] (fun v wr => CmpAt w xs ys v wr) (fun v _ => (intOf v + 1).toNat)
    case atStart => exact ⟨Below.refl _ _, n, by omega, rfl, by rw [List.drop_eq_nil_of_le (by omega), List.drop_eq_nil_of_le (by have := HNm.out; omega)]⟩
    case round =>
      obtain ⟨Br, i, hi, rfl, hal⟩ := hrel
      cases i with
      | zero =>
        have e0 : (((0 : Nat) : Int) - 1) = -1 := by decide
        have HE : Hid (r = 0) := show _ = _ by
          rw [List.drop_zero, List.drop_zero] at hal
          rw [HR.out, ← va.out, ← vb.out, hal, cp_eq]
        rw [e0]
        clear hal
        go_wp2_with fail
        go_ret
        exact ⟨by rw [HE.out]; rfl, Br⟩
      | succ k =>
        have e0 : (((k + 1 : Nat) : Int) - 1) = (k : Int) := by omega
        rw [e0]
        have hkn : k < n := by omega
        have hkm : k < m := by have := HNm.out; omega
        have d1 : decide ((0 : Int) ≤ (k : Int)) = true := by simp
        have k0 : (0 : Int) ≤ (k : Int) := by omega
        have kn : (k : Int) < (n : Int) := by omega
        have km : (k : Int) < (m : Int) := by omega
        obtain ⟨b0, o, rfl, m1, hc⟩ := H1.out.2.2 (by omega)
        obtain ⟨b1, p, rfl, m2, hd⟩ := H2.out.2.2 (by omega)
        have x1 := (Br.cell (p := ⟨b0, o + k, none⟩) m1).trans (hc k hkn)
        have x2 := (Br.cell (p := ⟨b1, p + k, none⟩) m2).trans (hd k hkm)
        clear hc hd m1 m2
        have HKN := Lib.hid hkn
        rcases Nat.lt_trichotomy (xs.getD k 0) (ys.getD k 0) with he | he | he
        · have HE : Hid (r = -1) := show _ = _ by
            rw [HR.out, ← va.out, ← vb.out]
            exact cp_lt (cmp_at H1.out.2.1 (by have := HNm.out; omega) (by omega) hal he)
          have e1 := bne_t (Nat.ne_of_lt he)
          have e2 := lt_t he
          have e2n := ltn_t he
          have e3 := Lib.hid (cp_lt he)
          generalize xs.getD k 0 = x at *
          generalize ys.getD k 0 = y at *
          clear he hal e0 hkn hkm
          go_wp2_with fail
          go_quiet (fail)
          have BD : Below w.heap.size w (wr.drewN nq) := drawn_below Br _
          have y1 : (wr.drewN nq).cell? ⟨b0, o + k, none⟩ = some (.int .u16 (x : Int)) := x1
          have y2 : (wr.drewN nq).cell? ⟨b1, p + k, none⟩ = some (.int .u16 (y : Int)) := x2
          generalize wr.drewN nq = wd at *
          clear x1 x2
          go_wp2_with fail
          go_quiet (first | (go_at_call 38; exact Calls.quiet_of_same (compare16_any _ _ _)))
          have BE := Lib.hid (drawn_below BD nq)
          generalize wd.drewN nq = we at *
          go_wp2_with fail
          go_ret
          exact ⟨by rw [HE.out]; show Ending.returned (.int .i64 (cp x y)) = _; rw [e3.out], BE.out⟩
        · have HA2 : Hid (xs.drop k = ys.drop k) := show _ = _ by
            rw [List.drop_eq_getElem_cons (show k < xs.length by omega), List.drop_eq_getElem_cons (show k < ys.length by omega), hal]
            have h3 : k < xs.length := by omega
            have h4 : k < ys.length := by omega
            simp only [List.getD, List.getElem?_eq_getElem h3, List.getElem?_eq_getElem h4, Option.getD_some] at he
            rw [he]
          have e1 := bne_f he
          generalize xs.getD k 0 = x at *
          generalize ys.getD k 0 = y at *
          clear he hal e0 hkn hkm
          go_wp2_with fail
          go_quiet (fail)
          have BD : Below w.heap.size w (wr.drewN nq) := drawn_below Br _
          generalize wr.drewN nq = wd at *
          go_wp2_with fail
          go_roundw
          case rel => exact ⟨BD, k, by have := HKN.out; omega, by first | rfl | exact ret_val (by omega), HA2.out⟩
          case measure => simp [intOf]
        · have HE : Hid (r = 1) := show _ = _ by
            rw [HR.out, ← va.out, ← vb.out]
            exact cp_gt (cmp_at H2.out.2.1 (by have := HNm.out; omega) (by omega) hal.symm he)
          have e1 := bne_t (Nat.ne_of_gt he)
          have e2 := lt_f (Nat.le_of_lt he)
          have e2n := ltn_f (Nat.le_of_lt he)
          have e3 := Lib.hid (cp_gt he)
          generalize xs.getD k 0 = x at *
          generalize ys.getD k 0 = y at *
          clear he hal e0 hkn hkm
          go_wp2_with fail
          go_quiet (fail)
          have BD : Below w.heap.size w (wr.drewN nq) := drawn_below Br _
          have y1 : (wr.drewN nq).cell? ⟨b0, o + k, none⟩ = some (.int .u16 (x : Int)) := x1
          have y2 : (wr.drewN nq).cell? ⟨b1, p + k, none⟩ = some (.int .u16 (y : Int)) := x2
          generalize wr.drewN nq = wd at *
          clear x1 x2
          go_wp2_with fail
          go_quiet (first | (go_at_call 38; exact Calls.quiet_of_same (compare16_any _ _ _)))
          have BE := Lib.hid (drawn_below BD nq)
          generalize wd.drewN nq = we at *
          go_wp2_with fail
          go_ret
          exact ⟨by rw [HE.out]; show Ending.returned (.int .i64 (cp x y)) = _; rw [e3.out], BE.out⟩
  · have d0 := bne_t hnm
    have d0n : (n != m) = true := by simpa using hnm
    rcases Nat.lt_or_ge n m with h | h
    · have HE : Hid (r = -1) := show _ = _ by rw [HR.out]; exact cp_lt (ga.out (by omega))
      have d1 := lt_t h
      have d1n := ltn_t h
      have e3 := Lib.hid (cp_lt h)
      clear hnm
      have c3 := Lib.hid (compare_any n m w)
      go_enter Try.func14, Try.ntmps14
      go_wp2_with fail
      refine c1.out.mono ?_
      rintro e v1 ⟨rfl, hw⟩; subst v1
      go_wp2_with fail
      refine c2.out.mono ?_
      rintro e v1 ⟨rfl, hw⟩; subst v1
      go_wp2_with fail
      refine c3.out.mono ?_
      rintro e v1 ⟨rfl, hw⟩; subst v1
      go_wp2_with fail
      go_ret
      exact ⟨by rw [HE.out]; show Ending.returned (.int .i64 (cp n m)) = _; rw [e3.out], Below.refl _ _⟩
    · have HE : Hid (r = 1) := show _ = _ by rw [HR.out]; exact cp_gt (gb.out (by omega))
      have d1 := lt_f h
      have d1n := ltn_f h
      have e3 := Lib.hid (cp_gt (show m < n by omega))
      clear hnm
      have c3 := Lib.hid (compare_any n m w)
      go_enter Try.func14, Try.ntmps14
      go_wp2_with fail
      refine c1.out.mono ?_
      rintro e v1 ⟨rfl, hw⟩; subst v1
      go_wp2_with fail
      refine c2.out.mono ?_
      rintro e v1 ⟨rfl, hw⟩; subst v1
      go_wp2_with fail
      refine c3.out.mono ?_
      rintro e v1 ⟨rfl, hw⟩; subst v1
      go_wp2_with fail
      go_ret
      exact ⟨by rw [HE.out]; show Ending.returned (.int .i64 (cp n m)) = _; rw [e3.out], Below.refl _ _⟩
set_option maxHeartbeats 4000000 in
theorem refCmp_any (A : Option Addr) (n c : Nat) (a : Nat) (B : Option Addr) (m d : Nat) (b : Nat) (w : World) (h1 : Digs w A n (dg a)) (h2 : Digs w B m (dg b)) (hn : n ≤ 1000000000) (hm : m ≤ 1000000000) :
    Calls Try.prog 15 #[.slice A n c, .slice B m d] w fun e w' => e = .returned (.int .i64 (cp a b)) ∧ Below w.heap.size w w' := by
  obtain ⟨r, hr⟩ : ∃ r, r = cp a b := ⟨_, rfl⟩
  rw [← hr]
  have HR := Lib.hid hr
  have va := Lib.hid (nv_dg a)
  have vb := Lib.hid (nv_dg b)
  have ga := Lib.hid (fun h : (dg a).length < (dg b).length => cmp_len h)
  have gb := Lib.hid (fun h : (dg b).length < (dg a).length => cmp_len h)
  generalize dg a = xs at *
  generalize dg b = ys at *
  have H1 := Lib.hid h1
  have H2 := Lib.hid h2
  have l1 := h1.1
  have l2 := h2.1
  clear hr h1 h2
  by_cases hnm : n = m
  · have d0 := bne_f hnm
    have d0n : (n != m) = false := by simpa using hnm
    have HNm := Lib.hid hnm
    clear hnm
    go_enter Try.func15, Try.ntmps15
    go_wp2_with fail
    go_loopw [5] (fun v wr => CmpAt w xs ys v wr) (fun v _ => (intOf v + 1).toNat)
    case atStart => exact ⟨Below.refl _ _, n, by omega, rfl, by rw [List.drop_eq_nil_of_le (by omega), List.drop_eq_nil_of_le (by have := HNm.out; omega)]⟩
    case round =>
      obtain ⟨Br, i, hi, rfl, hal⟩ := hrel
      cases i with
      | zero =>
        have e0 : (((0 : Nat) : Int) - 1) = -1 := by decide
        have HE : Hid (r = 0) := show _ = _ by
          rw [List.drop_zero, List.drop_zero] at hal
          rw [HR.out, ← va.out, ← vb.out, hal, cp_eq]
        rw [e0]
        clear hal
        go_wp2_with fail
        go_ret
        exact ⟨by rw [HE.out]; rfl, Br⟩
      | succ k =>
        have e0 : (((k + 1 : Nat) : Int) - 1) = (k : Int) := by omega
        rw [e0]
        have hkn : k < n := by omega
        have hkm : k < m := by have := HNm.out; omega
        have d1 : decide ((0 : Int) ≤ (k : Int)) = true := by simp
        have k0 : (0 : Int) ≤ (k : Int) := by omega
        have kn : (k : Int) < (n : Int) := by omega
        have km : (k : Int) < (m : Int) := by omega
        obtain ⟨b0, o, rfl, m1, hc⟩ := H1.out.2.2 (by omega)
        obtain ⟨b1, p, rfl, m2, hd⟩ := H2.out.2.2 (by omega)
        have x1 := (Br.cell (p := ⟨b0, o + k, none⟩) m1).trans (hc k hkn)
        have x2 := (Br.cell (p := ⟨b1, p + k, none⟩) m2).trans (hd k hkm)
        clear hc hd m1 m2
        have HKN := Lib.hid hkn
        rcases Nat.lt_trichotomy (xs.getD k 0) (ys.getD k 0) with he | he | he
        · have HE : Hid (r = -1) := show _ = _ by
            rw [HR.out, ← va.out, ← vb.out]
            exact cp_lt (cmp_at H1.out.2.1 (by have := HNm.out; omega) (by omega) hal he)
          have e1 := bne_t (Nat.ne_of_lt he)
          have e2 := lt_t he
          have e2n := ltn_t he
          have e3 := Lib.hid (cp_lt he)
          generalize xs.getD k 0 = x at *
          generalize ys.getD k 0 = y at *
          clear he hal e0 hkn hkm
          go_wp2_with fail
          go_quiet (fail)
          have BD : Below w.heap.size w (wr.drewN nq) := drawn_below Br _
          have y1 : (wr.drewN nq).cell? ⟨b0, o + k, none⟩ = some (.int .u16 (x : Int)) := x1
          have y2 : (wr.drewN nq).cell? ⟨b1, p + k, none⟩ = some (.int .u16 (y : Int)) := x2
          generalize wr.drewN nq = wd at *
          clear x1 x2
          go_wp2_with fail
          go_quiet (fail)
          have BE := Lib.hid (drawn_below BD nq)
          generalize wd.drewN nq = we at *
          go_wp2_with fail
          go_ret
          exact ⟨by rw [HE.out]; rfl, BE.out⟩
        · have HA2 : Hid (xs.drop k = ys.drop k) := show _ = _ by
            rw [List.drop_eq_getElem_cons (show k < xs.length by omega), List.drop_eq_getElem_cons (show k < ys.length by omega), hal]
            have h3 : k < xs.length := by omega
            have h4 : k < ys.length := by omega
            simp only [List.getD, List.getElem?_eq_getElem h3, List.getElem?_eq_getElem h4, Option.getD_some] at he
            rw [he]
          have e1 := bne_f he
          generalize xs.getD k 0 = x at *
          generalize ys.getD k 0 = y at *
          clear he hal e0 hkn hkm
          go_wp2_with fail
          go_quiet (fail)
          have BD : Below w.heap.size w (wr.drewN nq) := drawn_below Br _
          generalize wr.drewN nq = wd at *
          go_wp2_with fail
          go_roundw
          case rel => exact ⟨BD, k, by have := HKN.out; omega, by first | rfl | exact ret_val (by omega), HA2.out⟩
          case measure => simp [intOf]
        · have HE : Hid (r = 1) := show _ = _ by
            rw [HR.out, ← va.out, ← vb.out]
            exact cp_gt (cmp_at H2.out.2.1 (by have := HNm.out; omega) (by omega) hal.symm he)
          have e1 := bne_t (Nat.ne_of_gt he)
          have e2 := lt_f (Nat.le_of_lt he)
          have e2n := ltn_f (Nat.le_of_lt he)
          have e3 := Lib.hid (cp_gt he)
          generalize xs.getD k 0 = x at *
          generalize ys.getD k 0 = y at *
          clear he hal e0 hkn hkm
          go_wp2_with fail
          go_quiet (fail)
          have BD : Below w.heap.size w (wr.drewN nq) := drawn_below Br _
          have y1 : (wr.drewN nq).cell? ⟨b0, o + k, none⟩ = some (.int .u16 (x : Int)) := x1
          have y2 : (wr.drewN nq).cell? ⟨b1, p + k, none⟩ = some (.int .u16 (y : Int)) := x2
          generalize wr.drewN nq = wd at *
          clear x1 x2
          go_wp2_with fail
          go_quiet (fail)
          have BE := Lib.hid (drawn_below BD nq)
          generalize wd.drewN nq = we at *
          go_wp2_with fail
          go_ret
          exact ⟨by rw [HE.out]; rfl, BE.out⟩
  · have d0 := bne_t hnm
    have d0n : (n != m) = true := by simpa using hnm
    rcases Nat.lt_or_ge n m with h | h
    · have HE : Hid (r = -1) := show _ = _ by rw [HR.out]; exact cp_lt (ga.out (by omega))
      have d1 := lt_t h
      have d1n := ltn_t h
      have e3 := Lib.hid (cp_lt h)
      clear hnm
      go_enter Try.func15, Try.ntmps15
      go_wp2_with fail
      go_ret
      exact ⟨by rw [HE.out]; rfl, Below.refl _ _⟩
    · have HE : Hid (r = 1) := show _ = _ by rw [HR.out]; exact cp_gt (gb.out (by omega))
      have d1 := lt_f h
      have d1n := ltn_f h
      have e3 := Lib.hid (cp_gt (show m < n by omega))
      clear hnm
      go_enter Try.func15, Try.ntmps15
      go_wp2_with fail
      go_ret
      exact ⟨by rw [HE.out]; rfl, Below.refl _ _⟩

set_option maxHeartbeats 1000000 in
theorem cmp_no (A : Option Addr) (n c : Nat) (xs : List Nat) (B : Option Addr) (m d : Nat) (ys : List Nat) (w : World) (h1 : Digs w A n xs) (h2 : Digs w B m ys) (hn : n ≤ 1000000000) (hm : m ≤ 1000000000) (hi : isN xs = false ∨ isN ys = false) :
    Calls Try.prog 14 #[.slice A n c, .slice B m d] w fun e w' => e = .returned (.int .i64 0) ∧ w' = w := by
  have c1 := Lib.hid (is_any A n c xs w h1 (by omega))
  have c2 := Lib.hid (is_any B m d ys w h2 (by omega))
  by_cases hx : isN xs = false
  · rw [hx] at c1
    clear hi hx c2
    go_enter Try.func14, Try.ntmps14
    go_wp2_with fail
    refine c1.out.mono ?_
    rintro e v1 ⟨rfl, hw⟩; subst v1
    go_wp2_with fail
    go_ret
    exact ⟨rfl, rfl⟩
  · have hy : isN ys = false := by rcases hi with h | h; exact absurd h hx; exact h
    rw [eq_true_of_ne_false hx] at c1
    rw [hy] at c2
    clear hi hx hy
    go_enter Try.func14, Try.ntmps14
    go_wp2_with fail
    refine c1.out.mono ?_
    rintro e v1 ⟨rfl, hw⟩; subst v1
    go_wp2_with fail
    refine c2.out.mono ?_
    rintro e v1 ⟨rfl, hw⟩; subst v1
    go_wp2_with fail
    go_ret
    exact ⟨rfl, rfl⟩

end Go.Proofs.Ytcejbkmmiklhbaa
