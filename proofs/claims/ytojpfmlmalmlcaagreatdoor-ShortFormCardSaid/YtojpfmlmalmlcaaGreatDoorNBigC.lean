/-
  What Cmp does, of the program and of the document, and cmp's Compare. No condition beyond what each contract says.
  What carried does. No condition beyond what each contract says.
-/
import Derived.Test.YtojpfmlmalmlcaaGreatDoorNBigA
namespace Go.Proofs.YtojpfmlmalmlcaaGreatDoor.G
open Go.RowKit
set_option maxHeartbeats 400000 in
theorem compareNaN_any (x : Nat) (w : World) : Calls Tryz.prog 124 #[.int .i64 (x : Int)] w fun e w' => e = .returned (.bool false) ∧ w' = w := by
  go_enter Tryz.func124, Tryz.ntmps124
  go_wp2_with fail
  go_ret
  exact ⟨by simp, rfl⟩
set_option maxHeartbeats 1000000 in
theorem compare_any (x y : Nat) (w : World) : Calls Tryz.prog 93 #[.int .i64 (x : Int), .int .i64 (y : Int)] w fun e w' => e = .returned (.int .i64 (cp x y)) ∧ w' = w := by
  have c1 := Lib.hid (compareNaN_any x w)
  have c2 := Lib.hid (compareNaN_any y w)
  rcases Nat.lt_trichotomy x y with h | h | h
  · rw [cp_lt h]
    have d1 := lt_t h
    have d1n := ltn_t h
    clear h
    go_enter Tryz.func93, Tryz.ntmps93
    go_wp2_with fail
    refine c1.out.mono ?_
    rintro e v1 ⟨rfl, hw⟩; subst v1
    go_wp2_with fail
    refine c2.out.mono ?_
    rintro e v1 ⟨rfl, hw⟩; subst v1
    go_wp2_with fail
    go_ret
    exact ⟨rfl, rfl⟩
  · subst h
    rw [cp_eq]
    have d1 := lt_f (Nat.le_refl x)
    have d1n := ltn_f (Nat.le_refl x)
    go_enter Tryz.func93, Tryz.ntmps93
    go_wp2_with fail
    refine c1.out.mono ?_
    rintro e v1 ⟨rfl, hw⟩; subst v1
    go_wp2_with fail
    refine c2.out.mono ?_
    rintro e v1 ⟨rfl, hw⟩; subst v1
    go_wp2_with fail
    go_ret
    exact ⟨rfl, rfl⟩
  · rw [cp_gt h]
    have d1 := lt_f (Nat.le_of_lt h)
    have d1n := ltn_f (Nat.le_of_lt h)
    have d2 := lt_t h
    have d2n := ltn_t h
    clear h
    go_enter Tryz.func93, Tryz.ntmps93
    go_wp2_with fail
    refine c1.out.mono ?_
    rintro e v1 ⟨rfl, hw⟩; subst v1
    go_wp2_with fail
    refine c2.out.mono ?_
    rintro e v1 ⟨rfl, hw⟩; subst v1
    go_wp2_with fail
    go_ret
    exact ⟨rfl, rfl⟩
set_option maxHeartbeats 400000 in
theorem compare16NaN_any (x : Nat) (w : World) : Calls Tryz.prog 125 #[.int .u16 (x : Int)] w fun e w' => e = .returned (.bool false) ∧ w' = w := by
  go_enter Tryz.func125, Tryz.ntmps125
  go_wp2_with fail
  go_ret
  exact ⟨by simp, rfl⟩
set_option maxHeartbeats 1000000 in
theorem compare16_any (x y : Nat) (w : World) : Calls Tryz.prog 94 #[.int .u16 (x : Int), .int .u16 (y : Int)] w fun e w' => e = .returned (.int .i64 (cp x y)) ∧ w' = w := by
  have c1 := Lib.hid (compare16NaN_any x w)
  have c2 := Lib.hid (compare16NaN_any y w)
  rcases Nat.lt_trichotomy x y with h | h | h
  · rw [cp_lt h]
    have d1 := lt_t h
    have d1n := ltn_t h
    clear h
    go_enter Tryz.func94, Tryz.ntmps94
    go_wp2_with fail
    refine c1.out.mono ?_
    rintro e v1 ⟨rfl, hw⟩; subst v1
    go_wp2_with fail
    refine c2.out.mono ?_
    rintro e v1 ⟨rfl, hw⟩; subst v1
    go_wp2_with fail
    go_ret
    exact ⟨rfl, rfl⟩
  · subst h
    rw [cp_eq]
    have d1 := lt_f (Nat.le_refl x)
    have d1n := ltn_f (Nat.le_refl x)
    go_enter Tryz.func94, Tryz.ntmps94
    go_wp2_with fail
    refine c1.out.mono ?_
    rintro e v1 ⟨rfl, hw⟩; subst v1
    go_wp2_with fail
    refine c2.out.mono ?_
    rintro e v1 ⟨rfl, hw⟩; subst v1
    go_wp2_with fail
    go_ret
    exact ⟨rfl, rfl⟩
  · rw [cp_gt h]
    have d1 := lt_f (Nat.le_of_lt h)
    have d1n := ltn_f (Nat.le_of_lt h)
    have d2 := lt_t h
    have d2n := ltn_t h
    clear h
    go_enter Tryz.func94, Tryz.ntmps94
    go_wp2_with fail
    refine c1.out.mono ?_
    rintro e v1 ⟨rfl, hw⟩; subst v1
    go_wp2_with fail
    refine c2.out.mono ?_
    rintro e v1 ⟨rfl, hw⟩; subst v1
    go_wp2_with fail
    go_ret
    exact ⟨rfl, rfl⟩
theorem is_yes (A : Option Addr) (n c : Nat) (a : Nat) (w : World) (h : Digs w A n (dg a)) (ha : a < top) :
    Calls Tryz.prog 72 #[.slice A n c] w fun e w' => e = .returned (.bool true) ∧ w' = w := by
  have c := is_any A n c (dg a) w h (by have := h.1; have := top_len ha; omega)
  rw [isN_of, decide_eq_true ha] at c
  exact c
theorem is_val (A : Option Addr) (n c : Nat) (a : Nat) (w : World) (h : Digs w A n (dg a)) (hn : n ≤ 9223372036854775807) :
    Calls Tryz.prog 72 #[.slice A n c] w fun e w' => e = .returned (.bool (decide (a < top))) ∧ w' = w := by
  have c := is_any A n c (dg a) w h hn
  rw [isN_of] at c
  exact c
theorem is_not (A : Option Addr) (n c : Nat) (xs : List Nat) (w : World) (h : Digs w A n xs) (hn : n ≤ 9223372036854775807) (hi : isN xs = false) :
    Calls Tryz.prog 72 #[.slice A n c] w fun e w' => e = .returned (.bool false) ∧ w' = w := by
  have c := is_any A n c xs w h hn
  rw [hi] at c
  exact c
/-- Held against each other from the highest digit on: k are left. -/
def CmpAt (w : World) (xs ys : List Nat) (v : Value) (wr : World) : Prop :=
  Below w.heap.size w wr ∧ ∃ k : Nat, k ≤ xs.length ∧ v = .int .i64 ((k : Int) - 1) ∧ xs.drop k = ys.drop k
set_option maxHeartbeats 4000000 in
theorem cmp_yes (A : Option Addr) (n c : Nat) (a : Nat) (B : Option Addr) (m d : Nat) (b : Nat) (w : World) (h1 : Digs w A n (dg a)) (h2 : Digs w B m (dg b)) (ha : a < top) (hb : b < top) :
    Calls Tryz.prog 66 #[.slice A n c, .slice B m d] w fun e w' => e = .returned (.int .i64 (cp a b)) ∧ Below w.heap.size w w' := by
  obtain ⟨r, hr⟩ : ∃ r, r = cp a b := ⟨_, rfl⟩
  rw [← hr]
  have HR := Lib.hid hr
  have c1 := Lib.hid (is_yes A n c a w h1 ha)
  have c2 := Lib.hid (is_yes B m d b w h2 hb)
  have hn : n ≤ 256 := by have := top_len ha; have := h1.1; omega
  have hm : m ≤ 256 := by have := top_len hb; have := h2.1; omega
  clear ha hb
  have va := Lib.hid (nv_dg a)
  have vb := Lib.hid (nv_dg b)
  have ga := Lib.hid (fun h : (dg a).length < (dg b).length => cmp_len h)
  have gb := Lib.hid (fun h : (dg b).length < (dg a).length => cmp_len h)
  generalize dg a = xs at *
  generalize dg b = ys at *
  have H1 := Lib.hid h1
  have H2 := Lib.hid h2
  have l1 := h1.1
  have l2 := h2.1
  clear hr h1 h2
  by_cases hnm : n = m
  · have d0 := bne_f hnm
    have d0n : (n != m) = false := by simpa using hnm
    have HNm := Lib.hid hnm
    clear hnm
    go_enter Tryz.func66, Tryz.ntmps66
    go_wp2_with fail
    refine c1.out.mono ?_
    rintro e v1 ⟨rfl, hw⟩; subst v1
    go_wp2_with fail
    refine c2.out.mono ?_
    rintro e v1 ⟨rfl, hw⟩; subst v1
    go_wp2_with fail
    go_loopw [5] (fun v wr => CmpAt w xs ys v wr) (fun v _ => (intOf v + 1).toNat)
    case atStart => exact ⟨Below.refl _ _, n, by omega, rfl, by rw [List.drop_eq_nil_of_le (by omega), List.drop_eq_nil_of_le (by have := HNm.out; omega)]⟩
    case round =>
      obtain ⟨Br, i, hi, rfl, hal⟩ := hrel
      cases i with
      | zero =>
        have e0 : (((0 : Nat) : Int) - 1) = -1 := by decide
        have HE : Hid (r = 0) := show _ = _ by
          rw [List.drop_zero, List.drop_zero] at hal
          rw [HR.out, ← va.out, ← vb.out, hal, cp_eq]
        rw [e0]
        clear hal
        go_wp2_with fail
        go_ret
        exact ⟨by rw [HE.out]; rfl, Br⟩
      | succ k =>
        have e0 : (((k + 1 : Nat) : Int) - 1) = (k : Int) := by omega
        rw [e0]
        have hkn : k < n := by omega
        have hkm : k < m := by have := HNm.out; omega
        have d1 : decide ((0 : Int) ≤ (k : Int)) = true := by simp
        have k0 : (0 : Int) ≤ (k : Int) := by omega
        have kn : (k : Int) < (n : Int) := by omega
        have km : (k : Int) < (m : Int) := by omega
        obtain ⟨b0, o, rfl, m1, hc⟩ := H1.out.2.2 (by omega)
        obtain ⟨b1, p, rfl, m2, hd⟩ := H2.out.2.2 (by omega)
        have x1 := (Br.cell (p := ⟨b0, o + k, none⟩) m1).trans (hc k hkn)
        have x2 := (Br.cell (p := ⟨b1, p + k, none⟩) m2).trans (hd k hkm)
        clear hc hd m1 m2
        have HKN := Lib.hid hkn
        rcases Nat.lt_trichotomy (xs.getD k 0) (ys.getD k 0) with he | he | he
        · have HE : Hid (r = -1) := show _ = _ by
            rw [HR.out, ← va.out, ← vb.out]
            exact cp_lt (cmp_at H1.out.2.1 (by have := HNm.out; omega) (by omega) hal he)
          have e1 := bne_t (Nat.ne_of_lt he)
          have e2 := lt_t he
          have e2n := ltn_t he
          have e3 := Lib.hid (cp_lt he)
          generalize xs.getD k 0 = x at *
          generalize ys.getD k 0 = y at *
          clear he hal e0 hkn hkm
          go_wp2_with fail
          go_quiet (fail)
          have BD : Below w.heap.size w (wr.drewN nq) := drawn_below Br _
          have y1 : (wr.drewN nq).cell? ⟨b0, o + k, none⟩ = some (.int .u16 (x : Int)) := x1
          have y2 : (wr.drewN nq).cell? ⟨b1, p + k, none⟩ = some (.int .u16 (y : Int)) := x2
          generalize wr.drewN nq = wd at *
          clear x1 x2
          go_wp2_with fail
          go_quiet (first | (go_at_call 94; exact Calls.quiet_of_same (compare16_any _ _ _)))
          have BE := Lib.hid (drawn_below BD nq)
          generalize wd.drewN nq = we at *
          go_wp2_with fail
          go_ret
          exact ⟨by rw [HE.out]; show Ending.returned (.int .i64 (cp x y)) = _; rw [e3.out], BE.out⟩
        · have HA2 : Hid (xs.drop k = ys.drop k) := show _ = _ by
            rw [List.drop_eq_getElem_cons (show k < xs.length by omega), List.drop_eq_getElem_cons (show k < ys.length by omega), hal]
            have h3 : k < xs.length := by omega
            have h4 : k < ys.length := by omega
            simp only [List.getD, List.getElem?_eq_getElem h3, List.getElem?_eq_getElem h4, Option.getD_some] at he
            rw [he]
          have e1 := bne_f he
          generalize xs.getD k 0 = x at *
          generalize ys.getD k 0 = y at *
          clear he hal e0 hkn hkm
          go_wp2_with fail
          go_quiet (fail)
          have BD : Below w.heap.size w (wr.drewN nq) := drawn_below Br _
          generalize wr.drewN nq = wd at *
          go_wp2_with fail
          go_roundw
          case rel => exact ⟨BD, k, by have := HKN.out; omega, by first | rfl | exact ret_val (by omega), HA2.out⟩
          case measure => simp [intOf]
        · have HE : Hid (r = 1) := show _ = _ by
            rw [HR.out, ← va.out, ← vb.out]
            exact cp_gt (cmp_at H2.out.2.1 (by have := HNm.out; omega) (by omega) hal.symm he)
          have e1 := bne_t (Nat.ne_of_gt he)
          have e2 := lt_f (Nat.le_of_lt he)
          have e2n := ltn_f (Nat.le_of_lt he)
          have e3 := Lib.hid (cp_gt he)
          generalize xs.getD k 0 = x at *
          generalize ys.getD k 0 = y at *
          clear he hal e0 hkn hkm
          go_wp2_with fail
          go_quiet (fail)
          have BD : Below w.heap.size w (wr.drewN nq) := drawn_below Br _
          have y1 : (wr.drewN nq).cell? ⟨b0, o + k, none⟩ = some (.int .u16 (x : Int)) := x1
          have y2 : (wr.drewN nq).cell? ⟨b1, p + k, none⟩ = some (.int .u16 (y : Int)) := x2
          generalize wr.drewN nq = wd at *
          clear x1 x2
          go_wp2_with fail
          go_quiet (first | (go_at_call 94; exact Calls.quiet_of_same (compare16_any _ _ _)))
          have BE := Lib.hid (drawn_below BD nq)
          generalize wd.drewN nq = we at *
          go_wp2_with fail
          go_ret
          exact ⟨by rw [HE.out]; show Ending.returned (.int .i64 (cp x y)) = _; rw [e3.out], BE.out⟩
  · have d0 := bne_t hnm
    have d0n : (n != m) = true := by simpa using hnm
    rcases Nat.lt_or_ge n m with h | h
    · have HE : Hid (r = -1) := show _ = _ by rw [HR.out]; exact cp_lt (ga.out (by omega))
      have d1 := lt_t h
      have d1n := ltn_t h
      have e3 := Lib.hid (cp_lt h)
      clear hnm
      have c3 := Lib.hid (compare_any n m w)
      go_enter Tryz.func66, Tryz.ntmps66
      go_wp2_with fail
      refine c1.out.mono ?_
      rintro e v1 ⟨rfl, hw⟩; subst v1
      go_wp2_with fail
      refine c2.out.mono ?_
      rintro e v1 ⟨rfl, hw⟩; subst v1
      go_wp2_with fail
      refine c3.out.mono ?_
      rintro e v1 ⟨rfl, hw⟩; subst v1
      go_wp2_with fail
      go_ret
      exact ⟨by rw [HE.out]; show Ending.returned (.int .i64 (cp n m)) = _; rw [e3.out], Below.refl _ _⟩
    · have HE : Hid (r = 1) := show _ = _ by rw [HR.out]; exact cp_gt (gb.out (by omega))
      have d1 := lt_f h
      have d1n := ltn_f h
      have e3 := Lib.hid (cp_gt (show m < n by omega))
      clear hnm
      have c3 := Lib.hid (compare_any n m w)
      go_enter Tryz.func66, Tryz.ntmps66
      go_wp2_with fail
      refine c1.out.mono ?_
      rintro e v1 ⟨rfl, hw⟩; subst v1
      go_wp2_with fail
      refine c2.out.mono ?_
      rintro e v1 ⟨rfl, hw⟩; subst v1
      go_wp2_with fail
      refine c3.out.mono ?_
      rintro e v1 ⟨rfl, hw⟩; subst v1
      go_wp2_with fail
      go_ret
      exact ⟨by rw [HE.out]; show Ending.returned (.int .i64 (cp n m)) = _; rw [e3.out], Below.refl _ _⟩
set_option maxHeartbeats 1000000 in
theorem cmp_no (A : Option Addr) (n c : Nat) (xs : List Nat) (B : Option Addr) (m d : Nat) (ys : List Nat) (w : World) (h1 : Digs w A n xs) (h2 : Digs w B m ys) (hn : n ≤ 1000000000) (hm : m ≤ 1000000000) (hi : isN xs = false ∨ isN ys = false) :
    Calls Tryz.prog 66 #[.slice A n c, .slice B m d] w fun e w' => e = .returned (.int .i64 0) ∧ w' = w := by
  have c1 := Lib.hid (is_any A n c xs w h1 (by omega))
  have c2 := Lib.hid (is_any B m d ys w h2 (by omega))
  by_cases hx : isN xs = false
  · rw [hx] at c1
    clear hi hx c2
    go_enter Tryz.func66, Tryz.ntmps66
    go_wp2_with fail
    refine c1.out.mono ?_
    rintro e v1 ⟨rfl, hw⟩; subst v1
    go_wp2_with fail
    go_ret
    exact ⟨rfl, rfl⟩
  · have hy : isN ys = false := by rcases hi with h | h; exact absurd h hx; exact h
    rw [eq_true_of_ne_false hx] at c1
    rw [hy] at c2
    clear hi hx hy
    go_enter Tryz.func66, Tryz.ntmps66
    go_wp2_with fail
    refine c1.out.mono ?_
    rintro e v1 ⟨rfl, hw⟩; subst v1
    go_wp2_with fail
    refine c2.out.mono ?_
    rintro e v1 ⟨rfl, hw⟩; subst v1
    go_wp2_with fail
    go_ret
    exact ⟨rfl, rfl⟩
end Go.Proofs.YtojpfmlmalmlcaaGreatDoor.G
namespace Go.Proofs.YtojpfmlmalmlcaaGreatDoor.G
open Go.RowKit
theorem info_u16 : (Tryz.prog.info? 95).map (fun i => (i.zero, i.size, i.bytes)) = some (some (.int .u16 0), 1, 2) := by kernel_rfl
theorem own_cap {w : World} {base n c : Nat} {e : TypeId} {A : Option Addr} {zs : List Value} (h : w.ownsRow base e 1 (.slice A n c) n zs) : n ≤ c ∧ c ≤ 9223372036854775807 := by
  rcases h.2 with ⟨e, h0⟩ | ⟨g, cap, cur, e, hb, hg, hnc, hm, hs, ht⟩
  · injection e with e1 e2 e3
    omega
  · injection e with e1 e2 e3
    subst e3
    refine ⟨hnc, ?_⟩
    unfold maxLen at hm
    omega
theorem make_nat (n : Nat) (hn : n ≤ 1000000) (w : World) : ∃ w', (Instr.makeSlice 58 (.int .i64 0) (.int .i64 (n : Int))).run Tryz.prog w = .ok (.slice (some ⟨w.heap.size, 0, none⟩) 0 n) w' ∧
    w'.ownsRow w.heap.size 95 1 (.slice (some ⟨w.heap.size, 0, none⟩) 0 n) 0 (dc []) ∧ Below w.heap.size w w' := by
  obtain ⟨i, hi, hz, hs, hb⟩ := info_parts (P := Tryz.prog) (e := 95) (z := .int .u16 0) (size := 1) (bytes := 2) (by kernel_rfl)
  have h := run_makeSlice (P := Tryz.prog) w 58 95 i _ Tryz.underlying58 hi hz .i64 .i64 0 (n : Int) (by omega) (by omega) (by rw [hs]; simp; omega) (by rw [hb]; omega) (by omega)
  refine ⟨_, h, ⟨rfl, .inr ⟨w.heap.size, n, _, rfl, Nat.le_refl _, heap_alloc_new _ _, Nat.zero_le _, by unfold maxLen; omega, by simp [madeCells, hs, Value.cells], rfl⟩⟩, (Below.refl _ _).alloc (Nat.le_refl _) _⟩
/-- Behind i numbers. -/
def CarAt (w : World) (xs : List Int) (v3 v4 v13 : Value) (wr : World) : Prop :=
  ∃ (i : Nat) (A : Option Addr) (c : Nat) (zs : List Nat) (k : Int), i ≤ xs.length ∧ v3 = .slice A i c ∧ v4 = .int .i64 k ∧ v13 = .int .i64 (i : Int) ∧ wr.ownsRow w.heap.size 95 1 (.slice A i c) i (dc zs) ∧ Dg zs ∧
    (nv zs : Int) + 65536 ^ i * k = ev 65536 (xs.take i) ∧ -281474976710656 ≤ k ∧ k ≤ 281474976710656 ∧ Below w.heap.size w wr
/-- What is left is carried on. -/
def CarOn (w : World) (t : Nat) (v3 v4 : Value) (wr : World) : Prop :=
  ∃ (i : Nat) (A : Option Addr) (c : Nat) (zs : List Nat) (k : Nat), i + (dg k).length ≤ 1010 ∧ k ≤ 281474976710656 ∧ v3 = .slice A i c ∧ v4 = .int .i64 (k : Int) ∧ wr.ownsRow w.heap.size 95 1 (.slice A i c) i (dc zs) ∧ Dg zs ∧
    nv zs + 65536 ^ i * k = t ∧ Below w.heap.size w wr
set_option maxHeartbeats 4000000 in
theorem carried_any (A : Option Addr) (n c : Nat) (xs : List Int) (w : World) (h : Ints w (· < w.heap.size) A n xs) (hb : ∀ i, i < n → -281474976710656 ≤ xs.getD i 0 ∧ xs.getD i 0 ≤ 281474976710656) (hn : n ≤ 1000) (t : Nat) (ht : ev 65536 xs = (t : Int)) :
    Calls Tryz.prog 95 #[.slice A n c] w fun e w' => ∃ R k, e = .returned (.slice R (dg t).length k) ∧ Digs w' R (dg t).length (dg t) ∧ Below w.heap.size w w' := by
  have H := Lib.hid h
  have hl := Lib.hid h.1
  have HB := Lib.hid hb
  have HT := Lib.hid ht
  obtain ⟨W, mk, OW, BW⟩ := make_nat (n + 1) (by omega) w
  have HOW := Lib.hid OW
  have e1 : ((n + 1 : Nat) : Int) = (n : Int) + 1 := by omega
  rw [e1] at mk
  clear h hb ht OW e1
  go_enter Tryz.func95, Tryz.ntmps95
  go_wp2_with fail
  go_loopw [3, 4, 13] (fun v3 v4 v13 wr => CarAt w xs v3 v4 v13 wr) (fun _ _ v _ => n - (intOf v).toNat)
  case atStart => exact ⟨0, _, _, [], 0, by omega, rfl, rfl, rfl, HOW.out, Dg.nil, by simp [nv, ev], by omega, by omega, BW⟩
  case round =>
    obtain ⟨i, R, cc, zs, k, hi, rfl, rfl, rfl, hO, hz, hv, hk1, hk2, B⟩ := hrel
    have HO := Lib.hid hO
    have HZ := Lib.hid hz
    have HV := Lib.hid hv
    clear hO hz hv
    by_cases hlt : i < n
    · have d1 := lt_t hlt
      have d1n := ltn_t hlt
      obtain ⟨b0, o, rfl, m1, hc⟩ := H.out.2 (by omega)
      have x1 := (B.cell (p := ⟨b0, o + i, none⟩) m1).trans (hc i hlt)
      have hx := HB.out i hlt
      have HS := Lib.hid (ev_take xs i (by rw [hl.out]; exact hlt))
      generalize xs.getD i 0 = x at *
      obtain ⟨v, hvv⟩ : ∃ v, v = k + x := ⟨_, rfl⟩
      obtain ⟨d, hd⟩ : ∃ d : Nat, (d : Int) = v % 65536 := ⟨(v % 65536).toNat, by omega⟩
      obtain ⟨q, hq⟩ : ∃ q : Int, q = v / 65536 := ⟨_, rfl⟩
      have HC := Lib.hid (carry_step HV.out hvv)
      rw [← hd, ← hq] at HC
      have HQ : Hid (-281474976710656 ≤ q ∧ q ≤ 281474976710656) := show _ ∧ _ by omega
      have HD : Hid (d < 65536) := show _ < _ by omega
      have z1 : wrap64 (k + x) = v := by unfold wrap64; omega
      have z2 : IntKind.u16.wrap v = (d : Int) := by rw [hd, IntKind.wrap_u16]
      have z3 : v / 65536 = q := hq.symm
      clear hd hq hvv hx hc m1 hk1 hk2
      obtain ⟨i0, hi0, hz0, hz1, hz2⟩ := info_parts info_u16
      have HZ0 := Lib.hid hz0; have HI0 := Lib.hid hi0; have H1 := Lib.hid hz1; have H2 := Lib.hid hz2
      clear hz0 hi0 hz1 hz2
      have hgn := heap_alloc_new wr (.cells #[.int .u16 (d : Int)] 95)
      have HOA : Hid ((wr.alloc (.cells #[.int .u16 (d : Int)] 95)).ownsRow w.heap.size 95 1 (.slice R i cc) i (dc zs)) := HO.out.alloc _
      have BA : Below w.heap.size w (wr.alloc (.cells #[.int .u16 (d : Int)] 95)) := B.alloc B.size _
      have HSr : Hid (0 < 1 → ∃ ad, some (⟨wr.heap.size, 0, none⟩ : Addr) = some ad ∧ ∀ j u, ([.int .u16 (d : Int)] : List Value)[j]? = some u → (wr.alloc (.cells #[.int .u16 (d : Int)] 95)).cell? (ad.add j) = some u) := fun _ =>
        ⟨_, rfl, World.news_of_block (cs := #[.int .u16 (d : Int)]) (t := 95) (fr := (0, 0)) hgn⟩
      have l2 : i + 1 ≤ maxLen := by simp only [maxLen]; omega
      have l3 : (i + 1) * 2 ≤ 140737488355328 := by omega
      have hsz : w.heap.size ≤ (wr.alloc (.cells #[.int .u16 (d : Int)] 95)).heap.size := by have := B.size; simp; omega
      have l4 : ∀ u ∈ ([.int .u16 (d : Int)] : List Value), u.oneCell' = true := by simp [Value.oneCell']
      have HI := Lib.hid hlt
      have HBA := Lib.hid BA
      clear hgn HO B BA hi
      go_wp2_with (first | (at_builtin; refine wpList_append_held _ rfl (.tmp 20) (.tmp 23) 58 rfl w.heap.size 95 i0 _ 2 Tryz.underlying58 HI0.out HZ0.out H1.out H2.out rfl _ i _ rfl HOA.out (some ⟨wr.heap.size, 0, none⟩) 1 1 [.int .u16 (d : Int)] rfl rfl HSr.out l4 l2 l3 hsz ?_))
      intro A5 c5 w9 ho9 hg9 _
      have B9 : Below w.heap.size w w9 := HBA.out.grown hg9 HBA.out.size (fun k hk => (HOA.out.lt k hk).1)
      have HO9 : Hid (w9.ownsRow w.heap.size 95 1 (.slice A5 (i + 1) c5) (i + 1) (dc (zs ++ [d]))) := by
        rw [dc_append]
        exact ho9.out
      have HB9 := Lib.hid B9
      have HLz : Hid (zs.length = i) := show _ = _ by
        have := HOA.out.1
        rw [dc_length] at this
        omega
      clear ho9 hg9 HOA HBA HSr hsz l4 l2 l3 B9 x1
      go_wp2_with fail
      go_roundw
      case rel =>
        refine ⟨i + 1, A5, c5, zs ++ [d], q, by rw [hl.out]; exact HI.out, rfl, rfl, ret_val (by have := HI.out; omega), HO9.out, HZ.out.append (Dg.one HD.out), ?_, HQ.out.1, HQ.out.2, HB9.out⟩
        rw [HS.out, nv_snoc, HLz.out, ← HC.out, Int.pow_succ]
        simp
      case measure => simp [intOf]; have := HI.out; omega
    · obtain rfl : i = n := by have := hl.out; omega
      have d1 := lt_f (Nat.le_refl i)
      have d1n := ltn_f (Nat.le_refl i)
      have hV := HV.out
      rw [List.take_of_length_le (by rw [hl.out]; exact Nat.le_refl _), HT.out] at hV
      have hLz : zs.length = i := by
        have := HO.out.1
        rw [dc_length] at this
        omega
      have hlt' := nv_lt HZ.out
      rw [hLz] at hlt'
      obtain ⟨hk0, hE⟩ := carry_end (a := nv zs) (t := t) (p := 65536 ^ i) (c := k) (e := (t : Int)) (by rw [← hV]; simp) hlt' (by omega) (by simp)
      obtain ⟨k, rfl⟩ := Int.eq_ofNat_of_zero_le hk0
      have HE := Lib.hid hE
      have HKL : Hid (i + (dg k).length ≤ 1010) := show _ ≤ _ by
        have : (dg k).length ≤ 4 := (dg_len k 4).2 (by omega)
        omega
      have HK2 : Hid (k ≤ 281474976710656) := show _ ≤ _ by omega
      simp only [Int.ofNat_eq_natCast, Int.toNat_natCast] at HE
      have HBx := Lib.hid B
      clear hV hLz hlt' hE hk0 hk1 hk2 HV B hi
      go_wp2_with fail
      obtain ⟨W0, rfl⟩ : ∃ W0, W0 = wr := ⟨_, rfl⟩
      go_loopw [3, 4] (fun v3 v4 wr => CarOn w t v3 v4 wr) (fun _ v _ => (intOf v).toNat)
      case atStart => exact ⟨i, R, cc, zs, k, HKL.out, HK2.out, rfl, rfl, HO.out, HZ.out, HE.out.symm, HBx.out⟩
      case round =>
        clear HO HZ HE HKL HK2 HBx
        obtain ⟨j, R2, c2, ys, q, hjl, hq2, rfl, rfl, hO, hz, hv, B⟩ := hrel
        have HO := Lib.hid hO
        have HZ := Lib.hid hz
        have HV := Lib.hid hv
        clear hO hz hv
        by_cases hq0 : q = 0
        · subst hq0
          have hVV := HV.out
          rw [Nat.mul_zero, Nat.add_zero] at hVV
          have hcp := own_cap HO.out
          have cT := Lib.hid (trimmed_any R2 j c2 ys wr (own_digs HO.out HZ.out) (by omega) hcp.1 hcp.2)
          rw [hVV] at cT
          have HBx := Lib.hid B
          clear hVV hcp B HV HO HZ hjl hq2
          go_wp2_with fail
          refine cT.out.mono ?_
          rintro e v1 ⟨rfl, hD, _, hw⟩; subst v1
          have HD := Lib.hid hD
          clear hD
          go_wp2_with fail
          go_ret
          exact ⟨_, _, rfl, HD.out, HBx.out⟩
        · have d2 : decide ((0 : Int) < (q : Int)) = true := by simp; omega
          have d2n : decide (0 < q) = true := by simp; omega
          obtain ⟨d, hd⟩ : ∃ d : Nat, d = q % 65536 := ⟨_, rfl⟩
          obtain ⟨p, hp⟩ : ∃ p : Nat, p = q / 65536 := ⟨_, rfl⟩
          have HD : Hid (d < 65536) := show _ < _ by omega
          have z2 : IntKind.u16.wrap (q : Int) = (d : Int) := by rw [hd, IntKind.wrap_u16]; omega
          have z3 : (q : Int) / 65536 = (p : Int) := by omega
          have HJ : Hid (j + 1 + (dg p).length ≤ 1010) := show _ ≤ _ by
            rw [dg_pos hq0, List.length_cons, ← hp] at hjl
            omega
          have HP : Hid (p ≤ 281474976710656) := show _ ≤ _ by omega
          have HPq : Hid (p < q) := show _ < _ by omega
          have HLz : Hid (ys.length = j) := show _ = _ by
            have := HO.out.1
            rw [dc_length] at this
            omega
          have HV2 : Hid (nv (ys ++ [d]) + 65536 ^ (j + 1) * p = t) := show _ = _ by
            have hqq : q = 65536 * p + d := by omega
            rw [nv_snoc, HLz.out, ← HV.out, Nat.pow_succ, hqq]
            generalize 65536 ^ j = P
            grind
          clear hd hp hq2 hq0
          obtain ⟨i0, hi0, hz0, hz1, hz2⟩ := info_parts info_u16
          have HZ0 := Lib.hid hz0; have HI0 := Lib.hid hi0; have H1 := Lib.hid hz1; have H2 := Lib.hid hz2
          clear hz0 hi0 hz1 hz2
          have hgn := heap_alloc_new wr (.cells #[.int .u16 (d : Int)] 95)
          have HOA : Hid ((wr.alloc (.cells #[.int .u16 (d : Int)] 95)).ownsRow w.heap.size 95 1 (.slice R2 j c2) j (dc ys)) := HO.out.alloc _
          have BA : Below w.heap.size w (wr.alloc (.cells #[.int .u16 (d : Int)] 95)) := B.alloc B.size _
          have HSr : Hid (0 < 1 → ∃ ad, some (⟨wr.heap.size, 0, none⟩ : Addr) = some ad ∧ ∀ j u, ([.int .u16 (d : Int)] : List Value)[j]? = some u → (wr.alloc (.cells #[.int .u16 (d : Int)] 95)).cell? (ad.add j) = some u) := fun _ =>
            ⟨_, rfl, World.news_of_block (cs := #[.int .u16 (d : Int)]) (t := 95) (fr := (0, 0)) hgn⟩
          have l2 : j + 1 ≤ maxLen := by simp only [maxLen]; omega
          have l3 : (j + 1) * 2 ≤ 140737488355328 := by omega
          have hsz : w.heap.size ≤ (wr.alloc (.cells #[.int .u16 (d : Int)] 95)).heap.size := by have := B.size; simp; omega
          have l4 : ∀ u ∈ ([.int .u16 (d : Int)] : List Value), u.oneCell' = true := by simp [Value.oneCell']
          have HBA := Lib.hid BA
          clear hgn HO B BA hjl
          go_wp2_with (first | (at_builtin; refine wpList_append_held _ rfl (.tmp 32) (.tmp 35) 58 rfl w.heap.size 95 i0 _ 2 Tryz.underlying58 HI0.out HZ0.out H1.out H2.out rfl _ j _ rfl HOA.out (some ⟨wr.heap.size, 0, none⟩) 1 1 [.int .u16 (d : Int)] rfl rfl HSr.out l4 l2 l3 hsz ?_))
          intro A5 c5 w9 ho9 hg9 _
          have B9 : Below w.heap.size w w9 := HBA.out.grown hg9 HBA.out.size (fun k hk => (HOA.out.lt k hk).1)
          have HO9 : Hid (w9.ownsRow w.heap.size 95 1 (.slice A5 (j + 1) c5) (j + 1) (dc (ys ++ [d]))) := by
            rw [dc_append]
            exact ho9.out
          have HB9 := Lib.hid B9
          clear ho9 hg9 HOA HBA HSr hsz l4 l2 l3 B9
          go_wp2_with fail
          go_roundw
          case rel => exact ⟨j + 1, A5, c5, ys ++ [d], p, HJ.out, HP.out, rfl, by first | rfl | exact ret_val (by omega), HO9.out, HZ.out.append (Dg.one HD.out), HV2.out, HB9.out⟩
          case measure => simp [intOf]; exact HPq.out
end Go.Proofs.YtojpfmlmalmlcaaGreatDoor.G
