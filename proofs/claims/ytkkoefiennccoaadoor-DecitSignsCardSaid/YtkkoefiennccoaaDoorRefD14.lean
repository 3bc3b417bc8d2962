/-
  What the document's ten34 and Split do; for all bits; no condition.
-/
import Derived.Test.YtkkoefiennccoaaDoorDeciMath
import Derived.Test.YtkkoefiennccoaaDoorRefP6
import Derived.Laws.Bits64b
namespace Go.Proofs.YtkkoefiennccoaaDoor
set_option maxRecDepth 100000
open Go.RowKit

theorem results_mid {fn : Func} {t u p v : Tmp} {ty : TypeId} (h : fn.results = #[.tmp t, .tmp u, .cell p ty, .tmp v]) (tmps : Array Value) {P : Program} (w : World) (g : Nat) (cs : Array Value)
    (hp : tmps.getD p undef = .pointer (some ⟨g, 0, none⟩)) (hl : (loadVar ty ⟨g, 0, none⟩).run P w = .ok (.agg cs) w) :
    (results fn tmps).run P w = .ok (.tuple #[tmps.getD t undef, tmps.getD u undef, .agg cs, tmps.getD v undef]) w := by
  rw [Array.getD_eq_getD_getElem?] at hp
  simp [results, h, hp, asAddr, hl]

theorem set_past {w : World} {g : Nat} {x y a b : Value} {t : TypeId} {o : Obj} (h : w.heap[g]? = some (.cells #[x, y] t (0, 0))) :
    (((w.setCell ⟨g, 0, none⟩ a).setCell ⟨g, 1, none⟩ b).alloc o).heap[g]? = some (.cells #[a, b] t (0, 0)) :=
  (Below.heap_alloc _ o g (block_lt (two_set h))).trans (two_set h)

theorem two_apart {w : World} {g k : Nat} {o : Obj} {a b : Value} (h : w.heap[g]? = some o) (hq : g ≠ k) : ((w.setCell ⟨k, 0, none⟩ a).setCell ⟨k, 1, none⟩ b).heap[g]? = some o :=
  (Below.heap_setCell _ ⟨k, 1, none⟩ b g hq).trans ((Below.heap_setCell w ⟨k, 0, none⟩ a g hq).trans h)

/-- The text of 10^34. -/
def tenText : List UInt8 := [49, 48, 48, 48, 48, 48, 48, 48, 48, 48, 48, 48, 48, 48, 48, 48, 48, 48, 48, 48, 48, 48, 48, 48, 48, 48, 48, 48, 48, 48, 48, 48, 48, 48, 48]
theorem ten_parse : parseW tenText = some 10000000000000000000000000000000000 := by decide

set_option maxHeartbeats 400000 in
theorem ten34_any (w : World) : Calls Tryd.prog 18 #[] w fun e w' => e = .returned (wv 10000000000000000000000000000000000) ∧ Below w.heap.size w w' := by
  have c : ∀ w, Calls Tryd.prog 33 #[.string ⟨#[49, 48, 48, 48, 48, 48, 48, 48, 48, 48, 48, 48, 48, 48, 48, 48, 48, 48, 48, 48, 48, 48, 48, 48, 48, 48, 48, 48, 48, 48, 48, 48, 48, 48, 48]⟩] w fun e w' => e = .returned (.tuple #[.agg #[.int .u64 542101086242752, .int .u64 4003012203950112768], .bool true]) ∧ Below w.heap.size w w' := fun w => by
    have h := refParse_any tenText (by decide) w
    rw [ten_parse] at h
    exact h
  have C := Lib.hid c
  clear c
  go_enter Tryd.func18, Tryd.ntmps18
  go_wp2_with fail
  refine (C.out _).mono ?_
  rintro e w1 ⟨rfl, B1⟩
  have HB := Lib.hid (low_a (Below.refl _ _) B1)
  have R := Lib.hid ((B1.block w.heap.size (by simp)).trans (heap_alloc_new w _))
  have i0 := block_cell R.out 0; have i1 := block_cell R.out 1
  have f0 := block_frozen R.out 0; have f1 := block_frozen R.out 1
  have hlt := block_lt R.out
  clear B1 C
  go_wp2_with fail
  refine bodyPost_ret (results_row1 rfl _ _ w.heap.size _ rfl (load_wide (set_past R.out))) rfl ?_
  exact ⟨rfl, (below_two HB.out (Nat.le_refl _) _ _).alloc (by have := HB.out.size; simpa using this) _⟩

set_option maxHeartbeats 400000 in
theorem refSplit_nan (X A B L : Int) (s : Bool) (w : World) (hA : X / 9223372036854775808 = A) (hs : (A == 1) = s) (hB : X / 288230376151711744 = B) (hE : bits .and .u64 B 31 = 31) :
    Calls Tryd.prog 8 #[.int .u64 X, .int .u64 L] w fun e w' => e = .returned (.tuple #[.int .i64 3, .bool s, .agg #[.int .u64 0, .int .u64 0], .int .i64 0]) ∧ Below w.heap.size w w' := by
  go_enter Tryd.func8, Tryd.ntmps8
  go_wp2_with fail
  refine bodyPost_ret (results_mid rfl _ _ w.heap.size _ rfl (load_wide (heap_alloc_new _ _))) rfl ?_
  exact ⟨by first | rfl | (simp; done), (Below.refl _ _).alloc (Nat.le_refl _) _⟩

set_option maxHeartbeats 400000 in
theorem refSplit_inf (X A B L : Int) (s : Bool) (w : World) (hA : X / 9223372036854775808 = A) (hs : (A == 1) = s) (hB : X / 288230376151711744 = B) (hE : bits .and .u64 B 31 = 30) :
    Calls Tryd.prog 8 #[.int .u64 X, .int .u64 L] w fun e w' => e = .returned (.tuple #[.int .i64 2, .bool s, .agg #[.int .u64 0, .int .u64 0], .int .i64 0]) ∧ Below w.heap.size w w' := by
  go_enter Tryd.func8, Tryd.ntmps8
  go_wp2_with fail
  refine bodyPost_ret (results_mid rfl _ _ w.heap.size _ rfl (load_wide (heap_alloc_new _ _))) rfl ?_
  exact ⟨by first | rfl | (simp; done), (Below.refl _ _).alloc (Nat.le_refl _) _⟩

set_option maxHeartbeats 400000 in
theorem refSplit_odd (X A B C D E F x L : Int) (s : Bool) (w : World) (hA : X / 9223372036854775808 = A) (hs : (A == 1) = s) (hB : X / 288230376151711744 = B) (hE : bits .and .u64 B 31 = E) (e1 : (E == 31) = false) (e2 : (E == 30) = false)
    (hC : X / 2305843009213693952 = C) (hF : bits .and .u64 C 3 = 3) (hD : X / 140737488355328 = D) (hG : bits .and .u64 D 16383 = F) (hF1 : wrap64 F = F) (hx : wrap64 (F - 6176) = x) :
    Calls Tryd.prog 8 #[.int .u64 X, .int .u64 L] w fun e w' => e = .returned (.tuple #[.int .i64 1, .bool s, .agg #[.int .u64 0, .int .u64 0], .int .i64 x]) ∧ Below w.heap.size w w' := by
  go_enter Tryd.func8, Tryd.ntmps8
  go_wp2_with fail
  refine bodyPost_ret (results_mid rfl _ _ w.heap.size _ rfl (load_wide (heap_alloc_new _ _))) rfl ?_
  exact ⟨by first | rfl | (simp [hx]; done) | (rw [← hx]; rfl), (Below.refl _ _).alloc (Nat.le_refl _) _⟩

set_option maxHeartbeats 400000 in
theorem refSplit_fin (X A B C D E F G H x L r c1 c0 : Int) (s : Bool) (w : World) (hA : X / 9223372036854775808 = A) (hs : (A == 1) = s) (hB : X / 288230376151711744 = B) (hE : bits .and .u64 B 31 = E) (e1 : (E == 31) = false) (e2 : (E == 30) = false)
    (hC : X / 2305843009213693952 = C) (hF : bits .and .u64 C 3 = G) (e3 : (G == 3) = false) (hD : X / 562949953421312 = D) (hG : bits .and .u64 D 16383 = F) (hF1 : wrap64 F = F) (hx : wrap64 (F - 6176) = x) (hH : bits .and .u64 X 562949953421311 = H)
    (cC : Hid (∀ w, Calls Tryd.prog 17 #[.agg #[.int .u64 H, .int .u64 L], .agg #[.int .u64 542101086242752, .int .u64 4003012203950112768]] w fun e w' => e = .returned (.int .i64 r) ∧ Below w.heap.size w w')) (g : (decide (0 ≤ r) = false ∧ H = c1 ∧ L = c0) ∨ (decide (0 ≤ r) = true ∧ c1 = 0 ∧ c0 = 0)) :
    Calls Tryd.prog 8 #[.int .u64 X, .int .u64 L] w fun e w' => e = .returned (.tuple #[.int .i64 1, .bool s, .agg #[.int .u64 c1, .int .u64 c0], .int .i64 x]) ∧ Below w.heap.size w w' := by
  rcases g with ⟨g, rfl, rfl⟩ | ⟨g, rfl, rfl⟩
  all_goals (
    have cT := Lib.hid ten34_any
    go_enter Tryd.func8, Tryd.ntmps8
    go_wp2_with fail
    obtain ⟨W, hW⟩ : ∃ W, W = (w.alloc (Obj.cells #[.int .u64 0, .int .u64 0] 29)).alloc (Obj.cells #[.int .u64 H, .int .u64 L] 29) := ⟨_, rfl⟩
    obtain ⟨n, hn⟩ : ∃ n, n = w.heap.size := ⟨_, rfl⟩
    have r0 : W.heap[n]? = some (.cells #[.int .u64 0, .int .u64 0] 29 (0, 0)) := by
      rw [hW, hn]
      exact (Below.heap_alloc _ _ _ (by simp)).trans (heap_alloc_new _ _)
    have r1 : W.heap[n + 1]? = some (.cells #[.int .u64 H, .int .u64 L] 29 (0, 0)) := by
      rw [hW, hn]
      have h := heap_alloc_new (w.alloc (Obj.cells #[.int .u64 0, .int .u64 0] 29)) (Obj.cells #[.int .u64 H, .int .u64 L] 29)
      simpa using h
    have hB : Below n w W := by rw [hW, hn]; exact ((Below.refl _ _).alloc (Nat.le_refl _) _).alloc (by simp) _
    have hz : W.heap.size = n + 2 := by rw [hW, hn]; simp
    rw [← hW]
    have j0 : W.cell? ⟨n + 1, 0, none⟩ = some (.int .u64 H) := block_cell r1 0
    have j1 : W.cell? ⟨n + 1, 1, none⟩ = some (.int .u64 L) := block_cell r1 1
    have k0 := cell_regrown j0; have k1 := cell_regrown j1
    rw [← hn]
    have R0 := Lib.hid r0; have R1 := Lib.hid r1; have HB := Lib.hid hB; have HN := Lib.hid hn; have HZ := Lib.hid hz
    clear hW r0 r1 hB hn j0 j1 hz
    have q1 : ∀ d os, Calls Tryd.prog 18 #[] (Sort.grow (redrawn W d) os) fun x w'' => x = .returned (.agg #[.int .u64 542101086242752, .int .u64 4003012203950112768]) ∧ ∃ p : Regrown, w'' = Sort.grow (redrawn W p.d) p.os := fun d os => Calls.regrown_of (cT.out _)
    have q2 : ∀ d os, Calls Tryd.prog 17 #[.agg #[.int .u64 H, .int .u64 L], .agg #[.int .u64 542101086242752, .int .u64 4003012203950112768]] (Sort.grow (redrawn W d) os) fun x w'' => x = .returned (.int .i64 r) ∧ ∃ p : Regrown, w'' = Sort.grow (redrawn W p.d) p.os := fun d os => Calls.regrown_of (cC.out _)
    refine wp_region_quiet_below (by kernel_rfl) (by kernel_rfl) ?_
    repeat (go_big_quiet_step (first | with_reducible exact q1 _ _ | with_reducible exact q2 _ _))
    refine wpQuiet_nil ?_
    intro _ hw'
    obtain ⟨⟨dq, osq⟩, hw''⟩ := hw'
    subst hw''
    have B3 := below_regrown W dq osq
    have l0 := k0 dq osq; have l1 := k1 dq osq
    generalize Sort.grow (redrawn W dq) osq = V at *
    clear k0 k1 q1 q2 cC cT
    have S0 := Lib.hid ((B3.block n (by have := HZ.out; omega)).trans R0.out)
    have HB3 : Hid (Below n w V) := HB.out.trans (B3.mono (by have := HZ.out; omega))
    have r1 := block_cell S0.out 0; have r2 := block_cell S0.out 1
    have f1 := block_frozen S0.out 0; have f2 := block_frozen S0.out 1
    have S1 := Lib.hid ((B3.block (n + 1) (by have := HZ.out; omega)).trans R1.out)
    have f3 := block_frozen S1.out 0; have f4 := block_frozen S1.out 1
    simp at r1 r2
    clear B3 R0 R1 HB HZ
    go_wp2_with fail
    go_region
    go_wp2_with fail
    refine bodyPost_ret (results_mid rfl _ _ n _ rfl (load_wide (two_set (by first | exact S0.out | exact two_apart S0.out (by omega))))) rfl ?_
    exact ⟨by first | rfl | (simp [hx]; done) | (rw [← hx]; rfl), by rw [← HN.out]; first | with_reducible exact (below_two HB3.out (Nat.le_refl _) _ _).drew | with_reducible exact (below_two (below_two HB3.out (Nat.le_succ _) _ _) (Nat.le_refl _) _ _).drew⟩)

theorem and_31 (y : Nat) (hy : y < 18446744073709551616) : bits .and .u64 (y : Int) 31 = ((y % 32 : Nat) : Int) := by
  have h := bits_and_u64_nat y 31 hy (by decide)
  rw [show y &&& 31 = y % 32 from Nat.and_two_pow_sub_one_eq_mod y 5] at h
  exact h
theorem and_3 (y : Nat) (hy : y < 18446744073709551616) : bits .and .u64 (y : Int) 3 = ((y % 4 : Nat) : Int) := by
  have h := bits_and_u64_nat y 3 hy (by decide)
  rw [show y &&& 3 = y % 4 from Nat.and_two_pow_sub_one_eq_mod y 2] at h
  exact h
theorem and_14 (y : Nat) (hy : y < 18446744073709551616) : bits .and .u64 (y : Int) 16383 = ((y % 16384 : Nat) : Int) := by
  have h := bits_and_u64_nat y 16383 hy (by decide)
  rw [show y &&& 16383 = y % 16384 from Nat.and_two_pow_sub_one_eq_mod y 14] at h
  exact h
theorem and_49 (y : Nat) (hy : y < 18446744073709551616) : bits .and .u64 (y : Int) 562949953421311 = ((y % 562949953421312 : Nat) : Int) := by
  have h := bits_and_u64_nat y 562949953421311 hy (by decide)
  rw [show y &&& 562949953421311 = y % 562949953421312 from Nat.and_two_pow_sub_one_eq_mod y 49] at h
  exact h
theorem cast_div (h k : Nat) : (h : Int) / (k : Int) = ((h / k : Nat) : Int) := (Int.natCast_ediv h k).symm
theorem sign_of (h : Nat) : ((((h / 9223372036854775808 : Nat) : Int) == 1)) = dN h := by
  unfold dN
  rw [Bool.eq_iff_iff, beq_iff_eq, decide_eq_true_iff]
  omega
theorem ne_lit {a b : Nat} (h : ¬ a = b) : ((a : Int) == (b : Int)) = false := by rw [beq_eq_false_iff_ne]; omega
theorem quo_lt64 {h k : Nat} (hh : h < 18446744073709551616) : h / k < 18446744073709551616 := Nat.lt_of_le_of_lt (Nat.div_le_self _ _) hh
theorem exp_in (a : Nat) (h : a < 16384) : wrap64 (a : Int) = (a : Int) ∧ wrap64 ((a : Int) - 6176) = (a : Int) - 6176 := by unfold wrap64; omega
theorem halves_of {a l c : Nat} (hl : l < 18446744073709551616) (hc : c = a * 18446744073709551616 + l) : a = c / 18446744073709551616 ∧ l = c % 18446744073709551616 := by omega
/-- The parts as a value. -/
def dV (h l : Nat) : Value := .tuple #[.int .i64 (dK h : Nat), .bool (dN h), wv (dC h l), .int .i64 (dX h)]
theorem dV_of {h l k c : Nat} {s : Bool} {x : Int} {a b : Int} (hk : dK h = k) (hs : s = dN h) (hc : dC h l = c) (hx : dX h = x) (ha : a = ((c / 18446744073709551616 : Nat) : Int)) (hb : b = ((c % 18446744073709551616 : Nat) : Int)) :
    Ending.returned (.tuple #[.int .i64 (k : Nat), .bool s, .agg #[.int .u64 a, .int .u64 b], .int .i64 x]) = .returned (dV h l) := by
  unfold dV wv
  rw [hk, ← hs, hc, hx, ha, hb]

theorem refSplit_any (h l : Nat) (hh : h < 18446744073709551616) (hl : l < 18446744073709551616) (w : World) :
    Calls Tryd.prog 8 #[.int .u64 (h : Int), .int .u64 (l : Int)] w fun e w' => e = .returned (dV h l) ∧ Below w.heap.size w w' := by
  have a1 := and_31 (h / 288230376151711744) (quo_lt64 hh)
  have hA := cast_div h 9223372036854775808
  have hB := cast_div h 288230376151711744
  have hS := sign_of h
  by_cases n : h / 288230376151711744 % 32 = 31
  · obtain ⟨e1, e2, e3⟩ := dK_nan n
    rw [n] at a1
    refine (refSplit_nan _ _ _ _ _ w hA hS hB a1).mono ?_
    rintro e w' ⟨rfl, B⟩
    exact ⟨dV_of e1 rfl (e2 l) e3 rfl rfl, B⟩
  by_cases m : h / 288230376151711744 % 32 = 30
  · obtain ⟨e1, e2, e3⟩ := dK_inf m
    rw [m] at a1
    refine (refSplit_inf _ _ _ _ _ w hA hS hB a1).mono ?_
    rintro e w' ⟨rfl, B⟩
    exact ⟨dV_of e1 rfl (e2 l) e3 rfl rfl, B⟩
  obtain ⟨e1, f1, f2⟩ := dK_fin n m
  have a2 := and_3 (h / 2305843009213693952) (quo_lt64 hh)
  have hC := cast_div h 2305843009213693952
  have z1 : (((h / 288230376151711744 % 32 : Nat) : Int) == 31) = false := ne_lit n
  have z2 : (((h / 288230376151711744 % 32 : Nat) : Int) == 30) = false := ne_lit m
  by_cases o : h / 2305843009213693952 % 4 = 3
  · obtain ⟨e2, e3⟩ := f1 o
    rw [o] at a2
    have hD := cast_div h 140737488355328
    have a3 := and_14 (h / 140737488355328) (quo_lt64 hh)
    obtain ⟨x1, x2⟩ := exp_in (h / 140737488355328 % 16384) (Nat.mod_lt _ (by decide))
    refine (refSplit_odd _ _ _ _ _ _ _ _ _ _ w hA hS hB a1 z1 z2 hC a2 hD a3 x1 x2).mono ?_
    rintro e w' ⟨rfl, B⟩
    exact ⟨dV_of e1 rfl (e2 l) e3 rfl rfl, B⟩
  · obtain ⟨e2, e3⟩ := f2 o
    have z3 : (((h / 2305843009213693952 % 4 : Nat) : Int) == 3) = false := ne_lit o
    have hD := cast_div h 562949953421312
    have a3 := and_14 (h / 562949953421312) (quo_lt64 hh)
    obtain ⟨x1, x2⟩ := exp_in (h / 562949953421312 % 16384) (Nat.mod_lt _ (by decide))
    have a4 := and_49 h hh
    have e2l := e2 l
    obtain ⟨c, hc⟩ : ∃ c, c = h % 562949953421312 * 18446744073709551616 + l := ⟨_, rfl⟩
    rw [← hc] at e2l
    obtain ⟨k1, k0⟩ := halves_of hl hc
    have cC := Lib.hid fun w => refCmp_any c 10000000000000000000000000000000000 w
    rw [k1] at a4
    rw [show (l : Int) = ((c % 18446744073709551616 : Nat) : Int) by rw [← k0]]
    by_cases q : c < 10000000000000000000000000000000000
    · rw [if_pos q] at e2l
      have hr : cmpI c 10000000000000000000000000000000000 = -1 := if_pos q
      rw [hr] at cC
      refine (refSplit_fin _ _ _ _ _ _ _ _ _ _ _ _ _ _ _ w hA hS hB a1 z1 z2 hC a2 z3 hD a3 x1 x2 a4 cC (.inl ⟨rfl, rfl, rfl⟩)).mono ?_
      rintro e w' ⟨rfl, B⟩
      exact ⟨dV_of e1 rfl e2l e3 rfl rfl, B⟩
    · rw [if_neg q] at e2l
      have hr : decide (0 ≤ cmpI c 10000000000000000000000000000000000) = true := by
        refine decide_eq_true ?_
        unfold cmpI
        rw [if_neg q]
        split <;> decide
      generalize cmpI c 10000000000000000000000000000000000 = r at *
      refine (refSplit_fin _ _ _ _ _ _ _ _ _ _ _ _ _ _ _ w hA hS hB a1 z1 z2 hC a2 z3 hD a3 x1 x2 a4 cC (.inr ⟨hr, rfl, rfl⟩)).mono ?_
      rintro e w' ⟨rfl, B⟩
      exact ⟨dV_of e1 rfl e2l e3 rfl rfl, B⟩
end Go.Proofs.YtkkoefiennccoaaDoor
