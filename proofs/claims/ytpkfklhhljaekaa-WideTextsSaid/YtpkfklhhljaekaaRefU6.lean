/-
  What the document's Up and Down do; no condition beyond what each contract asks.
-/
import Derived.Test.YtpkfklhhljaekaaRefA6
namespace Go.Proofs.Ytpkfklhhljaekaa
open Go.RowKit

theorem twice_parts (m : Nat) : (m * 2 % 340282366920938463463374607431768211456) / 18446744073709551616 = (m / 18446744073709551616 * 2 % 18446744073709551616 + m % 18446744073709551616 / 9223372036854775808) % 18446744073709551616 ∧
    (m * 2 % 340282366920938463463374607431768211456) % 18446744073709551616 = m % 18446744073709551616 * 2 % 18446744073709551616 := by omega
theorem half_parts (m : Nat) : m / 2 / 18446744073709551616 = m / 18446744073709551616 / 2 ∧ m / 2 % 18446744073709551616 = m / 18446744073709551616 % 2 * 9223372036854775808 + m % 18446744073709551616 / 2 := by omega
theorem up_next (a i N : Nat) : a * 2 ^ i % N * 2 % N = a * 2 ^ (i + 1) % N := by rw [Nat.mod_mul_mod, Nat.pow_succ, Nat.mul_assoc]
theorem down_next (a i : Nat) : a / 2 ^ i / 2 = a / 2 ^ (i + 1) := by rw [Nat.div_div_eq_div_mul, Nat.pow_succ]
theorem far_le (n : Int) : far n ≤ 128 := by unfold far; omega
theorem far_go {n : Int} {i : Nat} (h : i < far n) : decide ((i : Int) < n) = true ∧ decide ((i : Int) < 128) = true := by
  unfold far at h
  exact ⟨decide_eq_true (by omega), decide_eq_true (by omega)⟩
theorem far_end {n : Int} {i : Nat} (h : i = far n) : decide ((i : Int) < n) = false ∨ (decide ((i : Int) < n) = true ∧ decide ((i : Int) < 128) = false) := by
  unfold far at h
  by_cases hn : (i : Int) < n
  · exact .inr ⟨decide_eq_true hn, decide_eq_false (by omega)⟩
  · exact .inl (decide_eq_false hn)

/-- What holds at the head of the loop: the box holds m, the result is still zero. -/
structure MoveAt (w : World) (m : Nat) (wr : World) : Prop where
  box : wr.heap[w.heap.size]? = some (.cells #[.int .u64 ((m / 18446744073709551616 : Nat) : Int), .int .u64 ((m % 18446744073709551616 : Nat) : Int)] 24 (0, 0))
  res : wr.heap[w.heap.size + 1]? = some (.cells #[.int .u64 0, .int .u64 0] 24 (0, 0))
  low : Below w.heap.size w wr
theorem MoveAt.first {w : World} {m a1 a0 : Nat} (h1 : a1 = m / 18446744073709551616) (h0 : a0 = m % 18446744073709551616) : MoveAt w m ((w.alloc (Obj.cells #[.int .u64 (a1 : Int), .int .u64 (a0 : Int)] 24)).alloc (Obj.cells #[.int .u64 0, .int .u64 0] 24)) := by
  subst h1 h0
  refine ⟨?_, ?_, ((Below.refl _ _).alloc (Nat.le_refl _) _).alloc (by simp) _⟩
  · rw [Below.heap_alloc _ _ _ (by simp)]
    exact heap_alloc_new _ _
  · have h := heap_alloc_new (w.alloc (Obj.cells #[.int .u64 ((m / 18446744073709551616 : Nat) : Int), .int .u64 ((m % 18446744073709551616 : Nat) : Int)] 24)) (Obj.cells #[.int .u64 0, .int .u64 0] 24)
    simpa using h
theorem MoveAt.next {w wr w2 : World} {m m' h l : Nat} (H : MoveAt w m wr) (h1 : h = m' / 18446744073709551616) (h0 : l = m' % 18446744073709551616) (e : w2 = (wr.setCell ⟨w.heap.size, 0, none⟩ (.int .u64 (h : Int))).setCell ⟨w.heap.size, 1, none⟩ (.int .u64 (l : Int))) : MoveAt w m' w2 := by
  subst e h1 h0
  refine ⟨two_set H.box, ?_, below_two H.low (Nat.le_refl _) _ _⟩
  rw [Below.heap_setCell _ _ _ _ (by simp), Below.heap_setCell _ _ _ _ (by simp)]
  exact H.res

set_option maxHeartbeats 1000000 in
theorem refUp_at (a a1 a0 : Nat) (n : Int) (w : World) (H1 : Hid (a1 = a / 18446744073709551616)) (H0 : Hid (a0 = a % 18446744073709551616)) (ha : Hid (a < 340282366920938463463374607431768211456)) :
    Calls Try.prog 22 #[.agg #[.int .u64 (a1 : Int), .int .u64 (a0 : Int)], .int .i64 n] w fun e w' => e = .returned (wv (a * 2 ^ far n % 340282366920938463463374607431768211456)) ∧ Below w.heap.size w w' := by
  obtain ⟨R, hR⟩ : ∃ R, R = wv (a * 2 ^ far n % 340282366920938463463374607431768211456) := ⟨_, rfl⟩
  rw [← hR]
  have HR := Lib.hid hR
  clear hR
  go_enter Try.func22, Try.ntmps22
  go_wp2_with fail
  go_loopw [5] (fun x wr => ∃ i : Nat, x = .int .i64 (i : Int) ∧ i ≤ far n ∧ MoveAt w (a * 2 ^ i % 340282366920938463463374607431768211456) wr) (fun x _ => far n - (intOf x).toNat)
  case atStart =>
    refine ⟨0, rfl, by omega, MoveAt.first ?_ ?_⟩
    · rw [H1.out, Nat.pow_zero, Nat.mul_one, Nat.mod_eq_of_lt ha.out]
    · rw [H0.out, Nat.pow_zero, Nat.mul_one, Nat.mod_eq_of_lt ha.out]
  case round =>
    obtain ⟨i, rfl, hi, hM⟩ := hrel
    have j0 := block_cell hM.box 0
    have j1 := block_cell hM.box 1
    have i0 := block_cell hM.res 0
    have i1 := block_cell hM.res 1
    have f0 := block_frozen hM.box 0
    have f1 := block_frozen hM.box 1
    have f2 := block_frozen hM.res 0
    have f3 := block_frozen hM.res 1
    simp only [List.getElem?_toArray, List.getElem?_cons_zero, List.getElem?_cons_succ] at j0 j1 i0 i1
    have HM := Lib.hid hM
    clear hM
    obtain ⟨m, hm⟩ : ∃ m, m = a * 2 ^ i % 340282366920938463463374607431768211456 := ⟨_, rfl⟩
    have HN := Lib.hid (up_next a i 340282366920938463463374607431768211456)
    rw [← hm] at j0 j1 HM HN
    have HX := Lib.hid hm
    clear hm
    have hib := far_le n
    by_cases hlt : i < far n
    · obtain ⟨d1, d2⟩ := far_go hlt
      obtain ⟨p1, p0⟩ := twice_parts m
      rw [HN.out] at p1 p0
      obtain ⟨h, hh⟩ : ∃ h, h = m / 18446744073709551616 := ⟨_, rfl⟩
      obtain ⟨l, hl⟩ : ∃ l, l = m % 18446744073709551616 := ⟨_, rfl⟩
      rw [← hh, ← hl] at p1
      rw [← hl] at p0
      rw [← hh] at j0
      rw [← hl] at j1
      obtain ⟨h2, e2⟩ : ∃ h2, h2 = h * 2 % 18446744073709551616 := ⟨_, rfl⟩
      obtain ⟨t, et⟩ : ∃ t, t = l / 9223372036854775808 := ⟨_, rfl⟩
      obtain ⟨h3, e3⟩ : ∃ h3, h3 = (h2 + t) % 18446744073709551616 := ⟨_, rfl⟩
      obtain ⟨l2, el⟩ : ∃ l2, l2 = l * 2 % 18446744073709551616 := ⟨_, rfl⟩
      have x1 : IntKind.u64.wrap ((h : Int) * 2) = (h2 : Int) := by rw [IntKind.wrap_u64]; omega
      have x2 : (l : Int) / 9223372036854775808 = (t : Int) := by omega
      have x3 : IntKind.u64.wrap ((h2 : Int) + (t : Int)) = (h3 : Int) := by rw [IntKind.wrap_u64]; omega
      have x4 : IntKind.u64.wrap ((l : Int) * 2) = (l2 : Int) := by rw [IntKind.wrap_u64]; omega
      rw [← e2, ← et, ← e3] at p1
      rw [← el] at p0
      have P1 := Lib.hid p1
      have P0 := Lib.hid p0
      have HL := Lib.hid hlt
      clear hh hl e2 et e3 el p1 p0 HN HX
      have h128 : i < 128 := by omega
      clear hlt hi
      go_wp2_with fail
      go_roundw
      case rel => exact ⟨i + 1, ret_val (by omega), by have := HL.out; omega, HM.out.next P1.out.symm P0.out.symm rfl⟩
      case measure => simp [intOf]; have := HL.out; omega
    · obtain hie : i = far n := by omega
      have HE : Hid (R = .agg #[.int .u64 ((m / 18446744073709551616 : Nat) : Int), .int .u64 ((m % 18446744073709551616 : Nat) : Int)]) := show _ = _ by rw [HR.out, ← hie, ← HX.out]; rfl
      have hde := far_end hie
      generalize m / 18446744073709551616 = h at HE j0
      generalize m % 18446744073709551616 = l at HE j1
      have HG := Lib.hid HM.out.res
      have HL := Lib.hid HM.out.low
      clear HN HX hlt hie hi HM
      rcases hde with d1 | ⟨d1, d2⟩
      all_goals (
        go_wp2_with fail
        refine bodyPost_ret (results_row1 rfl _ _ (w.heap.size + 1) _ rfl (load_wide (two_set HG.out))) rfl ?_
        exact ⟨by rw [HE.out], below_two HL.out (by omega) _ _⟩)

theorem refUp_any (a : Nat) (n : Int) (ha : a < 340282366920938463463374607431768211456) (w : World) :
    Calls Try.prog 22 #[wv a, .int .i64 n] w fun e w' => e = .returned (wv (a * 2 ^ far n % 340282366920938463463374607431768211456)) ∧ Below w.heap.size w w' := refUp_at a _ _ n w rfl rfl ha

set_option maxHeartbeats 1000000 in
theorem refDown_at (a a1 a0 : Nat) (n : Int) (w : World) (H1 : Hid (a1 = a / 18446744073709551616)) (H0 : Hid (a0 = a % 18446744073709551616)) (ha : Hid (a < 340282366920938463463374607431768211456)) :
    Calls Try.prog 24 #[.agg #[.int .u64 (a1 : Int), .int .u64 (a0 : Int)], .int .i64 n] w fun e w' => e = .returned (wv (a / 2 ^ far n)) ∧ Below w.heap.size w w' := by
  obtain ⟨R, hR⟩ : ∃ R, R = wv (a / 2 ^ far n) := ⟨_, rfl⟩
  rw [← hR]
  have HR := Lib.hid hR
  clear hR
  go_enter Try.func24, Try.ntmps24
  go_wp2_with fail
  go_loopw [5] (fun x wr => ∃ i : Nat, x = .int .i64 (i : Int) ∧ i ≤ far n ∧ MoveAt w (a / 2 ^ i) wr) (fun x _ => far n - (intOf x).toNat)
  case atStart =>
    refine ⟨0, rfl, by omega, MoveAt.first ?_ ?_⟩
    · rw [H1.out, Nat.pow_zero, Nat.div_one]
    · rw [H0.out, Nat.pow_zero, Nat.div_one]
  case round =>
    obtain ⟨i, rfl, hi, hM⟩ := hrel
    have j0 := block_cell hM.box 0
    have j1 := block_cell hM.box 1
    have i0 := block_cell hM.res 0
    have i1 := block_cell hM.res 1
    have f0 := block_frozen hM.box 0
    have f1 := block_frozen hM.box 1
    have f2 := block_frozen hM.res 0
    have f3 := block_frozen hM.res 1
    simp only [List.getElem?_toArray, List.getElem?_cons_zero, List.getElem?_cons_succ] at j0 j1 i0 i1
    have HM := Lib.hid hM
    clear hM
    obtain ⟨m, hm⟩ : ∃ m, m = a / 2 ^ i := ⟨_, rfl⟩
    have HN := Lib.hid (down_next a i)
    rw [← hm] at j0 j1 HM HN
    have HX := Lib.hid hm
    clear hm
    have hib := far_le n
    by_cases hlt : i < far n
    · obtain ⟨d1, d2⟩ := far_go hlt
      obtain ⟨p1, p0⟩ := half_parts m
      rw [HN.out] at p1 p0
      obtain ⟨h, hh⟩ : ∃ h, h = m / 18446744073709551616 := ⟨_, rfl⟩
      obtain ⟨l, hl⟩ : ∃ l, l = m % 18446744073709551616 := ⟨_, rfl⟩
      have hlt64 : l < 18446744073709551616 := by rw [hl]; exact Nat.mod_lt _ (by omega)
      have hh64 : h < 18446744073709551616 := by
        rw [hh, HX.out]
        have := ha.out
        have h2 : a / 2 ^ i ≤ a := Nat.div_le_self _ _
        generalize a / 2 ^ i = z at *
        omega
      rw [← hh, ← hl] at p0
      rw [← hh] at p1
      rw [← hh] at j0
      rw [← hl] at j1
      obtain ⟨h2, e2⟩ : ∃ h2, h2 = h / 2 := ⟨_, rfl⟩
      obtain ⟨r, er⟩ : ∃ r, r = h % 2 := ⟨_, rfl⟩
      obtain ⟨t, et⟩ : ∃ t, t = r * 9223372036854775808 := ⟨_, rfl⟩
      obtain ⟨l3, e3⟩ : ∃ l3, l3 = l / 2 := ⟨_, rfl⟩
      obtain ⟨l2, el⟩ : ∃ l2, l2 = t + l3 := ⟨_, rfl⟩
      have x1 : (h : Int) / 2 = (h2 : Int) := by omega
      have x1' : (h : Int).tdiv 2 = (h2 : Int) := by rw [Int.tdiv_eq_ediv_of_nonneg (by omega)]; exact x1
      have x1w : IntKind.u64.wrap (h2 : Int) = (h2 : Int) := wrapN _ (by omega)
      have x2 : (h : Int) % 2 = (r : Int) := by omega
      have x2' : (h : Int).tmod 2 = (r : Int) := by rw [Int.tmod_eq_emod_of_nonneg (by omega)]; exact x2
      have x3 : IntKind.u64.wrap ((r : Int) * 9223372036854775808) = (t : Int) := by rw [IntKind.wrap_u64]; omega
      have x4 : (l : Int) / 2 = (l3 : Int) := by omega
      have x4' : (l : Int).tdiv 2 = (l3 : Int) := by rw [Int.tdiv_eq_ediv_of_nonneg (by omega)]; exact x4
      have x4w : IntKind.u64.wrap (l3 : Int) = (l3 : Int) := wrapN _ (by omega)
      have x5 : IntKind.u64.wrap ((t : Int) + (l3 : Int)) = (l2 : Int) := by rw [IntKind.wrap_u64]; omega
      rw [← e2] at p1
      rw [← er, ← et, ← e3, ← el] at p0
      have P1 := Lib.hid p1
      have P0 := Lib.hid p0
      have HL := Lib.hid hlt
      clear hh hl e2 er et e3 el p1 p0 HN HX hlt64 hh64
      have h128 : i < 128 := by omega
      clear hlt hi
      go_wp2_with fail
      go_roundw
      case rel => exact ⟨i + 1, ret_val (by omega), by have := HL.out; omega, HM.out.next P1.out.symm P0.out.symm rfl⟩
      case measure => simp [intOf]; have := HL.out; omega
    · obtain hie : i = far n := by omega
      have HE : Hid (R = .agg #[.int .u64 ((m / 18446744073709551616 : Nat) : Int), .int .u64 ((m % 18446744073709551616 : Nat) : Int)]) := show _ = _ by rw [HR.out, ← hie, ← HX.out]; rfl
      have hde := far_end hie
      generalize m / 18446744073709551616 = h at HE j0
      generalize m % 18446744073709551616 = l at HE j1
      have HG := Lib.hid HM.out.res
      have HL := Lib.hid HM.out.low
      clear HN HX hlt hie hi HM
      rcases hde with d1 | ⟨d1, d2⟩
      all_goals (
        go_wp2_with fail
        refine bodyPost_ret (results_row1 rfl _ _ (w.heap.size + 1) _ rfl (load_wide (two_set HG.out))) rfl ?_
        exact ⟨by rw [HE.out], below_two HL.out (by omega) _ _⟩)

theorem refDown_any (a : Nat) (n : Int) (ha : a < 340282366920938463463374607431768211456) (w : World) :
    Calls Try.prog 24 #[wv a, .int .i64 n] w fun e w' => e = .returned (wv (a / 2 ^ far n)) ∧ Below w.heap.size w w' := refDown_at a _ _ n w rfl rfl ha

end Go.Proofs.Ytpkfklhhljaekaa
