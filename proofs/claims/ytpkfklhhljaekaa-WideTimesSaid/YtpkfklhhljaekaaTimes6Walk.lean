/-
  The law WideTimes, walked: it returns true and writes nothing that was there; for all numbers.
-/
import Derived.Test.YtpkfklhhljaekaaStruct6
import Derived.Test.YtpkfklhhljaekaaRefD6
namespace Go.Proofs.Ytpkfklhhljaekaa
open Go.RowKit

set_option maxHeartbeats 2000000 in
theorem times_core (a1 a0 b x1 x0 p m1 m0 q : Nat) (w : World)
    (cT : Hid (∀ w, Calls Try.prog 17 #[.agg #[.int .u64 (a1 : Int), .int .u64 (a0 : Int)], .int .u64 (b : Int)] w fun e w' => e = .returned (.tuple #[.agg #[.int .u64 (x1 : Int), .int .u64 (x0 : Int)], .int .u64 (p : Int)]) ∧ Below w.heap.size w w'))
    (cRT : Hid (∀ w, Calls Try.prog 18 #[.agg #[.int .u64 (a1 : Int), .int .u64 (a0 : Int)], .int .u64 (b : Int)] w fun e w' => e = .returned (.tuple #[.agg #[.int .u64 (x1 : Int), .int .u64 (x0 : Int)], .int .u64 (p : Int)]) ∧ Below w.heap.size w w'))
    (cRM : Hid (∀ w, Calls Try.prog 18 #[.agg #[.int .u64 0, .int .u64 (a1 : Int)], .int .u64 (b : Int)] w fun e w' => e = .returned (.tuple #[.agg #[.int .u64 (m1 : Int), .int .u64 (m0 : Int)], .int .u64 (q : Int)]) ∧ Below w.heap.size w w'))
    (cM : Hid (∀ w, Calls Try.prog 19 #[.int .u64 (a1 : Int), .int .u64 (b : Int)] w fun e w' => e = .returned (.agg #[.int .u64 (m1 : Int), .int .u64 (m0 : Int)]) ∧ Below w.heap.size w w')) :
    Calls Try.prog 4 #[.agg #[.int .u64 (a1 : Int), .int .u64 (a0 : Int)], .int .u64 (b : Int)] w fun e w' => e = .returned (.bool true) ∧ Below w.heap.size w w' := by
  go_enter Try.func4, Try.ntmps4
  go_wp2_with fail
  refine (awake_any _).mono ?_
  rintro e w1 ⟨rfl, B1⟩
  have L1 : Below w.heap.size w w1 := low_a (Below.refl _ _) B1
  have a1_0 : w1.cell? ⟨w.heap.size, 0, none⟩ = some (.int .u64 (a1 : Int)) := by have h := (keep_n B1).1; simpa using h
  have a1_1 : w1.cell? ⟨w.heap.size, 1, none⟩ = some (.int .u64 (a0 : Int)) := by have h := (keep_n B1).2; simpa using h
  have Za1 : w.heap.size < w1.heap.size := by have := B1.size; simp at this; omega
  clear B1
  go_wp2_with fail
  refine (cT.out _).mono ?_
  rintro e w2 ⟨rfl, B2⟩
  have a2_0 := keep_p a1_0 B2; have a2_1 := keep_p a1_1 B2
  have L2 := low_p L1 B2
  have Za2 : w.heap.size < w2.heap.size := by have := B2.size; omega
  clear B2 L1 a1_0 a1_1 Za1
  go_wp2_with fail
  refine (cRT.out _).mono ?_
  rintro e w3 ⟨rfl, B3⟩
  have a3_0 := keep_a a2_0 B3; have a3_1 := keep_a a2_1 B3
  obtain ⟨x3_0, x3_1⟩ := keep_n B3
  have L3 := low_a L2 B3
  have Za3 : w.heap.size < w3.heap.size := by have := B3.size; simp at this; omega
  have Zx3 : w2.heap.size < w3.heap.size := by have := B3.size; simp at this; omega
  clear B3 L2 a2_0 a2_1 Za2
  generalize w2.heap.size = g_x at *
  go_wp2_with fail
  refine (cRM.out _).mono ?_
  rintro e w4 ⟨rfl, B4⟩
  have a4_0 := keep_a a3_0 B4; have a4_1 := keep_a a3_1 B4
  have x4_0 := keep_a x3_0 B4; have x4_1 := keep_a x3_1 B4
  obtain ⟨y4_0, y4_1⟩ := keep_n B4
  have L4 := low_a L3 B4
  have Za4 : w.heap.size < w4.heap.size := by have := B4.size; simp at this; omega
  have Zx4 : g_x < w4.heap.size := by have := B4.size; simp at this; omega
  have Zy4 : w3.heap.size < w4.heap.size := by have := B4.size; simp at this; omega
  clear B4 L3 a3_0 a3_1 x3_0 x3_1 Za3 Zx3
  generalize w3.heap.size = g_y at *
  go_wp2_with fail
  obtain ⟨W, hW⟩ : ∃ W, W = w4.alloc (Obj.cells #[.int .u64 (m1 : Int), .int .u64 (m0 : Int)] 24) := ⟨_, rfl⟩
  have ml_0 : W.cell? ⟨w4.heap.size, 0, none⟩ = some (.int .u64 (m1 : Int)) := by rw [hW]; simp [go_sem]
  have ml_1 : W.cell? ⟨w4.heap.size, 1, none⟩ = some (.int .u64 (m0 : Int)) := by rw [hW]; simp [go_sem]
  have al_0 := hW ▸ cell_past (Obj.cells #[.int .u64 (m1 : Int), .int .u64 (m0 : Int)] 24) a4_0; have al_1 := hW ▸ cell_past (Obj.cells #[.int .u64 (m1 : Int), .int .u64 (m0 : Int)] 24) a4_1
  have xl_0 := hW ▸ cell_past (Obj.cells #[.int .u64 (m1 : Int), .int .u64 (m0 : Int)] 24) x4_0; have xl_1 := hW ▸ cell_past (Obj.cells #[.int .u64 (m1 : Int), .int .u64 (m0 : Int)] 24) x4_1
  have yl_0 := hW ▸ cell_past (Obj.cells #[.int .u64 (m1 : Int), .int .u64 (m0 : Int)] 24) y4_0; have yl_1 := hW ▸ cell_past (Obj.cells #[.int .u64 (m1 : Int), .int .u64 (m0 : Int)] 24) y4_1
  have LW : Below w.heap.size w W := by rw [hW]; exact L4.alloc L4.size _
  rw [← hW]
  clear hW L4 a4_0 a4_1 x4_0 x4_1 y4_0 y4_1 Za4 Zx4 Zy4
  generalize w4.heap.size = g_m at *
  have ar_0 := cell_regrown al_0; have ar_1 := cell_regrown al_1
  have xr_0 := cell_regrown xl_0; have xr_1 := cell_regrown xl_1
  have yr_0 := cell_regrown yl_0; have yr_1 := cell_regrown yl_1
  have mr_0 := cell_regrown ml_0; have mr_1 := cell_regrown ml_1
  clear al_0 al_1 xl_0 xl_1 yl_0 yl_1 ml_0 ml_1
  have HL := Lib.hid LW; clear LW
  have rM : ∀ d os, Calls Try.prog 19 #[.int .u64 (a1 : Int), .int .u64 (b : Int)] (Sort.grow (redrawn W d) os) fun x w'' => x = .returned (.agg #[.int .u64 (m1 : Int), .int .u64 (m0 : Int)]) ∧ ∃ p : Regrown, w'' = Sort.grow (redrawn W p.d) p.os := fun d os => Calls.regrown_of (cM.out _)
  refine wp_region_quiet_below (by kernel_rfl) (by kernel_rfl) ?_
  repeat (go_big_quiet_step (first | with_reducible exact rM _ _))
  refine wpQuiet_nil ?_
  intro _ hw'
  obtain ⟨⟨dq, osq⟩, hw''⟩ := hw'
  subst hw''
  have B3 : Below w.heap.size w (Sort.grow (redrawn W dq) osq) := HL.out.trans ((below_regrown W dq osq).mono HL.out.size)
  have HB := Lib.hid B3
  clear rM B3
  go_wp2_with fail
  go_ret
  exact ⟨rfl, HB.out⟩

theorem times_all (a b : Nat) (ha : a < 340282366920938463463374607431768211456) (hb : b < 18446744073709551616) (w : World) :
    Calls Try.prog 4 #[wv a, .int .u64 (b : Int)] w fun e w' => e = .returned (.bool true) ∧ Below w.heap.size w w' := by
  have h1 : a / 18446744073709551616 < 18446744073709551616 := by omega
  have cRM := refTimes_any (a / 18446744073709551616) b (by omega) hb
  have eO : wv (a / 18446744073709551616) = .agg #[.int .u64 0, .int .u64 ((a / 18446744073709551616 : Nat) : Int)] := (wv_of (h := 0) (l := a / 18446744073709551616) (by omega) (by omega)).symm
  rw [eO, Nat.mod_eq_of_lt (prod_lt h1 hb).1] at cRM
  exact times_core _ _ b _ _ _ _ _ _ w (times_any a b ha hb) (refTimes_any a b ha hb) cRM (mul_any _ b h1 hb)
theorem times_in (a : Nat) (k : Int) (ha : a < 340282366920938463463374607431768211456) (hk : (Lit.int .u64 k).wf = true) (w : World) :
    Calls Try.prog 4 #[wv a, .int .u64 k] w fun e w' => e = .returned (.bool true) ∧ Below w.heap.size w w' := by
  obtain ⟨n, hn, rfl⟩ := nat_u64 hk
  exact times_all a n ha hn w

end Go.Proofs.Ytpkfklhhljaekaa
