/-
  The law WideLaws, walked: it returns true and writes nothing that was there; for all numbers.
-/
import Derived.Test.YtpkfklhhljaekaaStruct6
import Derived.Test.YtpkfklhhljaekaaWideG
namespace Go.Proofs.Ytpkfklhhljaekaa
open Go.RowKit

theorem sub_back {a b : Nat} (ha : a < 340282366920938463463374607431768211456) (hb : b < 340282366920938463463374607431768211456) : subW ((a + b) % 340282366920938463463374607431768211456) b = a := by unfold subW; omega
theorem times_sum (a b k N : Nat) : (a * k % N + b * k % N) % N = (a + b) % N * k % N := by
  rw [← Nat.add_mod, ← Nat.add_mul, Nat.mod_mul_mod]
theorem cmp_three (a b : Nat) : (cmpI a b = -1 ∧ cmpI b a = 1 ∧ a ≠ b) ∨ (cmpI a b = 0 ∧ cmpI b a = 0 ∧ a = b) ∨ (cmpI a b = 1 ∧ cmpI b a = -1 ∧ a ≠ b) := by
  unfold cmpI
  rcases Nat.lt_trichotomy a b with h | h | h
  · left; refine ⟨by rw [if_pos h], by rw [if_neg (by omega), if_pos h], by omega⟩
  · right; left; subst h; simp
  · right; right; refine ⟨by rw [if_neg (by omega), if_pos h], by rw [if_pos h], by omega⟩
/-- Two numbers that are not one part in a half. -/
theorem halves_ne {a b : Nat} (h : a ≠ b) : (((a / 18446744073709551616 : Nat) : Int) == ((b / 18446744073709551616 : Nat) : Int)) = false ∨ ((((a / 18446744073709551616 : Nat) : Int) == ((b / 18446744073709551616 : Nat) : Int)) = true ∧ (((a % 18446744073709551616 : Nat) : Int) == ((b % 18446744073709551616 : Nat) : Int)) = false) := by
  rw [beq_eq_false_iff_ne, beq_eq_false_iff_ne, beq_iff_eq]
  omega

set_option maxHeartbeats 2000000 in
set_option maxRecDepth 100000 in
theorem laws_core (a1 a0 b1 b0 k s1 s0 x1 x0 y1 y0 z1 z0 : Nat) (o1 o2 o3 o7 : Bool) (p4 p5 p6 : Nat) (p q : Int) (w : World)
    (c1 : Hid (∀ w, Calls Try.prog 10 #[.agg #[.int .u64 (a1 : Int), .int .u64 (a0 : Int)], .agg #[.int .u64 (b1 : Int), .int .u64 (b0 : Int)]] w fun e w' => e = .returned (.tuple #[.agg #[.int .u64 (s1 : Int), .int .u64 (s0 : Int)], .bool o1]) ∧ Below w.heap.size w w'))
    (c2 : Hid (∀ w, Calls Try.prog 10 #[.agg #[.int .u64 (b1 : Int), .int .u64 (b0 : Int)], .agg #[.int .u64 (a1 : Int), .int .u64 (a0 : Int)]] w fun e w' => e = .returned (.tuple #[.agg #[.int .u64 (s1 : Int), .int .u64 (s0 : Int)], .bool o2]) ∧ Below w.heap.size w w'))
    (c3 : Hid (∀ w, Calls Try.prog 12 #[.agg #[.int .u64 (s1 : Int), .int .u64 (s0 : Int)], .agg #[.int .u64 (b1 : Int), .int .u64 (b0 : Int)]] w fun e w' => e = .returned (.tuple #[.agg #[.int .u64 (a1 : Int), .int .u64 (a0 : Int)], .bool o3]) ∧ Below w.heap.size w w'))
    (c4 : Hid (∀ w, Calls Try.prog 17 #[.agg #[.int .u64 (s1 : Int), .int .u64 (s0 : Int)], .int .u64 (k : Int)] w fun e w' => e = .returned (.tuple #[.agg #[.int .u64 (x1 : Int), .int .u64 (x0 : Int)], .int .u64 (p4 : Int)]) ∧ Below w.heap.size w w'))
    (c5 : Hid (∀ w, Calls Try.prog 17 #[.agg #[.int .u64 (a1 : Int), .int .u64 (a0 : Int)], .int .u64 (k : Int)] w fun e w' => e = .returned (.tuple #[.agg #[.int .u64 (y1 : Int), .int .u64 (y0 : Int)], .int .u64 (p5 : Int)]) ∧ Below w.heap.size w w'))
    (c6 : Hid (∀ w, Calls Try.prog 17 #[.agg #[.int .u64 (b1 : Int), .int .u64 (b0 : Int)], .int .u64 (k : Int)] w fun e w' => e = .returned (.tuple #[.agg #[.int .u64 (z1 : Int), .int .u64 (z0 : Int)], .int .u64 (p6 : Int)]) ∧ Below w.heap.size w w'))
    (c7 : Hid (∀ w, Calls Try.prog 10 #[.agg #[.int .u64 (y1 : Int), .int .u64 (y0 : Int)], .agg #[.int .u64 (z1 : Int), .int .u64 (z0 : Int)]] w fun e w' => e = .returned (.tuple #[.agg #[.int .u64 (x1 : Int), .int .u64 (x0 : Int)], .bool o7]) ∧ Below w.heap.size w w'))
    (c8 : Hid (∀ w, Calls Try.prog 14 #[.agg #[.int .u64 (a1 : Int), .int .u64 (a0 : Int)], .agg #[.int .u64 (b1 : Int), .int .u64 (b0 : Int)]] w fun e w' => e = .returned (.int .i64 p) ∧ Below w.heap.size w w'))
    (c9 : Hid (∀ w, Calls Try.prog 14 #[.agg #[.int .u64 (b1 : Int), .int .u64 (b0 : Int)], .agg #[.int .u64 (a1 : Int), .int .u64 (a0 : Int)]] w fun e w' => e = .returned (.int .i64 q) ∧ Below w.heap.size w w'))
    (hpq : Hid ((p = 0 ∧ q = 0 ∧ ((a1 : Int) == (b1 : Int)) = true ∧ ((a0 : Int) == (b0 : Int)) = true) ∨ (((p = -1 ∧ q = 1) ∨ (p = 1 ∧ q = -1)) ∧ (((a1 : Int) == (b1 : Int)) = false ∨ (((a1 : Int) == (b1 : Int)) = true ∧ ((a0 : Int) == (b0 : Int)) = false))))) :
    Calls Try.prog 8 #[.agg #[.int .u64 (a1 : Int), .int .u64 (a0 : Int)], .agg #[.int .u64 (b1 : Int), .int .u64 (b0 : Int)], .int .u64 (k : Int)] w fun e w' => e = .returned (.bool true) ∧ Below w.heap.size w w' := by
  go_enter Try.func8, Try.ntmps8
  go_wp2_with fail
  refine (awake_any _).mono ?_
  rintro e w1 ⟨rfl, B1⟩
  have L1 : Below w.heap.size w w1 := low_a ((Below.refl _ _).alloc (by simp) _) B1
  have a1_0 : w1.cell? ⟨w.heap.size, 0, none⟩ = some (.int .u64 (a1 : Int)) := keep_a (by simp [go_sem]) B1
  have a1_1 : w1.cell? ⟨w.heap.size, 1, none⟩ = some (.int .u64 (a0 : Int)) := keep_a (by simp [go_sem]) B1
  have b1_0 : w1.cell? ⟨w.heap.size + 1, 0, none⟩ = some (.int .u64 (b1 : Int)) := by have h := (keep_n B1).1; simpa using h
  have b1_1 : w1.cell? ⟨w.heap.size + 1, 1, none⟩ = some (.int .u64 (b0 : Int)) := by have h := (keep_n B1).2; simpa using h
  have Za1 : w.heap.size < w1.heap.size := by have := B1.size; simp at this; omega
  have Zb1 : w.heap.size + 1 < w1.heap.size := by have := B1.size; simp at this; omega
  clear B1
  go_wp2_with fail
  refine (c1.out _).mono ?_
  rintro e w2 ⟨rfl, B2⟩
  have a2_0 := keep_p a1_0 B2; have a2_1 := keep_p a1_1 B2
  have b2_0 := keep_p b1_0 B2; have b2_1 := keep_p b1_1 B2
  have L2 := low_p L1 B2
  have Za2 : w.heap.size < w2.heap.size := by have := B2.size; omega
  have Zb2 : w.heap.size + 1 < w2.heap.size := by have := B2.size; omega
  clear B2 L1 a1_0 a1_1 b1_0 b1_1 Za1 Zb1
  go_wp2_with fail
  refine (c2.out _).mono ?_
  rintro e w3 ⟨rfl, B3⟩
  have a3_0 := keep_a a2_0 B3; have a3_1 := keep_a a2_1 B3
  have b3_0 := keep_a b2_0 B3; have b3_1 := keep_a b2_1 B3
  obtain ⟨s3_0, s3_1⟩ := keep_n B3
  have L3 := low_a L2 B3
  have Za3 : w.heap.size < w3.heap.size := by have := B3.size; simp at this; omega
  have Zb3 : w.heap.size + 1 < w3.heap.size := by have := B3.size; simp at this; omega
  have Zs3 : w2.heap.size < w3.heap.size := by have := B3.size; simp at this; omega
  clear B3 L2 a2_0 a2_1 b2_0 b2_1 Za2 Zb2
  generalize w2.heap.size = g_s at *
  go_wp2_with fail
  refine (c3.out _).mono ?_
  rintro e w4 ⟨rfl, B4⟩
  have a4_0 := keep_a a3_0 B4; have a4_1 := keep_a a3_1 B4
  have b4_0 := keep_a b3_0 B4; have b4_1 := keep_a b3_1 B4
  have s4_0 := keep_a s3_0 B4; have s4_1 := keep_a s3_1 B4
  obtain ⟨t4_0, t4_1⟩ := keep_n B4
  have L4 := low_a L3 B4
  have Za4 : w.heap.size < w4.heap.size := by have := B4.size; simp at this; omega
  have Zb4 : w.heap.size + 1 < w4.heap.size := by have := B4.size; simp at this; omega
  have Zs4 : g_s < w4.heap.size := by have := B4.size; simp at this; omega
  have Zt4 : w3.heap.size < w4.heap.size := by have := B4.size; simp at this; omega
  clear B4 L3 a3_0 a3_1 b3_0 b3_1 s3_0 s3_1 Za3 Zb3 Zs3
  generalize w3.heap.size = g_t at *
  go_wp2_with fail
  refine (c4.out _).mono ?_
  rintro e w5 ⟨rfl, B5⟩
  have a5_0 := keep_a a4_0 B5; have a5_1 := keep_a a4_1 B5
  have b5_0 := keep_a b4_0 B5; have b5_1 := keep_a b4_1 B5
  have s5_0 := keep_a s4_0 B5; have s5_1 := keep_a s4_1 B5
  have t5_0 := keep_a t4_0 B5; have t5_1 := keep_a t4_1 B5
  obtain ⟨d5_0, d5_1⟩ := keep_n B5
  have L5 := low_a L4 B5
  have Za5 : w.heap.size < w5.heap.size := by have := B5.size; simp at this; omega
  have Zb5 : w.heap.size + 1 < w5.heap.size := by have := B5.size; simp at this; omega
  have Zs5 : g_s < w5.heap.size := by have := B5.size; simp at this; omega
  have Zt5 : g_t < w5.heap.size := by have := B5.size; simp at this; omega
  have Zd5 : w4.heap.size < w5.heap.size := by have := B5.size; simp at this; omega
  clear B5 L4 a4_0 a4_1 b4_0 b4_1 s4_0 s4_1 t4_0 t4_1 Za4 Zb4 Zs4 Zt4
  generalize w4.heap.size = g_d at *
  go_wp2_with fail
  refine (c5.out _).mono ?_
  rintro e w6 ⟨rfl, B6⟩
  have a6_0 := keep_a a5_0 B6; have a6_1 := keep_a a5_1 B6
  have b6_0 := keep_a b5_0 B6; have b6_1 := keep_a b5_1 B6
  have s6_0 := keep_a s5_0 B6; have s6_1 := keep_a s5_1 B6
  have t6_0 := keep_a t5_0 B6; have t6_1 := keep_a t5_1 B6
  have d6_0 := keep_a d5_0 B6; have d6_1 := keep_a d5_1 B6
  obtain ⟨x6_0, x6_1⟩ := keep_n B6
  have L6 := low_a L5 B6
  have Za6 : w.heap.size < w6.heap.size := by have := B6.size; simp at this; omega
  have Zb6 : w.heap.size + 1 < w6.heap.size := by have := B6.size; simp at this; omega
  have Zs6 : g_s < w6.heap.size := by have := B6.size; simp at this; omega
  have Zt6 : g_t < w6.heap.size := by have := B6.size; simp at this; omega
  have Zd6 : g_d < w6.heap.size := by have := B6.size; simp at this; omega
  have Zx6 : w5.heap.size < w6.heap.size := by have := B6.size; simp at this; omega
  clear B6 L5 a5_0 a5_1 b5_0 b5_1 s5_0 s5_1 t5_0 t5_1 d5_0 d5_1 Za5 Zb5 Zs5 Zt5 Zd5
  generalize w5.heap.size = g_x at *
  go_wp2_with fail
  refine (c6.out _).mono ?_
  rintro e w7 ⟨rfl, B7⟩
  have a7_0 := keep_a a6_0 B7; have a7_1 := keep_a a6_1 B7
  have b7_0 := keep_a b6_0 B7; have b7_1 := keep_a b6_1 B7
  have s7_0 := keep_a s6_0 B7; have s7_1 := keep_a s6_1 B7
  have t7_0 := keep_a t6_0 B7; have t7_1 := keep_a t6_1 B7
  have d7_0 := keep_a d6_0 B7; have d7_1 := keep_a d6_1 B7
  have x7_0 := keep_a x6_0 B7; have x7_1 := keep_a x6_1 B7
  obtain ⟨y7_0, y7_1⟩ := keep_n B7
  have L7 := low_a L6 B7
  have Za7 : w.heap.size < w7.heap.size := by have := B7.size; simp at this; omega
  have Zb7 : w.heap.size + 1 < w7.heap.size := by have := B7.size; simp at this; omega
  have Zs7 : g_s < w7.heap.size := by have := B7.size; simp at this; omega
  have Zt7 : g_t < w7.heap.size := by have := B7.size; simp at this; omega
  have Zd7 : g_d < w7.heap.size := by have := B7.size; simp at this; omega
  have Zx7 : g_x < w7.heap.size := by have := B7.size; simp at this; omega
  have Zy7 : w6.heap.size < w7.heap.size := by have := B7.size; simp at this; omega
  clear B7 L6 a6_0 a6_1 b6_0 b6_1 s6_0 s6_1 t6_0 t6_1 d6_0 d6_1 x6_0 x6_1 Za6 Zb6 Zs6 Zt6 Zd6 Zx6
  generalize w6.heap.size = g_y at *
  go_wp2_with fail
  refine (c7.out _).mono ?_
  rintro e w8 ⟨rfl, B8⟩
  have a8_0 := keep_a a7_0 B8; have a8_1 := keep_a a7_1 B8
  have b8_0 := keep_a b7_0 B8; have b8_1 := keep_a b7_1 B8
  have s8_0 := keep_a s7_0 B8; have s8_1 := keep_a s7_1 B8
  have t8_0 := keep_a t7_0 B8; have t8_1 := keep_a t7_1 B8
  have d8_0 := keep_a d7_0 B8; have d8_1 := keep_a d7_1 B8
  have x8_0 := keep_a x7_0 B8; have x8_1 := keep_a x7_1 B8
  have y8_0 := keep_a y7_0 B8; have y8_1 := keep_a y7_1 B8
  obtain ⟨z8_0, z8_1⟩ := keep_n B8
  have L8 := low_a L7 B8
  have Za8 : w.heap.size < w8.heap.size := by have := B8.size; simp at this; omega
  have Zb8 : w.heap.size + 1 < w8.heap.size := by have := B8.size; simp at this; omega
  have Zs8 : g_s < w8.heap.size := by have := B8.size; simp at this; omega
  have Zt8 : g_t < w8.heap.size := by have := B8.size; simp at this; omega
  have Zd8 : g_d < w8.heap.size := by have := B8.size; simp at this; omega
  have Zx8 : g_x < w8.heap.size := by have := B8.size; simp at this; omega
  have Zy8 : g_y < w8.heap.size := by have := B8.size; simp at this; omega
  have Zz8 : w7.heap.size < w8.heap.size := by have := B8.size; simp at this; omega
  clear B8 L7 a7_0 a7_1 b7_0 b7_1 s7_0 s7_1 t7_0 t7_1 d7_0 d7_1 x7_0 x7_1 y7_0 y7_1 Za7 Zb7 Zs7 Zt7 Zd7 Zx7 Zy7
  generalize w7.heap.size = g_z at *
  go_wp2_with fail
  obtain ⟨W, hW⟩ : ∃ W, W = w8.alloc (Obj.cells #[.int .u64 (x1 : Int), .int .u64 (x0 : Int)] 24) := ⟨_, rfl⟩
  have ul_0 : W.cell? ⟨w8.heap.size, 0, none⟩ = some (.int .u64 (x1 : Int)) := by rw [hW]; simp [go_sem]
  have ul_1 : W.cell? ⟨w8.heap.size, 1, none⟩ = some (.int .u64 (x0 : Int)) := by rw [hW]; simp [go_sem]
  have al_0 := hW ▸ cell_past (Obj.cells #[.int .u64 (x1 : Int), .int .u64 (x0 : Int)] 24) a8_0; have al_1 := hW ▸ cell_past (Obj.cells #[.int .u64 (x1 : Int), .int .u64 (x0 : Int)] 24) a8_1
  have bl_0 := hW ▸ cell_past (Obj.cells #[.int .u64 (x1 : Int), .int .u64 (x0 : Int)] 24) b8_0; have bl_1 := hW ▸ cell_past (Obj.cells #[.int .u64 (x1 : Int), .int .u64 (x0 : Int)] 24) b8_1
  have sl_0 := hW ▸ cell_past (Obj.cells #[.int .u64 (x1 : Int), .int .u64 (x0 : Int)] 24) s8_0; have sl_1 := hW ▸ cell_past (Obj.cells #[.int .u64 (x1 : Int), .int .u64 (x0 : Int)] 24) s8_1
  have tl_0 := hW ▸ cell_past (Obj.cells #[.int .u64 (x1 : Int), .int .u64 (x0 : Int)] 24) t8_0; have tl_1 := hW ▸ cell_past (Obj.cells #[.int .u64 (x1 : Int), .int .u64 (x0 : Int)] 24) t8_1
  have dl_0 := hW ▸ cell_past (Obj.cells #[.int .u64 (x1 : Int), .int .u64 (x0 : Int)] 24) d8_0; have dl_1 := hW ▸ cell_past (Obj.cells #[.int .u64 (x1 : Int), .int .u64 (x0 : Int)] 24) d8_1
  have xl_0 := hW ▸ cell_past (Obj.cells #[.int .u64 (x1 : Int), .int .u64 (x0 : Int)] 24) x8_0; have xl_1 := hW ▸ cell_past (Obj.cells #[.int .u64 (x1 : Int), .int .u64 (x0 : Int)] 24) x8_1
  have yl_0 := hW ▸ cell_past (Obj.cells #[.int .u64 (x1 : Int), .int .u64 (x0 : Int)] 24) y8_0; have yl_1 := hW ▸ cell_past (Obj.cells #[.int .u64 (x1 : Int), .int .u64 (x0 : Int)] 24) y8_1
  have zl_0 := hW ▸ cell_past (Obj.cells #[.int .u64 (x1 : Int), .int .u64 (x0 : Int)] 24) z8_0; have zl_1 := hW ▸ cell_past (Obj.cells #[.int .u64 (x1 : Int), .int .u64 (x0 : Int)] 24) z8_1
  have LW : Below w.heap.size w W := by rw [hW]; exact L8.alloc L8.size _
  rw [← hW]
  clear hW L8 a8_0 a8_1 b8_0 b8_1 s8_0 s8_1 t8_0 t8_1 d8_0 d8_1 x8_0 x8_1 y8_0 y8_1 z8_0 z8_1 Za8 Zb8 Zs8 Zt8 Zd8 Zx8 Zy8 Zz8
  generalize w8.heap.size = g_u at *
  have ar_0 := cell_regrown al_0; have ar_1 := cell_regrown al_1
  have br_0 := cell_regrown bl_0; have br_1 := cell_regrown bl_1
  have sr_0 := cell_regrown sl_0; have sr_1 := cell_regrown sl_1
  have tr_0 := cell_regrown tl_0; have tr_1 := cell_regrown tl_1
  have dr_0 := cell_regrown dl_0; have dr_1 := cell_regrown dl_1
  have xr_0 := cell_regrown xl_0; have xr_1 := cell_regrown xl_1
  have yr_0 := cell_regrown yl_0; have yr_1 := cell_regrown yl_1
  have zr_0 := cell_regrown zl_0; have zr_1 := cell_regrown zl_1
  have ur_0 := cell_regrown ul_0; have ur_1 := cell_regrown ul_1
  clear al_0 al_1 bl_0 bl_1 sl_0 sl_1 tl_0 tl_1 dl_0 dl_1 xl_0 xl_1 yl_0 yl_1 zl_0 zl_1 ul_0 ul_1
  have HL := Lib.hid LW; clear LW
  rcases hpq.out with ⟨hp, hq, h1, h0⟩ | ⟨⟨hp, hq⟩ | ⟨hp, hq⟩, he | ⟨he, he'⟩⟩
  all_goals (
    subst hp hq
    have r8 : ∀ d os, Calls Try.prog 14 #[.agg #[.int .u64 (a1 : Int), .int .u64 (a0 : Int)], .agg #[.int .u64 (b1 : Int), .int .u64 (b0 : Int)]] (Sort.grow (redrawn W d) os) fun x w'' => x = .returned (.int .i64 _) ∧ ∃ p : Regrown, w'' = Sort.grow (redrawn W p.d) p.os := fun d os => Calls.regrown_of (c8.out _)
    have r9 : ∀ d os, Calls Try.prog 14 #[.agg #[.int .u64 (b1 : Int), .int .u64 (b0 : Int)], .agg #[.int .u64 (a1 : Int), .int .u64 (a0 : Int)]] (Sort.grow (redrawn W d) os) fun x w'' => x = .returned (.int .i64 _) ∧ ∃ p : Regrown, w'' = Sort.grow (redrawn W p.d) p.os := fun d os => Calls.regrown_of (c9.out _)
    refine wp_region_quiet_below (by kernel_rfl) (by kernel_rfl) ?_
    repeat (go_big_quiet_step (first | with_reducible exact r8 _ _ | with_reducible exact r9 _ _))
    refine wpQuiet_nil ?_
    intro _ hw'
    obtain ⟨⟨dq, osq⟩, hw''⟩ := hw'
    subst hw''
    have B3 : Below w.heap.size w (Sort.grow (redrawn W dq) osq) := HL.out.trans ((below_regrown W dq osq).mono HL.out.size)
    have HB := Lib.hid B3
    clear r8 r9 B3
    go_wp2_with fail
    go_ret
    exact ⟨rfl, HB.out⟩)

theorem laws_any (a b k : Nat) (ha : a < 340282366920938463463374607431768211456) (hb : b < 340282366920938463463374607431768211456) (hk : k < 18446744073709551616) (w : World) :
    Calls Try.prog 8 #[wv a, wv b, .int .u64 (k : Int)] w fun e w' => e = .returned (.bool true) ∧ Below w.heap.size w w' := by
  have hs : (a + b) % 340282366920938463463374607431768211456 < 340282366920938463463374607431768211456 := Nat.mod_lt _ (by omega)
  have c1 := add_any a b ha hb
  have c2 := add_any b a hb ha
  rw [Nat.add_comm b a] at c2
  have c3 := sub_any _ b hs hb
  rw [sub_back ha hb] at c3
  have c4 := times_any _ k hs hk
  have c5 := times_any a k ha hk
  have c6 := times_any b k hb hk
  have c7 := add_any (a * k % 340282366920938463463374607431768211456) (b * k % 340282366920938463463374607431768211456) (Nat.mod_lt _ (by omega)) (Nat.mod_lt _ (by omega))
  rw [times_sum] at c7
  have c8 := cmp_any a b
  have c9 := cmp_any b a
  refine laws_core _ _ _ _ k _ _ _ _ _ _ _ _ _ _ _ _ _ _ _ _ _ w c1 c2 c3 c4 c5 c6 c7 c8 c9 ?_
  rcases cmp_three a b with ⟨h1, h2, h3⟩ | ⟨h1, h2, h3⟩ | ⟨h1, h2, h3⟩
  · exact .inr ⟨.inl ⟨h1, h2⟩, halves_ne h3⟩
  · exact .inl ⟨h1, h2, by rw [h3]; simp, by rw [h3]; simp⟩
  · exact .inr ⟨.inr ⟨h1, h2⟩, halves_ne h3⟩

theorem laws_in (a b : Nat) (k : Int) (ha : a < 340282366920938463463374607431768211456) (hb : b < 340282366920938463463374607431768211456) (hk : (Lit.int .u64 k).wf = true) (w : World) :
    Calls Try.prog 8 #[wv a, wv b, .int .u64 k] w fun e w' => e = .returned (.bool true) ∧ Below w.heap.size w w' := by
  obtain ⟨n, hn, rfl⟩ := nat_u64 hk
  exact laws_any a b n ha hb hn w

end Go.Proofs.Ytpkfklhhljaekaa
