/-
  The law WideSums, walked: it returns true and writes nothing that was there; for all numbers.
-/
import Derived.Test.YtpkfklhhljaekaaStruct6
import Derived.Test.YtpkfklhhljaekaaRefC6
namespace Go.Proofs.Ytpkfklhhljaekaa
open Go.RowKit

set_option maxHeartbeats 2000000 in
theorem sums_core (a1 a0 b1 b0 s1 s0 d1 d0 : Nat) (o1 o2 : Bool) (p : Int) (w : World)
    (cA : Hid (∀ w, Calls Try.prog 10 #[.agg #[.int .u64 (a1 : Int), .int .u64 (a0 : Int)], .agg #[.int .u64 (b1 : Int), .int .u64 (b0 : Int)]] w fun e w' => e = .returned (.tuple #[.agg #[.int .u64 (s1 : Int), .int .u64 (s0 : Int)], .bool o1]) ∧ Below w.heap.size w w'))
    (cRA : Hid (∀ w, Calls Try.prog 11 #[.agg #[.int .u64 (a1 : Int), .int .u64 (a0 : Int)], .agg #[.int .u64 (b1 : Int), .int .u64 (b0 : Int)]] w fun e w' => e = .returned (.tuple #[.agg #[.int .u64 (s1 : Int), .int .u64 (s0 : Int)], .bool o1]) ∧ Below w.heap.size w w'))
    (cS : Hid (∀ w, Calls Try.prog 12 #[.agg #[.int .u64 (a1 : Int), .int .u64 (a0 : Int)], .agg #[.int .u64 (b1 : Int), .int .u64 (b0 : Int)]] w fun e w' => e = .returned (.tuple #[.agg #[.int .u64 (d1 : Int), .int .u64 (d0 : Int)], .bool o2]) ∧ Below w.heap.size w w'))
    (cRS : Hid (∀ w, Calls Try.prog 13 #[.agg #[.int .u64 (a1 : Int), .int .u64 (a0 : Int)], .agg #[.int .u64 (b1 : Int), .int .u64 (b0 : Int)]] w fun e w' => e = .returned (.tuple #[.agg #[.int .u64 (d1 : Int), .int .u64 (d0 : Int)], .bool o2]) ∧ Below w.heap.size w w'))
    (cC : Hid (∀ w, Calls Try.prog 14 #[.agg #[.int .u64 (a1 : Int), .int .u64 (a0 : Int)], .agg #[.int .u64 (b1 : Int), .int .u64 (b0 : Int)]] w fun e w' => e = .returned (.int .i64 p) ∧ Below w.heap.size w w'))
    (cRC : Hid (∀ w, Calls Try.prog 15 #[.agg #[.int .u64 (a1 : Int), .int .u64 (a0 : Int)], .agg #[.int .u64 (b1 : Int), .int .u64 (b0 : Int)]] w fun e w' => e = .returned (.int .i64 p) ∧ Below w.heap.size w w'))
    (cO : Hid (∀ w, Calls Try.prog 16 #[.int .u64 (a0 : Int)] w fun e w' => e = .returned (.agg #[.int .u64 0, .int .u64 (a0 : Int)]) ∧ Below w.heap.size w w')) :
    Calls Try.prog 3 #[.agg #[.int .u64 (a1 : Int), .int .u64 (a0 : Int)], .agg #[.int .u64 (b1 : Int), .int .u64 (b0 : Int)]] w fun e w' => e = .returned (.bool true) ∧ Below w.heap.size w w' := by
  go_enter Try.func3, Try.ntmps3
  go_wp2_with fail
  refine (awake_any _).mono ?_
  rintro e w1 ⟨rfl, B1⟩
  have L1 : Below w.heap.size w w1 := low_a ((Below.refl _ _).alloc (by simp) _) B1
  have a1_0 : w1.cell? ⟨w.heap.size, 0, none⟩ = some (.int .u64 (a1 : Int)) := keep_a (by simp [go_sem]) B1
  have a1_1 : w1.cell? ⟨w.heap.size, 1, none⟩ = some (.int .u64 (a0 : Int)) := keep_a (by simp [go_sem]) B1
  have b1_0 : w1.cell? ⟨w.heap.size + 1, 0, none⟩ = some (.int .u64 (b1 : Int)) := by have h := (keep_n B1).1; simpa using h
  have b1_1 : w1.cell? ⟨w.heap.size + 1, 1, none⟩ = some (.int .u64 (b0 : Int)) := by have h := (keep_n B1).2; simpa using h
  have Za1 : w.heap.size < w1.heap.size := by have := B1.size; simp at this; omega
  have Zb1 : w.heap.size + 1 < w1.heap.size := by have := B1.size; simp at this; omega
  clear B1
  go_wp2_with fail
  refine (cA.out _).mono ?_
  rintro e w2 ⟨rfl, B2⟩
  have a2_0 := keep_p a1_0 B2; have a2_1 := keep_p a1_1 B2
  have b2_0 := keep_p b1_0 B2; have b2_1 := keep_p b1_1 B2
  have L2 := low_p L1 B2
  have Za2 : w.heap.size < w2.heap.size := by have := B2.size; omega
  have Zb2 : w.heap.size + 1 < w2.heap.size := by have := B2.size; omega
  clear B2 L1 a1_0 a1_1 b1_0 b1_1 Za1 Zb1
  go_wp2_with fail
  refine (cRA.out _).mono ?_
  rintro e w3 ⟨rfl, B3⟩
  have a3_0 := keep_a a2_0 B3; have a3_1 := keep_a a2_1 B3
  have b3_0 := keep_a b2_0 B3; have b3_1 := keep_a b2_1 B3
  obtain ⟨s3_0, s3_1⟩ := keep_n B3
  have L3 := low_a L2 B3
  have Za3 : w.heap.size < w3.heap.size := by have := B3.size; simp at this; omega
  have Zb3 : w.heap.size + 1 < w3.heap.size := by have := B3.size; simp at this; omega
  have Zs3 : w2.heap.size < w3.heap.size := by have := B3.size; simp at this; omega
  clear B3 L2 a2_0 a2_1 b2_0 b2_1 Za2 Zb2
  generalize w2.heap.size = g_s at *
  go_wp2_with fail
  refine (cS.out _).mono ?_
  rintro e w4 ⟨rfl, B4⟩
  have a4_0 := keep_a a3_0 B4; have a4_1 := keep_a a3_1 B4
  have b4_0 := keep_a b3_0 B4; have b4_1 := keep_a b3_1 B4
  have s4_0 := keep_a s3_0 B4; have s4_1 := keep_a s3_1 B4
  obtain ⟨t4_0, t4_1⟩ := keep_n B4
  have L4 := low_a L3 B4
  have Za4 : w.heap.size < w4.heap.size := by have := B4.size; simp at this; omega
  have Zb4 : w.heap.size + 1 < w4.heap.size := by have := B4.size; simp at this; omega
  have Zs4 : g_s < w4.heap.size := by have := B4.size; simp at this; omega
  have Zt4 : w3.heap.size < w4.heap.size := by have := B4.size; simp at this; omega
  clear B4 L3 a3_0 a3_1 b3_0 b3_1 s3_0 s3_1 Za3 Zb3 Zs3
  generalize w3.heap.size = g_t at *
  go_wp2_with fail
  refine (cRS.out _).mono ?_
  rintro e w5 ⟨rfl, B5⟩
  have a5_0 := keep_a a4_0 B5; have a5_1 := keep_a a4_1 B5
  have b5_0 := keep_a b4_0 B5; have b5_1 := keep_a b4_1 B5
  have s5_0 := keep_a s4_0 B5; have s5_1 := keep_a s4_1 B5
  have t5_0 := keep_a t4_0 B5; have t5_1 := keep_a t4_1 B5
  obtain ⟨d5_0, d5_1⟩ := keep_n B5
  have L5 := low_a L4 B5
  have Za5 : w.heap.size < w5.heap.size := by have := B5.size; simp at this; omega
  have Zb5 : w.heap.size + 1 < w5.heap.size := by have := B5.size; simp at this; omega
  have Zs5 : g_s < w5.heap.size := by have := B5.size; simp at this; omega
  have Zt5 : g_t < w5.heap.size := by have := B5.size; simp at this; omega
  have Zd5 : w4.heap.size < w5.heap.size := by have := B5.size; simp at this; omega
  clear B5 L4 a4_0 a4_1 b4_0 b4_1 s4_0 s4_1 t4_0 t4_1 Za4 Zb4 Zs4 Zt4
  generalize w4.heap.size = g_d at *
  go_wp2_with fail
  obtain ⟨W, hW⟩ : ∃ W, W = w5.alloc (Obj.cells #[.int .u64 (d1 : Int), .int .u64 (d0 : Int)] 24) := ⟨_, rfl⟩
  have el_0 : W.cell? ⟨w5.heap.size, 0, none⟩ = some (.int .u64 (d1 : Int)) := by rw [hW]; simp [go_sem]
  have el_1 : W.cell? ⟨w5.heap.size, 1, none⟩ = some (.int .u64 (d0 : Int)) := by rw [hW]; simp [go_sem]
  have al_0 := hW ▸ cell_past (Obj.cells #[.int .u64 (d1 : Int), .int .u64 (d0 : Int)] 24) a5_0; have al_1 := hW ▸ cell_past (Obj.cells #[.int .u64 (d1 : Int), .int .u64 (d0 : Int)] 24) a5_1
  have bl_0 := hW ▸ cell_past (Obj.cells #[.int .u64 (d1 : Int), .int .u64 (d0 : Int)] 24) b5_0; have bl_1 := hW ▸ cell_past (Obj.cells #[.int .u64 (d1 : Int), .int .u64 (d0 : Int)] 24) b5_1
  have sl_0 := hW ▸ cell_past (Obj.cells #[.int .u64 (d1 : Int), .int .u64 (d0 : Int)] 24) s5_0; have sl_1 := hW ▸ cell_past (Obj.cells #[.int .u64 (d1 : Int), .int .u64 (d0 : Int)] 24) s5_1
  have tl_0 := hW ▸ cell_past (Obj.cells #[.int .u64 (d1 : Int), .int .u64 (d0 : Int)] 24) t5_0; have tl_1 := hW ▸ cell_past (Obj.cells #[.int .u64 (d1 : Int), .int .u64 (d0 : Int)] 24) t5_1
  have dl_0 := hW ▸ cell_past (Obj.cells #[.int .u64 (d1 : Int), .int .u64 (d0 : Int)] 24) d5_0; have dl_1 := hW ▸ cell_past (Obj.cells #[.int .u64 (d1 : Int), .int .u64 (d0 : Int)] 24) d5_1
  have LW : Below w.heap.size w W := by rw [hW]; exact L5.alloc L5.size _
  rw [← hW]
  clear hW L5 a5_0 a5_1 b5_0 b5_1 s5_0 s5_1 t5_0 t5_1 d5_0 d5_1 Za5 Zb5 Zs5 Zt5 Zd5
  generalize w5.heap.size = g_e at *
  have ar_0 := cell_regrown al_0; have ar_1 := cell_regrown al_1
  have br_0 := cell_regrown bl_0; have br_1 := cell_regrown bl_1
  have sr_0 := cell_regrown sl_0; have sr_1 := cell_regrown sl_1
  have tr_0 := cell_regrown tl_0; have tr_1 := cell_regrown tl_1
  have dr_0 := cell_regrown dl_0; have dr_1 := cell_regrown dl_1
  have er_0 := cell_regrown el_0; have er_1 := cell_regrown el_1
  clear al_0 al_1 bl_0 bl_1 sl_0 sl_1 tl_0 tl_1 dl_0 dl_1 el_0 el_1
  have HL := Lib.hid LW; clear LW
  have rcC : ∀ d os, Calls Try.prog 14 #[.agg #[.int .u64 (a1 : Int), .int .u64 (a0 : Int)], .agg #[.int .u64 (b1 : Int), .int .u64 (b0 : Int)]] (Sort.grow (redrawn W d) os) fun x w'' => x = .returned (.int .i64 p) ∧ ∃ p : Regrown, w'' = Sort.grow (redrawn W p.d) p.os := fun d os => Calls.regrown_of (cC.out _)
  have rcRC : ∀ d os, Calls Try.prog 15 #[.agg #[.int .u64 (a1 : Int), .int .u64 (a0 : Int)], .agg #[.int .u64 (b1 : Int), .int .u64 (b0 : Int)]] (Sort.grow (redrawn W d) os) fun x w'' => x = .returned (.int .i64 p) ∧ ∃ p : Regrown, w'' = Sort.grow (redrawn W p.d) p.os := fun d os => Calls.regrown_of (cRC.out _)
  have rcO : ∀ d os, Calls Try.prog 16 #[.int .u64 (a0 : Int)] (Sort.grow (redrawn W d) os) fun x w'' => x = .returned (.agg #[.int .u64 0, .int .u64 (a0 : Int)]) ∧ ∃ p : Regrown, w'' = Sort.grow (redrawn W p.d) p.os := fun d os => Calls.regrown_of (cO.out _)
  refine wp_region_quiet_below (by kernel_rfl) (by kernel_rfl) ?_
  repeat (go_big_quiet_step (first | with_reducible exact rcC _ _ | with_reducible exact rcRC _ _ | with_reducible exact rcO _ _))
  refine wpQuiet_nil ?_
  intro _ hw'
  obtain ⟨⟨dq, osq⟩, hw''⟩ := hw'
  subst hw''
  have B3 : Below w.heap.size w (Sort.grow (redrawn W dq) osq) := HL.out.trans ((below_regrown W dq osq).mono HL.out.size)
  have HB := Lib.hid B3
  clear rcC rcRC rcO B3
  go_wp2_with fail
  go_ret
  exact ⟨rfl, HB.out⟩

theorem sums_any (a b : Nat) (ha : a < 340282366920938463463374607431768211456) (hb : b < 340282366920938463463374607431768211456) (w : World) :
    Calls Try.prog 3 #[wv a, wv b] w fun e w' => e = .returned (.bool true) ∧ Below w.heap.size w w' := by
  have cO := of_any (a % 18446744073709551616) (Nat.mod_lt _ (by omega))
  have eO : wv (a % 18446744073709551616) = .agg #[.int .u64 0, .int .u64 ((a % 18446744073709551616 : Nat) : Int)] := (wv_of (h := 0) (l := a % 18446744073709551616) (by omega) (by omega)).symm
  rw [eO] at cO
  exact sums_core _ _ _ _ _ _ _ _ _ _ _ w (add_any a b ha hb) (refAdd_any a b ha hb) (sub_any a b ha hb) (refSub_any a b ha hb) (cmp_any a b) (refCmp_any a b) cO

end Go.Proofs.Ytpkfklhhljaekaa
