/-
  What wide's Times does; no condition beyond what the contract asks.
-/
import Derived.Test.YtpkfklhhljaekaaWideA
import Derived.Deep.RegionHeld3
import Derived.Deep.RegionWith
import Derived.BigRegion
import Derived.Deep.DeepCutAuto
namespace Go.Proofs.Ytpkfklhhljaekaa
open Go.RowKit

theorem bcell {W w1 : World} (hb : Below W.heap.size W w1) : (∀ b o, b < W.heap.size → w1.cell? ⟨b, o, none⟩ = W.cell? ⟨b, o, none⟩) ∧ (∀ b o, b < W.heap.size → w1.frozen? ⟨b, o, none⟩ = W.frozen? ⟨b, o, none⟩) :=
  ⟨fun b o h => hb.cell (p := ⟨b, o, none⟩) h, fun b o h => hb.frozen (p := ⟨b, o, none⟩) h⟩

theorem ret_val {k : IntKind} {a b : Int} (h : a = b) : Value.int k a = .int k b := by rw [h]
theorem cell_drew {V : World} {p : Addr} {v : Value} (h : V.cell? p = some v) : V.drew.cell? p = some v := h
theorem cell_lt {V : World} {p : Addr} {v : Value} (h : V.cell? p = some v) : p.block < V.heap.size := by
  rcases Nat.lt_or_ge p.block V.heap.size with h1 | h1
  · exact h1
  · exfalso
    unfold World.cell? at h
    rw [Array.getElem?_eq_none h1] at h
    cases h
theorem cell_past {V : World} {p : Addr} {v : Value} (o : Obj) (h : V.cell? p = some v) : (V.alloc o).cell? p = some v :=
  (World.cell?_of_block (Below.heap_alloc V o p.block (cell_lt h))).trans h
theorem cell_set {V : World} {p q : Addr} {v u : Value} (h : V.cell? p = some v) (hq : p.block ≠ q.block) : (V.setCell q u).cell? p = some v :=
  (World.cell?_of_block (Below.heap_setCell V q u p.block hq)).trans h

set_option maxHeartbeats 400000 in
theorem mul_at (x y : Nat) (hx : x < 18446744073709551616) (hy : y < 18446744073709551616) (h l : Nat) (hh : x * y / 18446744073709551616 = h) (hl : x * y % 18446744073709551616 = l) (w : World) :
    Calls Try.prog 19 #[.int .u64 (x : Int), .int .u64 (y : Int)] w fun e w' => e = .returned (.agg #[.int .u64 (h : Int), .int .u64 (l : Int)]) ∧ w' = w.alloc (.cells #[.int .u64 (h : Int), .int .u64 (l : Int)] 24) := by
  have x1 := mul64_any x y hx hy
  rw [hh, hl] at x1
  clear hh hl
  go_enter Try.func19, Try.ntmps19
  go_wp2_with (refine (x1 _).mono ?_; rintro e w' ⟨rfl, rfl⟩)
  refine bodyPost_ret (v := .agg #[.int .u64 (h : Int), .int .u64 (l : Int)]) (by simp [results, Try.results19, go_sem]) rfl ?_
  exact ⟨rfl, rfl⟩

theorem four_blocks {W : World} {n : Nat} (z : W.heap.size = n + 2) :
    (∀ o1 o2 o3 o4, ((((W.alloc o1).alloc o2).alloc o3).alloc o4).drew.heap[n + 2]? = some o1) ∧ (∀ o1 o2 o3 o4, ((((W.alloc o1).alloc o2).alloc o3).alloc o4).drew.heap[n + 2 + 1]? = some o2) ∧
    (∀ o1 o2 o3 o4, ((((W.alloc o1).alloc o2).alloc o3).alloc o4).drew.heap[n + 2 + 1 + 1]? = some o3) ∧ (∀ o1 o2 o3 o4, ((((W.alloc o1).alloc o2).alloc o3).alloc o4).drew.heap[n + 2 + 1 + 1 + 1]? = some o4) := by
  have e1 : ∀ o1, (W.alloc o1).heap.size = n + 2 + 1 := fun o1 => by simp [z]
  have e2 : ∀ o1 o2, ((W.alloc o1).alloc o2).heap.size = n + 2 + 1 + 1 := fun o1 o2 => by simp [z]
  have e3 : ∀ o1 o2 o3, (((W.alloc o1).alloc o2).alloc o3).heap.size = n + 2 + 1 + 1 + 1 := fun o1 o2 o3 => by simp [z]
  refine ⟨fun o1 o2 o3 o4 => ?_, fun o1 o2 o3 o4 => ?_, fun o1 o2 o3 o4 => ?_, fun o1 o2 o3 o4 => ?_⟩
  · show ((((W.alloc o1).alloc o2).alloc o3).alloc o4).heap[n + 2]? = _
    rw [Below.heap_alloc _ _ _ (by rw [e3]; omega), Below.heap_alloc _ _ _ (by rw [e2]; omega), Below.heap_alloc _ _ _ (by rw [e1]; omega), ← z]
    exact heap_alloc_new _ _
  · show ((((W.alloc o1).alloc o2).alloc o3).alloc o4).heap[n + 2 + 1]? = _
    rw [Below.heap_alloc _ _ _ (by rw [e3]; omega), Below.heap_alloc _ _ _ (by rw [e2]; omega), ← e1 o1]
    exact heap_alloc_new _ _
  · show ((((W.alloc o1).alloc o2).alloc o3).alloc o4).heap[n + 2 + 1 + 1]? = _
    rw [Below.heap_alloc _ _ _ (by rw [e3]; omega), ← e2 o1 o2]
    exact heap_alloc_new _ _
  · show ((((W.alloc o1).alloc o2).alloc o3).alloc o4).heap[n + 2 + 1 + 1 + 1]? = _
    rw [← e3 o1 o2 o3]
    exact heap_alloc_new _ _
/-- What stands behind 'low, high := ..': two pointers to blocks that are new and hold both products; what was there stands. -/
def TwoCut (W : World) (n p1 p0 q1 q0 : Nat) (s6 s7 : Value) (wx : World) : Prop :=
  ∃ g h : Nat, s6 = .pointer (some ⟨g, 0, none⟩) ∧ s7 = .pointer (some ⟨h, 0, none⟩) ∧ n + 2 ≤ g ∧ n + 2 ≤ h ∧ wx.heap[g]? = some (.cells #[.int .u64 (p1 : Int), .int .u64 (p0 : Int)] 24 (0, 0)) ∧
    wx.heap[h]? = some (.cells #[.int .u64 (q1 : Int), .int .u64 (q0 : Int)] 24 (0, 0)) ∧ Below W.heap.size W wx
set_option maxHeartbeats 4000000 in
theorem times_any (a b : Nat) (ha : a < 340282366920938463463374607431768211456) (hb : b < 18446744073709551616) (w : World) :
    Calls Try.prog 17 #[wv a, .int .u64 (b : Int)] w fun e w' => e = .returned (.tuple #[wv (a * b % 340282366920938463463374607431768211456), .int .u64 ((a * b / 340282366920938463463374607431768211456 : Nat) : Int)]) ∧ Below w.heap.size w w' := by
  obtain ⟨s, hs⟩ : ∃ s, s = wv (a * b % 340282366920938463463374607431768211456) := ⟨_, rfl⟩
  obtain ⟨o, ho⟩ : ∃ o, o = a * b / 340282366920938463463374607431768211456 := ⟨_, rfl⟩
  rw [← hs, ← ho]
  have HS := Lib.hid hs
  have HO := Lib.hid ho
  have HP := Lib.hid (times_parts ha hb)
  have HL := Lib.hid (times_over ha hb)
  clear hs ho
  have c1 := mul_at (a % 18446744073709551616) b (by omega) hb _ _ rfl rfl
  have c2 := mul_at (a / 18446744073709551616) b (by omega) hb _ _ rfl rfl
  unfold wv
  generalize a % 18446744073709551616 * b / 18446744073709551616 = p1 at *
  generalize a % 18446744073709551616 * b % 18446744073709551616 = p0 at *
  generalize a / 18446744073709551616 * b / 18446744073709551616 = q1 at *
  generalize a / 18446744073709551616 * b % 18446744073709551616 = q0 at *
  generalize a / 18446744073709551616 = a1 at *
  generalize a % 18446744073709551616 = a0 at *
  have C1 := Lib.hid c1
  have C2 := Lib.hid c2
  clear c1 c2
  go_enter Try.func17, Try.ntmps17
  go_wp2_with fail
  obtain ⟨W, hW⟩ : ∃ W, W = ((w.alloc (Obj.cells #[.int .u64 (a1 : Int), .int .u64 (a0 : Int)] 24)).alloc (Obj.cells #[.int .u64 0, .int .u64 0] 24)) := ⟨_, rfl⟩
  have B0 : Below w.heap.size w W := by rw [hW]; exact ((Below.refl _ _).alloc (Nat.le_refl _) _).alloc (by simp) _
  obtain ⟨n, hn⟩ : ∃ n, n = w.heap.size := ⟨_, rfl⟩
  have z0 : W.heap.size = n + 2 := by rw [hW, hn]; simp
  have k0 : W.cell? ⟨n, 0, none⟩ = some (.int .u64 (a1 : Int)) := by rw [hW, hn]; simp [go_sem]
  have k1 : W.cell? ⟨n, 1, none⟩ = some (.int .u64 (a0 : Int)) := by rw [hW, hn]; simp [go_sem]
  have kr : Hid (W.heap[n + 1]? = some (.cells #[.int .u64 0, .int .u64 0] 24 (0, 0))) := show _ = _ by
    rw [hW, hn]
    have h := heap_alloc_new (w.alloc (Obj.cells #[.int .u64 (a1 : Int), .int .u64 (a0 : Int)] 24)) (Obj.cells #[.int .u64 0, .int .u64 0] 24)
    simpa using h
  rw [← hW, ← hn]
  clear hW
  have HN := Lib.hid hn
  have HB := Lib.hid B0
  have H0 := Lib.hid z0
  clear hn B0
  go_cut [6, 7] (fun s6 s7 wx => TwoCut W n p1 p0 q1 q0 s6 s7 wx)
  case first =>
    go_region_held3 (fun V : World => V.cell? ⟨n, 0, none⟩ = some (.int .u64 (a1 : Int)) ∧ V.cell? ⟨n, 1, none⟩ = some (.int .u64 (a0 : Int)))
      ((refine ⟨?_, ?_⟩ <;> (repeat (first | with_reducible refine cell_drew ?_ | with_reducible refine cell_past _ ?_)) <;> (first | with_reducible exact k0 | with_reducible exact k1)))
      (first | (go_at_call 19; (with_reducible refine (C1.out _).mono ?_); rintro e w1 ⟨rfl, rfl⟩) | (go_at_call 19; (with_reducible refine (C2.out _).mono ?_); rintro e w2 ⟨rfl, rfl⟩))
    all_goals (go_wp2_with fail; go_meet; obtain ⟨b1, b2, b3, b4⟩ := four_blocks z0; exact ⟨_, _, rfl, rfl, by omega, by omega, (by first | exact b1 _ _ _ _ | exact b2 _ _ _ _ | exact b3 _ _ _ _ | exact b4 _ _ _ _), (by first | exact b1 _ _ _ _ | exact b2 _ _ _ _ | exact b3 _ _ _ _ | exact b4 _ _ _ _), ((((((Below.refl W.heap.size W).alloc (Nat.le_refl _) _).alloc (by simp) _).alloc (by simp; omega) _).alloc (by simp; omega) _).drew)⟩)
  case rest =>
    obtain ⟨g, h, rfl, rfl, hg, hh, hP, hQ, hB⟩ := hcut
    have c1 := block_cell hP 0
    have c2 := block_cell hP 1
    have c3 := block_cell hQ 0
    have c4 := block_cell hQ 1
    simp at c1 c2 c3 c4
    have HR : Hid (wc.heap[n + 1]? = some (.cells #[.int .u64 0, .int .u64 0] 24 (0, 0))) := (hB.block (n + 1) (by omega)).trans kr.out
    have r1 := block_cell HR.out 0
    have r2 := block_cell HR.out 1
    have f1 := block_frozen HR.out 0
    have f2 := block_frozen HR.out 1
    simp at r1 r2
    have x1 := add64_zero p1 q0
    have hp := HP.out
    have hl := HL.out
    have hw : q1 + (p1 + q0) / 18446744073709551616 < 18446744073709551616 := by rw [hp.2.2]; exact hl
    have HBw : Hid (Below w.heap.size w wc) := HB.out.trans (hB.mono HB.out.size)
    have hnw : w.heap.size ≤ n + 1 := by have := HN.out; omega
    obtain ⟨c, hc⟩ : ∃ c, c = (p1 + q0) / 18446744073709551616 := ⟨_, rfl⟩
    obtain ⟨m, hm⟩ : ∃ m, m = (p1 + q0) % 18446744073709551616 := ⟨_, rfl⟩
    rw [← hc, ← hm] at x1 hp
    rw [← hc] at hw
    have HQ := Lib.hid hp
    have y1 : IntKind.u64.wrap ((q1 : Int) + (c : Int)) = ((q1 + c : Nat) : Int) := by rw [addN]; exact wrapN _ hw
    obtain ⟨t, ht⟩ : ∃ t, t = q1 + c := ⟨_, rfl⟩
    rw [← ht] at y1
    have HT := Lib.hid ht
    clear k0 k1 kr hP hQ hB z0 hp hl hw hc hm ht
    go_wp2_with (rw [x1, Oper.upon_value])
    go_region
    go_wp2_with fail
    refine bodyPost_ret (results_row2 rfl _ _ (n + 1) _ rfl (load_wide (two_set HR.out))) rfl ?_
    refine ⟨tuple_two ?_ ?_, (below_two HBw.out hnw _ _).drew⟩
    · rw [HS.out]
      exact wv_of HQ.out.2.1 HQ.out.1
    · exact ret_val (by rw [HO.out, ← HQ.out.2.2, ← HT.out])

end Go.Proofs.Ytpkfklhhljaekaa
