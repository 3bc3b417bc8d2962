/-
  What wide's Div does; no condition beyond what each contract asks.
-/
import Derived.Test.YtpkfklhhljaekaaWideE
import Derived.Test.YtpkfklhhljaekaaWideB
import Derived.Lib.QuietBelow
import Derived.BigQuiet
namespace Go.Proofs.Ytpkfklhhljaekaa
open Go.RowKit

theorem tuple_three {a b c a' b' c' : Value} (h : a = a') (h' : b = b') (h'' : c = c') : Ending.returned (.tuple #[a, b, c]) = .returned (.tuple #[a', b', c']) := by rw [h, h', h'']

set_option maxHeartbeats 1000000 in
theorem div_zero (a : Nat) (w : World) :
    Calls Try.prog 20 #[wv a, .int .u64 0] w fun e w' => e = .returned (.tuple #[wv 0, .int .u64 0, .bool false]) ∧ Below w.heap.size w w' := by
  have HE : Hid (Value.agg #[.int .u64 0, .int .u64 0] = wv 0) := rfl
  generalize wv 0 = z at *
  unfold wv
  generalize a / 18446744073709551616 = a1 at *
  generalize a % 18446744073709551616 = a0 at *
  go_enter Try.func20, Try.ntmps20
  go_wp2_with fail
  refine bodyPost_ret (v := .tuple #[.agg #[.int .u64 0, .int .u64 0], .int .u64 0, .bool false]) (by simp [results, Try.results20, go_sem]) rfl ?_
  exact ⟨tuple_three HE.out rfl rfl, ((Below.refl _ _).alloc (Nat.le_refl _) _).alloc (by simp) _⟩

set_option maxHeartbeats 1000000 in
theorem div_any (a b : Nat) (ha : a < 340282366920938463463374607431768211456) (hb : b < 18446744073709551616) (hb0 : 0 < b) (w : World) :
    Calls Try.prog 20 #[wv a, .int .u64 (b : Int)] w fun e w' => e = .returned (.tuple #[wv (a / b), .int .u64 ((a % b : Nat) : Int), .bool true]) ∧ Below w.heap.size w w' := by
  obtain ⟨d1, d2⟩ := div_halves (n := a) hb0
  have hlt : a / 18446744073709551616 % b < b := Nat.mod_lt _ hb0
  have ha0 : a % 18446744073709551616 < 18446744073709551616 := Nat.mod_lt _ (by omega)
  have ha1 : a / 18446744073709551616 < 18446744073709551616 := by omega
  have c1 := div64_any (a / 18446744073709551616 % b) (a % 18446744073709551616) b hlt hb ha0
  have hql := quo_lt hlt ha0
  obtain ⟨s, hs⟩ : ∃ s, s = wv (a / b) := ⟨_, rfl⟩
  obtain ⟨o, ho⟩ : ∃ o, o = a % b := ⟨_, rfl⟩
  rw [← hs, ← ho]
  rw [← d2, ← ho] at c1
  unfold wv
  unfold wv at hs
  generalize a / b = q at *
  generalize a / 18446744073709551616 = a1 at *
  generalize a % 18446744073709551616 = a0 at *
  have D := DivIs.of (u := a1) (n := b) rfl ha1 hb0
  have e3 := tmod_val (l := a1) (y := b)
  generalize a1 % b = m at *
  generalize a1 / b = q1 at *
  generalize (m * 18446744073709551616 + a0) / b = q0 at *
  have HS : Hid (Value.agg #[.int .u64 (q1 : Int), .int .u64 (q0 : Int)] = s) := show _ = _ by
    rw [hs]
    exact wv_of (by omega) (by omega)
  obtain ⟨k1, k2, k3, k4, k5⟩ := D
  have k6 : (0 : Int) < (b : Int) := by omega
  have k7 : ¬ b = 0 := by omega
  have C1 := Lib.hid c1
  clear c1 d1 d2 hs ho hlt ha0 ha1 hql ha hb
  go_enter Try.func20, Try.ntmps20
  go_wp2_with fail
  obtain ⟨W, hW⟩ : ∃ W, W = ((w.alloc (Obj.cells #[.int .u64 (a1 : Int), .int .u64 (a0 : Int)] 24)).alloc (Obj.cells #[.int .u64 0, .int .u64 0] 24)) := ⟨_, rfl⟩
  have B0 : Below w.heap.size w W := by rw [hW]; exact ((Below.refl _ _).alloc (Nat.le_refl _) _).alloc (by simp) _
  obtain ⟨n, hn⟩ : ∃ n, n = w.heap.size := ⟨_, rfl⟩
  have z0 : W.heap.size = n + 2 := by rw [hW, hn]; simp
  have j0 : W.cell? ⟨n, 0, none⟩ = some (.int .u64 (a1 : Int)) := by rw [hW, hn]; simp [go_sem]
  have j1 : W.cell? ⟨n, 1, none⟩ = some (.int .u64 (a0 : Int)) := by rw [hW, hn]; simp [go_sem]
  have kr : Hid (W.heap[n + 1]? = some (.cells #[.int .u64 0, .int .u64 0] 24 (0, 0))) := show _ = _ by
    rw [hW, hn]
    have h := heap_alloc_new (w.alloc (Obj.cells #[.int .u64 (a1 : Int), .int .u64 (a0 : Int)] 24)) (Obj.cells #[.int .u64 0, .int .u64 0] 24)
    simpa using h
  rw [← hW, ← hn]
  clear hW
  have HN := Lib.hid hn
  have HB := Lib.hid B0
  have H0 := Lib.hid z0
  have i0 := cell_regrown j0
  have i1 := cell_regrown j1
  clear hn B0 z0 j0 j1
  have cW : ∀ d os, Calls Try.prog 35 #[.int .u64 (m : Int), .int .u64 (a0 : Int), .int .u64 (b : Int)] (Sort.grow (redrawn W d) os) fun x w'' => x = .returned (.tuple #[.int .u64 (q0 : Int), .int .u64 (o : Int)]) ∧ ∃ p : Regrown, w'' = Sort.grow (redrawn W p.d) p.os :=
    fun d os => Calls.regrown_of (C1.out _)
  refine wp_region_quiet_below (by kernel_rfl) (by kernel_rfl) ?_
  repeat (go_big_quiet_step (first | exact cW _ _))
  refine wpQuiet_nil ?_
  intro _ hw'
  obtain ⟨⟨dq, osq⟩, hw''⟩ := hw'
  subst hw''
  have B3 := below_regrown W dq osq
  have i2 := i0 dq osq
  generalize Sort.grow (redrawn W dq) osq = V at *
  clear i0 i1 cW
  have HR : Hid (V.heap[n + 1]? = some (.cells #[.int .u64 0, .int .u64 0] 24 (0, 0))) := (B3.block (n + 1) (by have := H0.out; omega)).trans kr.out
  have HBw : Hid (Below w.heap.size w V) := HB.out.trans (B3.mono HB.out.size)
  have hnw : Hid (w.heap.size ≤ n + 1) := show _ ≤ _ by have := HN.out; omega
  have r1 := block_cell HR.out 0
  have r2 := block_cell HR.out 1
  have f1 := block_frozen HR.out 0
  have f2 := block_frozen HR.out 1
  simp at r1 r2
  clear B3
  go_wp2_with fail
  refine bodyPost_ret (results_row3 rfl _ _ (n + 1) _ rfl (load_wide (two_set HR.out))) rfl ?_
  exact ⟨tuple_three HS.out rfl rfl, below_two HBw.out hnw.out _ _⟩

end Go.Proofs.Ytpkfklhhljaekaa
