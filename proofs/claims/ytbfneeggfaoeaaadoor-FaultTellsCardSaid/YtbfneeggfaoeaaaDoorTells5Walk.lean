/-
  The walk of the law FaultTells; no condition beyond what the package-level variables hold.
-/
import Derived.Test.YtbfneeggfaoeaaaDoorWithin5Walk
namespace Go.Proofs.YtbfneeggfaoeaaaDoor
open Go.RowKit

theorem ansP_len (s : List UInt8) : (ansP (parseOf s)).length ≤ s.length := by
  cases h : parseOf s with
  | none => simp [ansP]
  | some r =>
    obtain ⟨e, a, q⟩ := r
    rw [show ansP (some (e, a, q)) = ints q from rfl, ints_length]
    exact parse_short h

set_option maxHeartbeats 4000000 in
theorem tells_walk (e a : Int) (A : Option Addr) (n c : Nat) (xs : List Int) (l : List UInt8) (w : World) (hL : Laid w) (hI : Ints w (· < w.heap.size) A n xs) (ha : a ≤ (top : Int)) (hx : ∀ x ∈ xs, x ≤ (top : Int)) :
    Calls Tryd.prog 4 #[.agg #[.int .i64 e, .int .i64 a, .slice A n c], .string ⟨l.toArray⟩] w fun x w' => x = .returned (.bool true) ∧ Below w.heap.size w w' := by
  have HI := Lib.hid hI; have HA := Lib.hid ha; have HX := Lib.hid hx
  clear hI ha hx
  have B1 : Below w.heap.size w (w.alloc (.cells #[.int .i64 e, .int .i64 a, .slice A n c] 30)) := (Below.refl _ _).alloc (Nat.le_refl _) _
  have hb1 : (w.alloc (.cells #[.int .i64 e, .int .i64 a, .slice A n c] 30)).heap[w.heap.size]? = some (.cells #[.int .i64 e, .int .i64 a, .slice A n c] 30) := heap_alloc_new w _
  have s1 : (w.alloc (.cells #[.int .i64 e, .int .i64 a, .slice A n c] 30)).heap.size = w.heap.size + 1 := by simp
  go_enter Tryd.func4, Tryd.ntmps4
  go_wp2_with fail
  generalize w.alloc (.cells #[.int .i64 e, .int .i64 a, .slice A n c] 30) = w1 at *
  refine (awake_any w1 (hL.on B1 hL.size)).mono ?_
  rintro x w2 ⟨rfl, k2⟩
  have hb2 := box_on hb1 k2 (by omega)
  have B2 : Below w.heap.size w w2 := B1.trans (k2.mono B1.size)
  have s2 : w.heap.size < w2.heap.size := by have := k2.size; omega
  have L2 := hL.on B2 hL.size
  obtain ⟨g0, g1, g2⟩ := box_cells hb2
  clear hb1 k2 B1 s1
  by_cases hn : 100 < n
  · have d1 : decide (100 < (n : Int)) = true := by simp; omega
    have d1n : decide (100 < n) = true := by simp; omega
    go_wp2_with fail
    go_ret
    exact ⟨rfl, B2⟩
  have d1 : decide (100 < (n : Int)) = false := by simp; omega
  have d1n : decide (100 < n) = false := by simp; omega
  by_cases hl : 400 < l.length
  · have d2 : decide (400 < (l.length : Int)) = true := by simp; omega
    have d2n : decide (400 < l.length) = true := by simp; omega
    go_wp2_with fail
    go_ret
    exact ⟨rfl, B2⟩
  have d2 : decide (400 < (l.length : Int)) = false := by simp; omega
  have d2n : decide (400 < l.length) = false := by simp; omega
  have hpl := ansP_len l
  go_wp2_with fail
  refine (parse_any l (by omega) w2 L2).mono ?_
  rintro x w3 ⟨A3, n3, c3, rfl, hI3, k3⟩
  have hn3 : n3 ≤ 400 := by rw [← hI3.1]; omega
  have hb3 := box_on hb2 k3 s2
  have B3 : Below w.heap.size w w3 := B2.trans (k3.mono B2.size)
  have s3 : w.heap.size < w3.heap.size := by have := k3.size; omega
  clear k3 hb2 B2 L2 g0 g1 g2
  have hP : ∀ W : World, Calls Tryd.prog 14 #[.string ⟨l.toArray⟩] W fun x w' =>
      ∃ A n c, x = .returned (.tuple #[.agg #[.int .i64 (ansE (parseOf l)), .int .i64 (ansA (parseOf l)), .slice A n c], .bool (parseOf l).isSome]) ∧ Ints w' (· < w'.heap.size) A n (ansP (parseOf l)) ∧ Below W.heap.size W w' :=
    fun W => refParse_any l (by omega) W
  have HP := Lib.hid hP
  clear hP
  generalize (parseOf l).isSome = ok3 at *
  generalize ansE (parseOf l) = e3 at *
  generalize ansA (parseOf l) = a3 at *
  generalize ansP (parseOf l) = p3 at *
  have BF : Below w3.heap.size w3 (w3.alloc (.cells #[.int .i64 e3, .int .i64 a3, .slice A3 n3 c3] 30)) := (Below.refl _ _).alloc (Nat.le_refl _) _
  have hbF : (w3.alloc (.cells #[.int .i64 e3, .int .i64 a3, .slice A3 n3 c3] 30)).heap[w3.heap.size]? = some (.cells #[.int .i64 e3, .int .i64 a3, .slice A3 n3 c3] 30) := heap_alloc_new w3 _
  have sF : (w3.alloc (.cells #[.int .i64 e3, .int .i64 a3, .slice A3 n3 c3] 30)).heap.size = w3.heap.size + 1 := by simp
  go_wp2_with fail
  generalize w3.alloc (.cells #[.int .i64 e3, .int .i64 a3, .slice A3 n3 c3] 30) = w4 at *
  refine (HP.out w4).mono ?_
  rintro x w5 ⟨A5, n5, c5, rfl, hI5, k5⟩
  have hn5 : n5 ≤ 400 := by rw [← hI5.1]; omega
  have hb4 := box_on hb3 BF s3
  have hb5 := box_on hb4 k5 (by omega)
  have hbF5 := box_on hbF k5 (by omega)
  have B4 : Below w.heap.size w w4 := B3.trans (BF.mono B3.size)
  have B5 : Below w.heap.size w w5 := B4.trans (k5.mono B4.size)
  have hI35 := (hI3.on BF (Nat.le_refl _)).on k5 (Nat.le_refl _)
  have s5 : w3.heap.size < w5.heap.size := by have := k5.size; omega
  clear k5 hb4 hbF sF hb3 B3 BF hI3 B4 HP
  have BG : Below w5.heap.size w5 (w5.alloc (.cells #[.int .i64 e3, .int .i64 a3, .slice A5 n5 c5] 30)) := (Below.refl _ _).alloc (Nat.le_refl _) _
  have hbG : (w5.alloc (.cells #[.int .i64 e3, .int .i64 a3, .slice A5 n5 c5] 30)).heap[w5.heap.size]? = some (.cells #[.int .i64 e3, .int .i64 a3, .slice A5 n5 c5] 30) := heap_alloc_new w5 _
  go_wp2_with fail
  generalize w5.alloc (.cells #[.int .i64 e3, .int .i64 a3, .slice A5 n5 c5] 30) = w6 at *
  have hb6 := box_on hb5 BG (by omega)
  have hbF6 := box_on hbF5 BG s5
  have B6 : Below w.heap.size w w6 := B5.trans (BG.mono B5.size)
  have hI36 := hI35.on BG (Nat.le_refl _)
  have hI56 := hI5.on BG (Nat.le_refl _)
  have hI6 := HI.out.on B6 (Nat.le_refl _)
  have L6 := hL.on B6 hL.size
  obtain ⟨g0, g1, g2⟩ := box_cells hb6
  obtain ⟨u0, u1, u2⟩ := box_cells hbF6
  obtain ⟨v0, v1, v2⟩ := box_cells hbG
  have j0 := cell_regrown g0; have j1 := cell_regrown g1; have j2 := cell_regrown g2
  have q0 := cell_regrown u0; have q1 := cell_regrown u1; have q2 := cell_regrown u2
  have r0 := cell_regrown v0; have r1 := cell_regrown v1; have r2 := cell_regrown v2
  have cT : ∀ d os, Calls Tryd.prog 15 #[.agg #[.int .i64 e, .int .i64 a, .slice A n c]] (Sort.grow (redrawn w6 d) os) fun x w'' => x = .returned (.string ⟨(textOf e a xs).toArray⟩) ∧ ∃ p : Regrown, w'' = Sort.grow (redrawn w6 p.d) p.os :=
    fun d os => Calls.regrown_of (text_any e a A n c xs _ (L6.on (below_regrown w6 d os) L6.size) (hI6.on (below_regrown w6 d os) (Nat.le_refl _)) HA.out HX.out (by omega))
  have cR : ∀ d os, Calls Tryd.prog 16 #[.agg #[.int .i64 e, .int .i64 a, .slice A n c]] (Sort.grow (redrawn w6 d) os) fun x w'' => x = .returned (.string ⟨(textOf e a xs).toArray⟩) ∧ ∃ p : Regrown, w'' = Sort.grow (redrawn w6 p.d) p.os :=
    fun d os => Calls.regrown_of (refText_any e a A n c xs _ (hI6.on (below_regrown w6 d os) (Nat.le_refl _)) HA.out HX.out (by omega))
  have cS : ∀ d os, Calls Tryd.prog 17 #[.agg #[.int .i64 e3, .int .i64 a3, .slice A3 n3 c3], .agg #[.int .i64 e3, .int .i64 a3, .slice A5 n5 c5]] (Sort.grow (redrawn w6 d) os) fun x w'' => x = .returned (.bool true) ∧ ∃ p : Regrown, w'' = Sort.grow (redrawn w6 p.d) p.os :=
    fun d os => Calls.regrown_of (by
      have h := same_any e3 a3 A3 n3 c3 p3 e3 a3 A5 n5 c5 p3 (Sort.grow (redrawn w6 d) os) (hI36.on (below_regrown w6 d os) (Nat.le_refl _)) (hI56.on (below_regrown w6 d os) (Nat.le_refl _)) (by omega) (by omega)
      rw [show decide (e3 = e3 ∧ a3 = a3 ∧ p3 = p3) = true by simp] at h
      exact h)
  generalize textOf e a xs = tx at *
  clear g0 g1 g2 u0 u1 u2 v0 v1 v2 hb6 hbF6 hbG hI36 hI56 hI6 L6 hb5 hbF5 B5 BG hI35 hI5
  refine wp_region_quiet_below (by kernel_rfl) (by kernel_rfl) ?_
  repeat (go_big_quiet_step (first | exact cT _ _ | exact cR _ _ | exact cS _ _))
  refine wpQuiet_nil ?_
  intro _ hw'
  obtain ⟨⟨dq, osq⟩, hw''⟩ := hw'
  subst hw''
  have B7 : Below w.heap.size w (Sort.grow (redrawn w6 dq) osq) := B6.trans ((below_regrown w6 dq osq).mono B6.size)
  go_wp2_with fail
  go_ret
  exact ⟨by first | rfl | simp, B7⟩

end Go.Proofs.YtbfneeggfaoeaaaDoor
