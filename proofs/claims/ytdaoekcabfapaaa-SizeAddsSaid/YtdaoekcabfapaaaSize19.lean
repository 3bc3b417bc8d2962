/-
  What the program's Of and Fits do (chapter 19), for every tree; by induction over trees, no condition but bounds.
-/
import Derived.Test.YtdaoekcabfapaaaSizeA19
namespace Go.Proofs.Ytdaoekcabfapaaa
set_option maxRecDepth 100000
open Go.RowKit

set_option maxHeartbeats 16000000 in
theorem of_any : ∀ (t : Tree) (cs : List Value) (w : World), sizeT t ≤ 1000000000 → TreeAt w (· < w.heap.size) t cs →
    Calls Try.prog 9 #[.agg cs.toArray] w fun e w' => e = .returned (.int .i64 ((sizeT t : Nat) : Int)) ∧ Below w.heap.size w w' := by
  refine Tree.ind ?_
  intro o l ih cs w hs hT
  obtain ⟨Ab, cb, Ak, ck, rfl, hfit, hlen, _, hkids⟩ := hT.open_
  obtain ⟨R, hR⟩ : ∃ R, R = sizeT (.node o l) := ⟨_, rfl⟩
  rw [← hR] at hs ⊢
  rw [sizeT] at hR
  have B0 : Below w.heap.size w (w.alloc (.cells #[.int .i64 o.kind, .int .u64 (o.bits : Int), .int .u64 (o.high : Int), .int .u64 (o.low : Int), .string ⟨o.text.toArray⟩, .string ⟨o.more.toArray⟩, .int .i64 o.sub, .slice Ab o.bytes.length cb, .slice Ak l.length ck] 26)) := (Below.refl _ _).alloc (Nat.le_refl _) _
  have g0 : (w.alloc (.cells #[.int .i64 o.kind, .int .u64 (o.bits : Int), .int .u64 (o.high : Int), .int .u64 (o.low : Int), .string ⟨o.text.toArray⟩, .string ⟨o.more.toArray⟩, .int .i64 o.sub, .slice Ab o.bytes.length cb, .slice Ak l.length ck] 26)).heap[w.heap.size]? = some (.cells #[.int .i64 o.kind, .int .u64 (o.bits : Int), .int .u64 (o.high : Int), .int .u64 (o.low : Int), .string ⟨o.text.toArray⟩, .string ⟨o.more.toArray⟩, .int .i64 o.sub, .slice Ab o.bytes.length cb, .slice Ak l.length ck] 26) := heap_alloc_new w _
  have HB0 := Lib.hid B0
  have HK : Hid (∀ V : World, Below w.heap.size w V → l ≠ [] → ∃ b off, Ak = some ⟨b, off, none⟩ ∧ b < V.heap.size ∧ KidsAt V (· < V.heap.size) b off l) := fun V hV => by
    obtain ⟨Ab', cb', Ak', ck', e, _, _, _, q⟩ := (hT.up hV).open_
    simp only [cellsV, List.cons.injEq, Value.slice.injEq, and_true, true_and] at e
    obtain ⟨_, rfl, _⟩ := e
    exact q
  have HI := Lib.hid ih
  have HR := Lib.hid hR
  have HS := Lib.hid hs
  have j0 : (w.alloc (.cells #[.int .i64 o.kind, .int .u64 (o.bits : Int), .int .u64 (o.high : Int), .int .u64 (o.low : Int), .string ⟨o.text.toArray⟩, .string ⟨o.more.toArray⟩, .int .i64 o.sub, .slice Ab o.bytes.length cb, .slice Ak l.length ck] 26)).cell? ⟨w.heap.size, 0, none⟩ = some (.int .i64 o.kind) := by rw [block_cell g0]; rfl
  have j1 : (w.alloc (.cells #[.int .i64 o.kind, .int .u64 (o.bits : Int), .int .u64 (o.high : Int), .int .u64 (o.low : Int), .string ⟨o.text.toArray⟩, .string ⟨o.more.toArray⟩, .int .i64 o.sub, .slice Ab o.bytes.length cb, .slice Ak l.length ck] 26)).cell? ⟨w.heap.size, 1, none⟩ = some (.int .u64 (o.bits : Int)) := by rw [block_cell g0]; rfl
  have j2 : (w.alloc (.cells #[.int .i64 o.kind, .int .u64 (o.bits : Int), .int .u64 (o.high : Int), .int .u64 (o.low : Int), .string ⟨o.text.toArray⟩, .string ⟨o.more.toArray⟩, .int .i64 o.sub, .slice Ab o.bytes.length cb, .slice Ak l.length ck] 26)).cell? ⟨w.heap.size, 2, none⟩ = some (.int .u64 (o.high : Int)) := by rw [block_cell g0]; rfl
  have j3 : (w.alloc (.cells #[.int .i64 o.kind, .int .u64 (o.bits : Int), .int .u64 (o.high : Int), .int .u64 (o.low : Int), .string ⟨o.text.toArray⟩, .string ⟨o.more.toArray⟩, .int .i64 o.sub, .slice Ab o.bytes.length cb, .slice Ak l.length ck] 26)).cell? ⟨w.heap.size, 3, none⟩ = some (.int .u64 (o.low : Int)) := by rw [block_cell g0]; rfl
  have j4 : (w.alloc (.cells #[.int .i64 o.kind, .int .u64 (o.bits : Int), .int .u64 (o.high : Int), .int .u64 (o.low : Int), .string ⟨o.text.toArray⟩, .string ⟨o.more.toArray⟩, .int .i64 o.sub, .slice Ab o.bytes.length cb, .slice Ak l.length ck] 26)).cell? ⟨w.heap.size, 4, none⟩ = some (.string ⟨o.text.toArray⟩) := by rw [block_cell g0]; rfl
  have j5 : (w.alloc (.cells #[.int .i64 o.kind, .int .u64 (o.bits : Int), .int .u64 (o.high : Int), .int .u64 (o.low : Int), .string ⟨o.text.toArray⟩, .string ⟨o.more.toArray⟩, .int .i64 o.sub, .slice Ab o.bytes.length cb, .slice Ak l.length ck] 26)).cell? ⟨w.heap.size, 5, none⟩ = some (.string ⟨o.more.toArray⟩) := by rw [block_cell g0]; rfl
  have j6 : (w.alloc (.cells #[.int .i64 o.kind, .int .u64 (o.bits : Int), .int .u64 (o.high : Int), .int .u64 (o.low : Int), .string ⟨o.text.toArray⟩, .string ⟨o.more.toArray⟩, .int .i64 o.sub, .slice Ab o.bytes.length cb, .slice Ak l.length ck] 26)).cell? ⟨w.heap.size, 6, none⟩ = some (.int .i64 o.sub) := by rw [block_cell g0]; rfl
  have j7 : (w.alloc (.cells #[.int .i64 o.kind, .int .u64 (o.bits : Int), .int .u64 (o.high : Int), .int .u64 (o.low : Int), .string ⟨o.text.toArray⟩, .string ⟨o.more.toArray⟩, .int .i64 o.sub, .slice Ab o.bytes.length cb, .slice Ak l.length ck] 26)).cell? ⟨w.heap.size, 7, none⟩ = some (.slice Ab o.bytes.length cb) := by rw [block_cell g0]; rfl
  have j8 : (w.alloc (.cells #[.int .i64 o.kind, .int .u64 (o.bits : Int), .int .u64 (o.high : Int), .int .u64 (o.low : Int), .string ⟨o.text.toArray⟩, .string ⟨o.more.toArray⟩, .int .i64 o.sub, .slice Ab o.bytes.length cb, .slice Ak l.length ck] 26)).cell? ⟨w.heap.size, 8, none⟩ = some (.slice Ak l.length ck) := by rw [block_cell g0]; rfl
  clear hR hs hfit hlen hkids ih hT B0 g0
  unfold cellsV at *
  go_enter Try.func9, Try.ntmps9
  go_upto_region 1 with fail
  generalize (w.alloc (.cells #[.int .i64 o.kind, .int .u64 (o.bits : Int), .int .u64 (o.high : Int), .int .u64 (o.low : Int), .string ⟨o.text.toArray⟩, .string ⟨o.more.toArray⟩, .int .i64 o.sub, .slice Ab o.bytes.length cb, .slice Ak l.length ck] 26)) = W at *
  by_cases hk8 : o.kind = 8
  · have hR := HR.out
    have hs := HS.out
    simp only [sizeO, hk8] at hR
    rw [hk8] at j0
    have HE : Hid (R = 1) := show _ = _ by simpa using hR
    clear hR hs
    go_wp2_with fail
    go_ret
    exact ⟨by rw [HE.out]; first | rfl | (refine num_end ?_; first | exact u2 | exact u1), HB0.out⟩
  by_cases hk16 : o.kind = 16
  · have hR := HR.out
    have hs := HS.out
    simp only [sizeO, hk16] at hR
    rw [hk16] at j0
    have HE : Hid (R = 4) := show _ = _ by simpa using hR
    clear hR hs
    go_wp2_with fail
    go_ret
    exact ⟨by rw [HE.out]; first | rfl | (refine num_end ?_; first | exact u2 | exact u1), HB0.out⟩
  by_cases hk1 : o.kind = 1
  · have hR := HR.out
    have hs := HS.out
    simp only [sizeO, hk1] at hR
    rw [hk1] at j0
    have HE : Hid (R = 8) := show _ = _ by simpa using hR
    clear hR hs
    go_wp2_with fail
    go_ret
    exact ⟨by rw [HE.out]; first | rfl | (refine num_end ?_; first | exact u2 | exact u1), HB0.out⟩
  by_cases hk9 : o.kind = 9
  · have hR := HR.out
    have hs := HS.out
    simp only [sizeO, hk9] at hR
    rw [hk9] at j0
    have HE : Hid (R = 8) := show _ = _ by simpa using hR
    clear hR hs
    go_wp2_with fail
    go_ret
    exact ⟨by rw [HE.out]; first | rfl | (refine num_end ?_; first | exact u2 | exact u1), HB0.out⟩
  by_cases hk17 : o.kind = 17
  · have hR := HR.out
    have hs := HS.out
    simp only [sizeO, hk17] at hR
    rw [hk17] at j0
    have HE : Hid (R = 8) := show _ = _ by simpa using hR
    clear hR hs
    go_wp2_with fail
    go_ret
    exact ⟨by rw [HE.out]; first | rfl | (refine num_end ?_; first | exact u2 | exact u1), HB0.out⟩
  by_cases hk18 : o.kind = 18
  · have hR := HR.out
    have hs := HS.out
    simp only [sizeO, hk18] at hR
    rw [hk18] at j0
    have HE : Hid (R = 8) := show _ = _ by simpa using hR
    clear hR hs
    go_wp2_with fail
    go_ret
    exact ⟨by rw [HE.out]; first | rfl | (refine num_end ?_; first | exact u2 | exact u1), HB0.out⟩
  by_cases hk19 : o.kind = 19
  · have hR := HR.out
    have hs := HS.out
    simp only [sizeO, hk19] at hR
    rw [hk19] at j0
    have HE : Hid (R = 16) := show _ = _ by simpa using hR
    clear hR hs
    go_wp2_with fail
    go_ret
    exact ⟨by rw [HE.out]; first | rfl | (refine num_end ?_; first | exact u2 | exact u1), HB0.out⟩
  by_cases hk7 : o.kind = 7
  · have hR := HR.out
    have hs := HS.out
    simp only [sizeO, hk7] at hR
    rw [hk7] at j0
    have HE : Hid (R = 12) := show _ = _ by simpa using hR
    clear hR hs
    go_wp2_with fail
    go_ret
    exact ⟨by rw [HE.out]; first | rfl | (refine num_end ?_; first | exact u2 | exact u1), HB0.out⟩
  by_cases hk2 : o.kind = 2
  · have hR := HR.out
    have hs := HS.out
    simp only [sizeO, hk2] at hR
    rw [hk2] at j0
    have hR2 : R = o.text.length + 5 := by simpa using hR
    have HE := Lib.hid hR2
    have cT := Lib.hid fun w => ofText_any o.text w (by omega)
    have u1 : wrap64 (((o.text.length + 5 : Nat) : Int) + 12) = ((o.text.length + 17 : Nat) : Int) := w9 (by omega) (by omega)
    clear hR2 hR hs
    go_wp2_with fail
    refine (cT.out _).mono ?_
    rintro e w5 ⟨rfl, hw⟩; subst w5
    go_wp2_with fail
    go_ret
    exact ⟨by rw [HE.out]; first | rfl | (refine num_end ?_; first | exact u2 | exact u1), HB0.out⟩
  by_cases hk13 : o.kind = 13
  · have hR := HR.out
    have hs := HS.out
    simp only [sizeO, hk13] at hR
    rw [hk13] at j0
    have hR2 : R = o.text.length + 5 := by simpa using hR
    have HE := Lib.hid hR2
    have cT := Lib.hid fun w => ofText_any o.text w (by omega)
    have u1 : wrap64 (((o.text.length + 5 : Nat) : Int) + 12) = ((o.text.length + 17 : Nat) : Int) := w9 (by omega) (by omega)
    clear hR2 hR hs
    go_wp2_with fail
    refine (cT.out _).mono ?_
    rintro e w5 ⟨rfl, hw⟩; subst w5
    go_wp2_with fail
    go_ret
    exact ⟨by rw [HE.out]; first | rfl | (refine num_end ?_; first | exact u2 | exact u1), HB0.out⟩
  by_cases hk14 : o.kind = 14
  · have hR := HR.out
    have hs := HS.out
    simp only [sizeO, hk14] at hR
    rw [hk14] at j0
    have hR2 : R = o.text.length + 5 := by simpa using hR
    have HE := Lib.hid hR2
    have cT := Lib.hid fun w => ofText_any o.text w (by omega)
    have u1 : wrap64 (((o.text.length + 5 : Nat) : Int) + 12) = ((o.text.length + 17 : Nat) : Int) := w9 (by omega) (by omega)
    clear hR2 hR hs
    go_wp2_with fail
    refine (cT.out _).mono ?_
    rintro e w5 ⟨rfl, hw⟩; subst w5
    go_wp2_with fail
    go_ret
    exact ⟨by rw [HE.out]; first | rfl | (refine num_end ?_; first | exact u2 | exact u1), HB0.out⟩
  by_cases hk12 : o.kind = 12
  · have hR := HR.out
    have hs := HS.out
    simp only [sizeO, hk12] at hR
    rw [hk12] at j0
    have hR2 : R = o.text.length + 17 := by simpa using hR
    have HE := Lib.hid hR2
    have cT := Lib.hid fun w => ofText_any o.text w (by omega)
    have u1 : wrap64 (((o.text.length + 5 : Nat) : Int) + 12) = ((o.text.length + 17 : Nat) : Int) := w9 (by omega) (by omega)
    clear hR2 hR hs
    go_wp2_with fail
    refine (cT.out _).mono ?_
    rintro e w5 ⟨rfl, hw⟩; subst w5
    go_wp2_with fail
    go_ret
    exact ⟨by rw [HE.out]; first | rfl | (refine num_end ?_; first | exact u2 | exact u1), HB0.out⟩
  by_cases hk11 : o.kind = 11
  · have hR := HR.out
    have hs := HS.out
    simp only [sizeO, hk11] at hR
    rw [hk11] at j0
    have hR2 : R = o.text.length + o.more.length + 2 := by simpa using hR
    have HE := Lib.hid hR2
    have u0 : wrap64 ((o.text.length : Int) + 1) = ((o.text.length + 1 : Nat) : Int) := w9 (by omega) (by omega)
    have u1 : wrap64 (((o.text.length + 1 : Nat) : Int) + (o.more.length : Int)) = ((o.text.length + 1 + o.more.length : Nat) : Int) := w9 (by omega) (by omega)
    have u2 : wrap64 (((o.text.length + 1 + o.more.length : Nat) : Int) + 1) = ((o.text.length + o.more.length + 2 : Nat) : Int) := w9 (by omega) (by omega)
    have YY : Hid (wrap64 (wrap64 ((o.text.length : Int) + 1 + (o.more.length : Int)) + 1) = ((o.text.length + o.more.length + 2 : Nat) : Int)) := show _ = _ by rw [w9 (x := (o.text.length : Int) + 1 + (o.more.length : Int)) (n := o.text.length + 1 + o.more.length) (by omega) (by omega)]; exact w9 (by omega) (by omega)
    clear hR2 hR hs
    go_wp2_with fail
    go_ret
    exact ⟨by rw [HE.out]; first | rfl | (refine num_end ?_; first | exact YY.out | exact u2 | exact u1), HB0.out⟩
  by_cases hk5 : o.kind = 5
  · have hR := HR.out
    have hs := HS.out
    simp only [sizeO, hk5] at hR
    rw [hk5] at j0
    have hb : o.bytes.length + 5 ≤ 1000000000 := by
      by_cases h2 : o.sub = 2
      · simp [h2] at hR; omega
      · simp [h2] at hR; omega
    have cB := Lib.hid fun w => ofBinary_any o Ab cb Ak l.length ck w (by omega)
    have HE : Hid (R = if o.sub = 2 then o.bytes.length + 5 + 4 else o.bytes.length + 5) := show _ = _ by simpa using hR
    generalize (if o.sub = 2 then o.bytes.length + 5 + 4 else o.bytes.length + 5 : Nat) = q at *
    rw [hk5] at cB
    clear hR hs hb
    go_wp2_with fail
    refine (cB.out _).mono ?_
    rintro e w5 ⟨rfl, B5⟩
    have HB5 := Lib.hid (low17 HB0.out B5)
    clear B5
    go_wp2_with fail
    go_ret
    exact ⟨by rw [HE.out]; rfl, HB5.out⟩
  by_cases hk3 : o.kind = 3
  · have hR := HR.out
    have hs := HS.out
    simp only [sizeO, hk3] at hR
    rw [hk3] at j0
    have hR2 : R = 5 + sizeK l := by simpa using hR
    have HE := Lib.hid hR2
    have cK := Lib.hid (ofKids_any l Ak ck W (by omega) HI.out (HK.out W HB0.out))
    clear hR hs hR2 HR
    go_wp2_with fail
    refine (cK.out).mono ?_
    rintro e w5 ⟨rfl, B5⟩
    have HB5 := Lib.hid (low17 HB0.out B5)
    clear B5
    go_wp2_with fail
    go_ret
    exact ⟨by rw [HE.out]; rfl, HB5.out⟩
  by_cases hk4 : o.kind = 4
  · have hR := HR.out
    have hs := HS.out
    simp only [sizeO, hk4] at hR
    rw [hk4] at j0
    have hR2 : R = 5 + sizeK l := by simpa using hR
    have HE := Lib.hid hR2
    have cK := Lib.hid (ofKids_any l Ak ck W (by omega) HI.out (HK.out W HB0.out))
    clear hR hs hR2 HR
    go_wp2_with fail
    refine (cK.out).mono ?_
    rintro e w5 ⟨rfl, B5⟩
    have HB5 := Lib.hid (low17 HB0.out B5)
    clear B5
    go_wp2_with fail
    go_ret
    exact ⟨by rw [HE.out]; rfl, HB5.out⟩
  by_cases hk15 : o.kind = 15
  · have hR := HR.out
    have hs := HS.out
    simp only [sizeO, hk15] at hR
    rw [hk15] at j0
    have hR2 : R = 5 + sizeK l + o.text.length + 9 := by simpa using hR
    have HE := Lib.hid hR2
    have cT0 := Lib.hid fun (V : World) => (ofText_any o.text V (by omega)).mono fun e w' h => (show e = .returned (.int .i64 ((o.text.length + 5 : Nat) : Int)) ∧ Below V.heap.size V w' from ⟨h.1, h.2 ▸ Below.refl _ _⟩)
    have cT := fun d os => Calls.regrown_of (cT0.out (Sort.grow (redrawn W d) os))
    have cK0 := Lib.hid fun (V : World) (hV : Below w.heap.size w V) => ofKids_any l Ak ck V (by omega) HI.out (HK.out V hV)
    have cK := fun d os => Calls.regrown_of (cK0.out (Sort.grow (redrawn W d) os) (HB0.out.trans ((below_regrown W d os).mono HB0.out.size)))
    have b1 : o.text.length + 9 ≤ 4000000000 := by omega
    have b2 : o.text.length + 9 + (5 + sizeK l) ≤ 4000000000 := by omega
    have e1 : R = o.text.length + 9 + (5 + sizeK l) := by omega
    have q1 : 4 + ((o.text.length + 5 : Nat) : Int) = ((o.text.length + 9 : Nat) : Int) := by omega
    have q2 : ((o.text.length + 9 : Nat) : Int) + ((5 + sizeK l : Nat) : Int) = ((o.text.length + 9 + (5 + sizeK l) : Nat) : Int) := by omega
    have x1 : IntKind.i64.wrap (4 + ((o.text.length + 5 : Nat) : Int)) = ((o.text.length + 9 : Nat) : Int) := i9 q1 b1
    have x2 : IntKind.i64.wrap (((o.text.length + 9 : Nat) : Int) + ((5 + sizeK l : Nat) : Int)) = ((o.text.length + 9 + (5 + sizeK l) : Nat) : Int) := i9 q2 b2
    have y1 : wrap64 (4 + ((o.text.length + 5 : Nat) : Int)) = ((o.text.length + 9 : Nat) : Int) := w9 q1 b1
    have y2 : wrap64 (((o.text.length + 9 : Nat) : Int) + ((5 + sizeK l : Nat) : Int)) = ((o.text.length + 9 + (5 + sizeK l) : Nat) : Int) := w9 q2 b2
    clear q1 q2 b1 b2 hR hs hR2 HR HE cT0 cK0
    rw [← e1] at x2 y2
    obtain ⟨n1, hn1⟩ : ∃ n1, n1 = o.text.length + 9 := ⟨_, rfl⟩
    rw [← hn1] at x1 x2 y1 y2
    obtain ⟨n2, hn2⟩ : ∃ n2, n2 = 5 + sizeK l := ⟨_, rfl⟩
    rw [← hn2] at cK x2 y2
    obtain ⟨n3, hn3⟩ : ∃ n3, n3 = o.text.length + 5 := ⟨_, rfl⟩
    rw [← hn3] at cT x1 y1
    clear hn1 hn2 hn3 e1
    have r4 := cell_regrown j4
    have r8 := cell_regrown j8
    go_upto_region 29 with fail
    refine wp_region_quiet_below (by kernel_rfl) (by kernel_rfl) ?_
    repeat (go_big_quiet_step (first | with_reducible exact cT _ _ | with_reducible exact cK _ _))
    refine wpQuiet_nil ?_
    intro _ hw'
    obtain ⟨⟨dq, osq⟩, hw''⟩ := hw'
    subst hw''
    have HB5 := Lib.hid (HB0.out.trans ((below_regrown W dq osq).mono HB0.out.size))
    clear cT cK r4 r8 x1 x2 y1 y2
    generalize Sort.grow (redrawn W dq) osq = w2 at *
    go_wp2_with fail
    go_ret
    exact ⟨rfl, HB5.out⟩
  have e1 : (o.kind == 1) = false := beq_eq_false_iff_ne.2 hk1
  have e9 : (o.kind == 9) = false := beq_eq_false_iff_ne.2 hk9
  have e17 : (o.kind == 17) = false := beq_eq_false_iff_ne.2 hk17
  have e18 : (o.kind == 18) = false := beq_eq_false_iff_ne.2 hk18
  have e16 : (o.kind == 16) = false := beq_eq_false_iff_ne.2 hk16
  have e8 : (o.kind == 8) = false := beq_eq_false_iff_ne.2 hk8
  have e19 : (o.kind == 19) = false := beq_eq_false_iff_ne.2 hk19
  have e2 : (o.kind == 2) = false := beq_eq_false_iff_ne.2 hk2
  have e13 : (o.kind == 13) = false := beq_eq_false_iff_ne.2 hk13
  have e14 : (o.kind == 14) = false := beq_eq_false_iff_ne.2 hk14
  have e11 : (o.kind == 11) = false := beq_eq_false_iff_ne.2 hk11
  have e5 : (o.kind == 5) = false := beq_eq_false_iff_ne.2 hk5
  have e7 : (o.kind == 7) = false := beq_eq_false_iff_ne.2 hk7
  have e12 : (o.kind == 12) = false := beq_eq_false_iff_ne.2 hk12
  have e3 : (o.kind == 3) = false := beq_eq_false_iff_ne.2 hk3
  have e4 : (o.kind == 4) = false := beq_eq_false_iff_ne.2 hk4
  have e15 : (o.kind == 15) = false := beq_eq_false_iff_ne.2 hk15
  have HE : Hid (R = 0) := show _ = _ by rw [HR.out]; simp only [sizeO, hk1, hk9, hk17, hk18, hk16, hk8, hk19, hk2, hk13, hk14, hk11, hk5, hk7, hk12, hk3, hk4, hk15, or_self, if_false]
  clear hk1 hk9 hk17 hk18 hk16 hk8 hk19 hk2 hk13 hk14 hk11 hk5 hk7 hk12 hk3 hk4 hk15 HR
  go_wp2_with fail
  go_ret
  exact ⟨by rw [HE.out]; rfl, HB0.out⟩
end Go.Proofs.Ytdaoekcabfapaaa
