/-
  What the document's Size does (chapter 19), for every tree; by induction over trees, no condition but bounds.
-/
import Derived.Test.YtdaoekcabfapaaaSizeMath
import Derived.BigQuiet
namespace Go.Proofs.Ytdaoekcabfapaaa
set_option maxRecDepth 100000
open Go.RowKit

theorem len_size (l : List Kid) : l.length ≤ sizeK l := by
  induction l with
  | nil => exact Nat.zero_le _
  | cons x l ih => obtain ⟨n, t⟩ := x; rw [sizeK, List.length_cons]; omega
theorem num_end {x y : Int} (h : x = y) : Ending.returned (.int .i64 x) = .returned (.int .i64 y) := by rw [h]
theorem w9 {x : Int} {n : Nat} (h : x = (n : Int)) (h1 : n ≤ 4000000000) : wrap64 x = (n : Int) := w63 h (by omega)
theorem i9 {x : Int} {n : Nat} (h : x = (n : Int)) (h1 : n ≤ 4000000000) : IntKind.i64.wrap x = (n : Int) := by rw [IntWalk.i64_in _ (by omega), h]
set_option maxHeartbeats 16000000 in
theorem refSize_any : ∀ (t : Tree) (cs : List Value) (w : World), sizeT t ≤ 1000000000 → TreeAt w (· < w.heap.size) t cs →
    Calls Try.prog 10 #[.agg cs.toArray] w fun e w' => e = .returned (.int .i64 ((sizeT t : Nat) : Int)) ∧ Below w.heap.size w w' := by
  refine Tree.ind ?_
  intro o l ih cs w hs hT
  obtain ⟨Ab, cb, Ak, ck, rfl, hfit, hlen, _, hkids⟩ := hT.open_
  obtain ⟨R, hR⟩ : ∃ R, R = sizeT (.node o l) := ⟨_, rfl⟩
  rw [← hR] at hs ⊢
  rw [sizeT] at hR
  have B0 : Below w.heap.size w (w.alloc (.cells #[.int .i64 o.kind, .int .u64 (o.bits : Int), .int .u64 (o.high : Int), .int .u64 (o.low : Int), .string ⟨o.text.toArray⟩, .string ⟨o.more.toArray⟩, .int .i64 o.sub, .slice Ab o.bytes.length cb, .slice Ak l.length ck] 26)) := (Below.refl _ _).alloc (Nat.le_refl _) _
  have g0 : (w.alloc (.cells #[.int .i64 o.kind, .int .u64 (o.bits : Int), .int .u64 (o.high : Int), .int .u64 (o.low : Int), .string ⟨o.text.toArray⟩, .string ⟨o.more.toArray⟩, .int .i64 o.sub, .slice Ab o.bytes.length cb, .slice Ak l.length ck] 26)).heap[w.heap.size]? = some (.cells #[.int .i64 o.kind, .int .u64 (o.bits : Int), .int .u64 (o.high : Int), .int .u64 (o.low : Int), .string ⟨o.text.toArray⟩, .string ⟨o.more.toArray⟩, .int .i64 o.sub, .slice Ab o.bytes.length cb, .slice Ak l.length ck] 26) := heap_alloc_new w _
  have HB0 := Lib.hid B0
  have G0 := Lib.hid g0
  have HK := Lib.hid hkids
  have HI := Lib.hid ih
  have HR := Lib.hid hR
  have HS := Lib.hid hs
  clear hR hs hfit hlen hkids ih hT B0 g0
  unfold cellsV at *
  go_enter Try.func10, Try.ntmps10
  go_upto_region 1 with fail
  generalize w.alloc (.cells #[.int .i64 o.kind, .int .u64 (o.bits : Int), .int .u64 (o.high : Int), .int .u64 (o.low : Int), .string ⟨o.text.toArray⟩, .string ⟨o.more.toArray⟩, .int .i64 o.sub, .slice Ab o.bytes.length cb, .slice Ak l.length ck] 26) = W at *
  have j0 : W.cell? ⟨w.heap.size, 0, none⟩ = some (.int .i64 o.kind) := by rw [block_cell G0.out]; rfl
  have j4 : W.cell? ⟨w.heap.size, 4, none⟩ = some (.string ⟨o.text.toArray⟩) := by rw [block_cell G0.out]; rfl
  have j5 : W.cell? ⟨w.heap.size, 5, none⟩ = some (.string ⟨o.more.toArray⟩) := by rw [block_cell G0.out]; rfl
  have j6 : W.cell? ⟨w.heap.size, 6, none⟩ = some (.int .i64 o.sub) := by rw [block_cell G0.out]; rfl
  have j7 : W.cell? ⟨w.heap.size, 7, none⟩ = some (.slice Ab o.bytes.length cb) := by rw [block_cell G0.out]; rfl
  have j8 : W.cell? ⟨w.heap.size, 8, none⟩ = some (.slice Ak l.length ck) := by rw [block_cell G0.out]; rfl
  by_cases hk1 : o.kind = 1
  · have hR := HR.out
    have hs := HS.out
    simp only [sizeO, hk1] at hR
    rw [hk1] at j0
    have HE : Hid (R = 8) := show _ = _ by simpa using hR
    clear hR hs
    go_wp2_with fail
    go_ret
    exact ⟨by rw [HE.out]; first | rfl | (refine num_end ?_; first | exact u1 | exact u2), HB0.out⟩
  by_cases hk9 : o.kind = 9
  · have hR := HR.out
    have hs := HS.out
    simp only [sizeO, hk9] at hR
    rw [hk9] at j0
    have HE : Hid (R = 8) := show _ = _ by simpa using hR
    clear hR hs
    go_wp2_with fail
    go_ret
    exact ⟨by rw [HE.out]; first | rfl | (refine num_end ?_; first | exact u1 | exact u2), HB0.out⟩
  by_cases hk17 : o.kind = 17
  · have hR := HR.out
    have hs := HS.out
    simp only [sizeO, hk17] at hR
    rw [hk17] at j0
    have HE : Hid (R = 8) := show _ = _ by simpa using hR
    clear hR hs
    go_wp2_with fail
    go_ret
    exact ⟨by rw [HE.out]; first | rfl | (refine num_end ?_; first | exact u1 | exact u2), HB0.out⟩
  by_cases hk18 : o.kind = 18
  · have hR := HR.out
    have hs := HS.out
    simp only [sizeO, hk18] at hR
    rw [hk18] at j0
    have HE : Hid (R = 8) := show _ = _ by simpa using hR
    clear hR hs
    go_wp2_with fail
    go_ret
    exact ⟨by rw [HE.out]; first | rfl | (refine num_end ?_; first | exact u1 | exact u2), HB0.out⟩
  by_cases hk16 : o.kind = 16
  · have hR := HR.out
    have hs := HS.out
    simp only [sizeO, hk16] at hR
    rw [hk16] at j0
    have HE : Hid (R = 4) := show _ = _ by simpa using hR
    clear hR hs
    go_wp2_with fail
    go_ret
    exact ⟨by rw [HE.out]; first | rfl | (refine num_end ?_; first | exact u1 | exact u2), HB0.out⟩
  by_cases hk8 : o.kind = 8
  · have hR := HR.out
    have hs := HS.out
    simp only [sizeO, hk8] at hR
    rw [hk8] at j0
    have HE : Hid (R = 1) := show _ = _ by simpa using hR
    clear hR hs
    go_wp2_with fail
    go_ret
    exact ⟨by rw [HE.out]; first | rfl | (refine num_end ?_; first | exact u1 | exact u2), HB0.out⟩
  by_cases hk19 : o.kind = 19
  · have hR := HR.out
    have hs := HS.out
    simp only [sizeO, hk19] at hR
    rw [hk19] at j0
    have HE : Hid (R = 16) := show _ = _ by simpa using hR
    clear hR hs
    go_wp2_with fail
    go_ret
    exact ⟨by rw [HE.out]; first | rfl | (refine num_end ?_; first | exact u1 | exact u2), HB0.out⟩
  by_cases hk2 : o.kind = 2
  · have hR := HR.out
    have hs := HS.out
    simp only [sizeO, hk2] at hR
    rw [hk2] at j0
    have hR2 : R = o.text.length + 5 := by simpa using hR
    have HE := Lib.hid hR2
    have u1 : wrap64 ((o.text.length : Int) + 5) = ((o.text.length + 5 : Nat) : Int) := w9 (by omega) (by omega)
    clear hR2
    clear hR hs
    go_wp2_with fail
    go_ret
    exact ⟨by rw [HE.out]; first | rfl | (refine num_end ?_; first | exact u1 | exact u2), HB0.out⟩
  by_cases hk13 : o.kind = 13
  · have hR := HR.out
    have hs := HS.out
    simp only [sizeO, hk13] at hR
    rw [hk13] at j0
    have hR2 : R = o.text.length + 5 := by simpa using hR
    have HE := Lib.hid hR2
    have u1 : wrap64 ((o.text.length : Int) + 5) = ((o.text.length + 5 : Nat) : Int) := w9 (by omega) (by omega)
    clear hR2
    clear hR hs
    go_wp2_with fail
    go_ret
    exact ⟨by rw [HE.out]; first | rfl | (refine num_end ?_; first | exact u1 | exact u2), HB0.out⟩
  by_cases hk14 : o.kind = 14
  · have hR := HR.out
    have hs := HS.out
    simp only [sizeO, hk14] at hR
    rw [hk14] at j0
    have hR2 : R = o.text.length + 5 := by simpa using hR
    have HE := Lib.hid hR2
    have u1 : wrap64 ((o.text.length : Int) + 5) = ((o.text.length + 5 : Nat) : Int) := w9 (by omega) (by omega)
    clear hR2
    clear hR hs
    go_wp2_with fail
    go_ret
    exact ⟨by rw [HE.out]; first | rfl | (refine num_end ?_; first | exact u1 | exact u2), HB0.out⟩
  by_cases hk11 : o.kind = 11
  · have hR := HR.out
    have hs := HS.out
    simp only [sizeO, hk11] at hR
    rw [hk11] at j0
    have hR2 : R = o.text.length + o.more.length + 2 := by simpa using hR
    have HE := Lib.hid hR2
    have u1 : wrap64 ((o.text.length : Int) + (o.more.length : Int)) = ((o.text.length + o.more.length : Nat) : Int) := w9 (by omega) (by omega)
    have u2 : wrap64 (((o.text.length + o.more.length : Nat) : Int) + 2) = ((o.text.length + o.more.length + 2 : Nat) : Int) := w9 (by omega) (by omega)
    clear hR2
    clear hR hs
    go_wp2_with fail
    go_ret
    exact ⟨by rw [HE.out]; first | rfl | (refine num_end ?_; first | exact u1 | exact u2), HB0.out⟩
  by_cases hk5 : o.kind = 5
  · have hR := HR.out
    have hs := HS.out
    simp only [sizeO, hk5] at hR
    rw [hk5] at j0
    have hb : o.bytes.length + 5 ≤ 1000000000 := by
      by_cases h2 : o.sub = 2
      · simp [h2] at hR; omega
      · simp [h2] at hR; omega
    have u1 : wrap64 ((o.bytes.length : Int) + 5) = ((o.bytes.length + 5 : Nat) : Int) := w9 (by omega) (by omega)
    by_cases h2 : o.sub = 2
    · have hR2 : R = o.bytes.length + 5 + 4 := by simpa [h2] using hR
      have HE := Lib.hid hR2
      have u2 : wrap64 (((o.bytes.length + 5 : Nat) : Int) + 4) = ((o.bytes.length + 5 + 4 : Nat) : Int) := w9 (by omega) (by omega)
      rw [h2] at j6
      clear hR hs hR2 hb
      go_wp2_with fail
      go_ret
      exact ⟨by rw [HE.out]; first | rfl | (refine num_end ?_; first | exact u2 | exact u1), HB0.out⟩
    · have hR2 : R = o.bytes.length + 5 := by simpa [h2] using hR
      have HE := Lib.hid hR2
      have u2 : (o.sub == 2) = false := beq_eq_false_iff_ne.2 h2
      clear hR hs hR2 hb
      go_wp2_with fail
      go_ret
      exact ⟨by rw [HE.out]; first | rfl | (refine num_end ?_; first | exact u2 | exact u1), HB0.out⟩
  by_cases hk7 : o.kind = 7
  · have hR := HR.out
    have hs := HS.out
    simp only [sizeO, hk7] at hR
    rw [hk7] at j0
    have HE : Hid (R = 12) := show _ = _ by simpa using hR
    clear hR hs
    go_wp2_with fail
    go_ret
    exact ⟨by rw [HE.out]; first | rfl | (refine num_end ?_; first | exact u1 | exact u2), HB0.out⟩
  by_cases hk12 : o.kind = 12
  · have hR := HR.out
    have hs := HS.out
    simp only [sizeO, hk12] at hR
    rw [hk12] at j0
    have hR2 : R = o.text.length + 17 := by simpa using hR
    have HE := Lib.hid hR2
    have u1 : wrap64 ((o.text.length : Int) + 17) = ((o.text.length + 17 : Nat) : Int) := w9 (by omega) (by omega)
    clear hR2
    clear hR hs
    go_wp2_with fail
    go_ret
    exact ⟨by rw [HE.out]; first | rfl | (refine num_end ?_; first | exact u1 | exact u2), HB0.out⟩
  by_cases hk3 : o.kind = 3
  · have hR := HR.out
    have hs := HS.out
    simp only [sizeO, hk3] at hR
    rw [hk3] at j0
    have hR2 : R = 5 + sizeK l := by simpa using hR
    have HE := Lib.hid hR2
    have HLL : Hid (l.length ≤ 1000000000) := show _ ≤ _ by have := len_size l; omega
    have HSK : Hid (5 + sizeK l ≤ 1000000000) := show _ ≤ _ by omega
    have H0 : Hid (5 + sizeK (l.drop 0) = 5 + sizeK l) := rfl
    clear hR hs hR2 HR
    go_wp2_with fail
    clear j8
    go_loopw [4, 5] (fun v i wr => (Below w.heap.size w wr ∧ wr.heap[w.heap.size]? = some (.cells #[.int .i64 o.kind, .int .u64 (o.bits : Int), .int .u64 (o.high : Int), .int .u64 (o.low : Int), .string ⟨o.text.toArray⟩, .string ⟨o.more.toArray⟩, .int .i64 o.sub, .slice Ab o.bytes.length cb, .slice Ak l.length ck] 26)) ∧ ∃ k m : Nat, k ≤ l.length ∧ i = .int .i64 (k : Int) ∧ v = .int .i64 (m : Int) ∧ m + sizeK (l.drop k) = 5 + sizeK l) (fun _ i _ => l.length - natV i)
    case atStart => exact ⟨⟨HB0.out, G0.out⟩, 0, 5, Nat.zero_le _, rfl, rfl, H0.out⟩
    case round =>
      obtain ⟨⟨hB, hg⟩, k, m, hk, rfl, rfl, hm⟩ := hrel
      clear HB0 G0 H0
      have HB := Lib.hid hB
      have G := Lib.hid hg
      have j8 : wr.cell? ⟨w.heap.size, 8, none⟩ = some (.slice Ak l.length ck) := by rw [block_cell hg]; rfl
      by_cases hlt : k < l.length
      · have d1 : decide ((k : Int) < (l.length : Int)) = true := decide_eq_true (by omega)
        have d1n : decide (k < l.length) = true := decide_eq_true hlt
        obtain ⟨b, off, rfl, hbl, hK⟩ := HK.out (fun e => by rw [e] at hlt; exact absurd hlt (Nat.not_lt_zero _))
        obtain ⟨c0, c1, c2, c3, c4, c5, c6, c7, c8, hn, _, ⟨p0, p1, p2, p3, p4, p5, p6, p7, p8⟩, hT2⟩ := kid_at hK hB hbl k hlt
        rw [sizeK_step hlt] at hm
        have hsk := HSK.out
        have hll := HLL.out
        have cI0 := fun d os => Calls.regrown_of (HI.out l[k] (List.getElem_mem hlt) _ (Sort.grow (redrawn wr d) os) (by omega) (TreeAt.weaken (fun z hz => Nat.lt_of_lt_of_le hz (below_regrown wr d os).size) _ _ (TreeAt.keep (fun z hz => (below_regrown wr d os).block z hz) _ _ hT2)))
        obtain ⟨s, hsz⟩ : ∃ s, s = sizeT (l[k]).2 := ⟨_, rfl⟩
        have cI : ∀ d os, Calls Try.prog 10 #[.agg #[c0, c1, c2, c3, c4, c5, c6, c7, c8]] (Sort.grow (redrawn wr d) os) fun x w'' => x = .returned (.int .i64 (s : Int)) ∧ ∃ p : Regrown, w'' = Sort.grow (redrawn wr p.d) p.os := fun d os => by rw [hsz]; exact cI0 d os
        rw [← hsz] at hm
        clear hsz cI0
        generalize (l[k]).1 = nm at *
        obtain ⟨a, ha⟩ : ∃ a, a = nm.length := ⟨_, rfl⟩
        have hm2 : (m + a + 2 + s) + sizeK (l.drop (k + 1)) = 5 + sizeK l := by omega
        have HM2 := Lib.hid hm2
        have HK1 : Hid (k + 1 ≤ l.length) := hlt
        have i0 : (0 : Int) ≤ (k : Int) := by omega
        have i1 : (k : Int) < (l.length : Int) := by omega
        have q1 : (m : Int) + (nm.length : Int) = ((m + a : Nat) : Int) := by omega
        have q2 : ((m + a : Nat) : Int) + 2 = ((m + a + 2 : Nat) : Int) := by omega
        have q3 : ((m + a + 2 : Nat) : Int) + (s : Int) = ((m + a + 2 + s : Nat) : Int) := by omega
        have b1 : m + a ≤ 4000000000 := by omega
        have b2 : m + a + 2 ≤ 4000000000 := by omega
        have b3 : m + a + 2 + s ≤ 4000000000 := by omega
        have b4 : k + 1 ≤ 4000000000 := by omega
        have q4 : (m : Int) + (a : Int) + 2 = ((m + a + 2 : Nat) : Int) := by omega
        have YY : Hid (wrap64 (wrap64 ((m : Int) + (a : Int) + 2) + (s : Int)) = ((m + a + 2 + s : Nat) : Int)) := show _ = _ by rw [w9 q4 b2]; exact w9 q3 b3
        clear q4
        have x1 : IntKind.i64.wrap ((m : Int) + (nm.length : Int)) = ((m + a : Nat) : Int) := i9 q1 b1
        have x2 : IntKind.i64.wrap (((m + a : Nat) : Int) + 2) = ((m + a + 2 : Nat) : Int) := i9 q2 b2
        have x3 : IntKind.i64.wrap (((m + a + 2 : Nat) : Int) + (s : Int)) = ((m + a + 2 + s : Nat) : Int) := i9 q3 b3
        have y1 : wrap64 ((m : Int) + (nm.length : Int)) = ((m + a : Nat) : Int) := w9 q1 b1
        have y2 : wrap64 (((m + a : Nat) : Int) + 2) = ((m + a + 2 : Nat) : Int) := w9 q2 b2
        have y3 : wrap64 (((m + a + 2 : Nat) : Int) + (s : Int)) = ((m + a + 2 + s : Nat) : Int) := w9 q3 b3
        have u2 : Hid (wrap64 ((k : Int) + 1) = ((k + 1 : Nat) : Int)) := show _ = _ from w9 rfl b4
        clear q1 q2 q3 b1 b2 b3 b4
        have r8 := cell_regrown j8
        have rn := cell_regrown hn
        have rp0 := cell_regrown p0; have rp1 := cell_regrown p1; have rp2 := cell_regrown p2; have rp3 := cell_regrown p3; have rp4 := cell_regrown p4
        have rp5 := cell_regrown p5; have rp6 := cell_regrown p6; have rp7 := cell_regrown p7; have rp8 := cell_regrown p8
        clear hm hm2 hsk hll ha hT2 hK hbl hk hB hg
        go_upto_region 35 with fail
        refine wp_region_quiet_below (by kernel_rfl) (by kernel_rfl) ?_
        repeat (go_big_quiet_step (first | with_reducible exact cI _ _))
        refine wpQuiet_nil ?_
        intro _ hw'
        obtain ⟨⟨dq, osq⟩, hw''⟩ := hw'
        subst hw''
        have HB5 := Lib.hid (HB.out.trans ((below_regrown wr dq osq).mono HB.out.size))
        have G5 := Lib.hid (((below_regrown wr dq osq).block _ (block_lt G.out)).trans G.out)
        clear cI r8 rn rp0 rp1 rp2 rp3 rp4 rp5 rp6 rp7 rp8 p0 p1 p2 p3 p4 p5 p6 p7 p8 hn j8 x1 x2 x3 y1 y2 y3 HB G
        generalize Sort.grow (redrawn wr dq) osq = w2 at *
        go_wp2_with fail
        go_roundw
        case rel => exact ⟨⟨HB5.out, G5.out⟩, k + 1, m + a + 2 + s, HK1.out, by first | rfl | rw [u2.out], by first | rfl | rw [YY.out], HM2.out⟩
        case measure => have := HK1.out; first | (rw [u2.out]; simp [natV]; omega) | (simp [natV]; omega)
      · obtain rfl : k = l.length := by omega
        have d1 : decide ((l.length : Int) < (l.length : Int)) = false := decide_eq_false (by omega)
        have d1n : decide (l.length < l.length) = false := decide_eq_false (by omega)
        rw [List.drop_length, sizeK, Nat.add_zero] at hm
        have j0 : wr.cell? ⟨w.heap.size, 0, none⟩ = some (.int .i64 3) := by rw [block_cell hg, ← hk3]; rfl
        have j4 : wr.cell? ⟨w.heap.size, 4, none⟩ = some (.string ⟨o.text.toArray⟩) := by rw [block_cell hg]; rfl
        have HE2 : Hid (R = m) := show _ = _ by rw [HE.out]; omega
        clear hlt hk hB hg hm
        go_wp2_with fail
        go_ret
        exact ⟨by rw [HE2.out]; rfl, HB.out⟩
  by_cases hk4 : o.kind = 4
  · have hR := HR.out
    have hs := HS.out
    simp only [sizeO, hk4] at hR
    rw [hk4] at j0
    have hR2 : R = 5 + sizeK l := by simpa using hR
    have HE := Lib.hid hR2
    have HLL : Hid (l.length ≤ 1000000000) := show _ ≤ _ by have := len_size l; omega
    have HSK : Hid (5 + sizeK l ≤ 1000000000) := show _ ≤ _ by omega
    have H0 : Hid (5 + sizeK (l.drop 0) = 5 + sizeK l) := rfl
    clear hR hs hR2 HR
    go_wp2_with fail
    clear j8
    go_loopw [4, 5] (fun v i wr => (Below w.heap.size w wr ∧ wr.heap[w.heap.size]? = some (.cells #[.int .i64 o.kind, .int .u64 (o.bits : Int), .int .u64 (o.high : Int), .int .u64 (o.low : Int), .string ⟨o.text.toArray⟩, .string ⟨o.more.toArray⟩, .int .i64 o.sub, .slice Ab o.bytes.length cb, .slice Ak l.length ck] 26)) ∧ ∃ k m : Nat, k ≤ l.length ∧ i = .int .i64 (k : Int) ∧ v = .int .i64 (m : Int) ∧ m + sizeK (l.drop k) = 5 + sizeK l) (fun _ i _ => l.length - natV i)
    case atStart => exact ⟨⟨HB0.out, G0.out⟩, 0, 5, Nat.zero_le _, rfl, rfl, H0.out⟩
    case round =>
      obtain ⟨⟨hB, hg⟩, k, m, hk, rfl, rfl, hm⟩ := hrel
      clear HB0 G0 H0
      have HB := Lib.hid hB
      have G := Lib.hid hg
      have j8 : wr.cell? ⟨w.heap.size, 8, none⟩ = some (.slice Ak l.length ck) := by rw [block_cell hg]; rfl
      by_cases hlt : k < l.length
      · have d1 : decide ((k : Int) < (l.length : Int)) = true := decide_eq_true (by omega)
        have d1n : decide (k < l.length) = true := decide_eq_true hlt
        obtain ⟨b, off, rfl, hbl, hK⟩ := HK.out (fun e => by rw [e] at hlt; exact absurd hlt (Nat.not_lt_zero _))
        obtain ⟨c0, c1, c2, c3, c4, c5, c6, c7, c8, hn, _, ⟨p0, p1, p2, p3, p4, p5, p6, p7, p8⟩, hT2⟩ := kid_at hK hB hbl k hlt
        rw [sizeK_step hlt] at hm
        have hsk := HSK.out
        have hll := HLL.out
        have cI0 := fun d os => Calls.regrown_of (HI.out l[k] (List.getElem_mem hlt) _ (Sort.grow (redrawn wr d) os) (by omega) (TreeAt.weaken (fun z hz => Nat.lt_of_lt_of_le hz (below_regrown wr d os).size) _ _ (TreeAt.keep (fun z hz => (below_regrown wr d os).block z hz) _ _ hT2)))
        obtain ⟨s, hsz⟩ : ∃ s, s = sizeT (l[k]).2 := ⟨_, rfl⟩
        have cI : ∀ d os, Calls Try.prog 10 #[.agg #[c0, c1, c2, c3, c4, c5, c6, c7, c8]] (Sort.grow (redrawn wr d) os) fun x w'' => x = .returned (.int .i64 (s : Int)) ∧ ∃ p : Regrown, w'' = Sort.grow (redrawn wr p.d) p.os := fun d os => by rw [hsz]; exact cI0 d os
        rw [← hsz] at hm
        clear hsz cI0
        generalize (l[k]).1 = nm at *
        obtain ⟨a, ha⟩ : ∃ a, a = nm.length := ⟨_, rfl⟩
        have hm2 : (m + a + 2 + s) + sizeK (l.drop (k + 1)) = 5 + sizeK l := by omega
        have HM2 := Lib.hid hm2
        have HK1 : Hid (k + 1 ≤ l.length) := hlt
        have i0 : (0 : Int) ≤ (k : Int) := by omega
        have i1 : (k : Int) < (l.length : Int) := by omega
        have q1 : (m : Int) + (nm.length : Int) = ((m + a : Nat) : Int) := by omega
        have q2 : ((m + a : Nat) : Int) + 2 = ((m + a + 2 : Nat) : Int) := by omega
        have q3 : ((m + a + 2 : Nat) : Int) + (s : Int) = ((m + a + 2 + s : Nat) : Int) := by omega
        have b1 : m + a ≤ 4000000000 := by omega
        have b2 : m + a + 2 ≤ 4000000000 := by omega
        have b3 : m + a + 2 + s ≤ 4000000000 := by omega
        have b4 : k + 1 ≤ 4000000000 := by omega
        have q4 : (m : Int) + (a : Int) + 2 = ((m + a + 2 : Nat) : Int) := by omega
        have YY : Hid (wrap64 (wrap64 ((m : Int) + (a : Int) + 2) + (s : Int)) = ((m + a + 2 + s : Nat) : Int)) := show _ = _ by rw [w9 q4 b2]; exact w9 q3 b3
        clear q4
        have x1 : IntKind.i64.wrap ((m : Int) + (nm.length : Int)) = ((m + a : Nat) : Int) := i9 q1 b1
        have x2 : IntKind.i64.wrap (((m + a : Nat) : Int) + 2) = ((m + a + 2 : Nat) : Int) := i9 q2 b2
        have x3 : IntKind.i64.wrap (((m + a + 2 : Nat) : Int) + (s : Int)) = ((m + a + 2 + s : Nat) : Int) := i9 q3 b3
        have y1 : wrap64 ((m : Int) + (nm.length : Int)) = ((m + a : Nat) : Int) := w9 q1 b1
        have y2 : wrap64 (((m + a : Nat) : Int) + 2) = ((m + a + 2 : Nat) : Int) := w9 q2 b2
        have y3 : wrap64 (((m + a + 2 : Nat) : Int) + (s : Int)) = ((m + a + 2 + s : Nat) : Int) := w9 q3 b3
        have u2 : Hid (wrap64 ((k : Int) + 1) = ((k + 1 : Nat) : Int)) := show _ = _ from w9 rfl b4
        clear q1 q2 q3 b1 b2 b3 b4
        have r8 := cell_regrown j8
        have rn := cell_regrown hn
        have rp0 := cell_regrown p0; have rp1 := cell_regrown p1; have rp2 := cell_regrown p2; have rp3 := cell_regrown p3; have rp4 := cell_regrown p4
        have rp5 := cell_regrown p5; have rp6 := cell_regrown p6; have rp7 := cell_regrown p7; have rp8 := cell_regrown p8
        clear hm hm2 hsk hll ha hT2 hK hbl hk hB hg
        go_upto_region 35 with fail
        refine wp_region_quiet_below (by kernel_rfl) (by kernel_rfl) ?_
        repeat (go_big_quiet_step (first | with_reducible exact cI _ _))
        refine wpQuiet_nil ?_
        intro _ hw'
        obtain ⟨⟨dq, osq⟩, hw''⟩ := hw'
        subst hw''
        have HB5 := Lib.hid (HB.out.trans ((below_regrown wr dq osq).mono HB.out.size))
        have G5 := Lib.hid (((below_regrown wr dq osq).block _ (block_lt G.out)).trans G.out)
        clear cI r8 rn rp0 rp1 rp2 rp3 rp4 rp5 rp6 rp7 rp8 p0 p1 p2 p3 p4 p5 p6 p7 p8 hn j8 x1 x2 x3 y1 y2 y3 HB G
        generalize Sort.grow (redrawn wr dq) osq = w2 at *
        go_wp2_with fail
        go_roundw
        case rel => exact ⟨⟨HB5.out, G5.out⟩, k + 1, m + a + 2 + s, HK1.out, by first | rfl | rw [u2.out], by first | rfl | rw [YY.out], HM2.out⟩
        case measure => have := HK1.out; first | (rw [u2.out]; simp [natV]; omega) | (simp [natV]; omega)
      · obtain rfl : k = l.length := by omega
        have d1 : decide ((l.length : Int) < (l.length : Int)) = false := decide_eq_false (by omega)
        have d1n : decide (l.length < l.length) = false := decide_eq_false (by omega)
        rw [List.drop_length, sizeK, Nat.add_zero] at hm
        have j0 : wr.cell? ⟨w.heap.size, 0, none⟩ = some (.int .i64 4) := by rw [block_cell hg, ← hk4]; rfl
        have j4 : wr.cell? ⟨w.heap.size, 4, none⟩ = some (.string ⟨o.text.toArray⟩) := by rw [block_cell hg]; rfl
        have HE2 : Hid (R = m) := show _ = _ by rw [HE.out]; omega
        clear hlt hk hB hg hm
        go_wp2_with fail
        go_ret
        exact ⟨by rw [HE2.out]; rfl, HB.out⟩
  by_cases hk15 : o.kind = 15
  · have hR := HR.out
    have hs := HS.out
    simp only [sizeO, hk15] at hR
    rw [hk15] at j0
    have hR2 : R = 5 + sizeK l + o.text.length + 9 := by simpa using hR
    have HE := Lib.hid hR2
    have HLL : Hid (l.length ≤ 1000000000) := show _ ≤ _ by have := len_size l; omega
    have HSK : Hid (5 + sizeK l ≤ 1000000000) := show _ ≤ _ by omega
    have H0 : Hid (5 + sizeK (l.drop 0) = 5 + sizeK l) := rfl
    clear hR hs hR2 HR
    go_wp2_with fail
    clear j8
    go_loopw [4, 5] (fun v i wr => (Below w.heap.size w wr ∧ wr.heap[w.heap.size]? = some (.cells #[.int .i64 o.kind, .int .u64 (o.bits : Int), .int .u64 (o.high : Int), .int .u64 (o.low : Int), .string ⟨o.text.toArray⟩, .string ⟨o.more.toArray⟩, .int .i64 o.sub, .slice Ab o.bytes.length cb, .slice Ak l.length ck] 26)) ∧ ∃ k m : Nat, k ≤ l.length ∧ i = .int .i64 (k : Int) ∧ v = .int .i64 (m : Int) ∧ m + sizeK (l.drop k) = 5 + sizeK l) (fun _ i _ => l.length - natV i)
    case atStart => exact ⟨⟨HB0.out, G0.out⟩, 0, 5, Nat.zero_le _, rfl, rfl, H0.out⟩
    case round =>
      obtain ⟨⟨hB, hg⟩, k, m, hk, rfl, rfl, hm⟩ := hrel
      clear HB0 G0 H0
      have HB := Lib.hid hB
      have G := Lib.hid hg
      have j8 : wr.cell? ⟨w.heap.size, 8, none⟩ = some (.slice Ak l.length ck) := by rw [block_cell hg]; rfl
      by_cases hlt : k < l.length
      · have d1 : decide ((k : Int) < (l.length : Int)) = true := decide_eq_true (by omega)
        have d1n : decide (k < l.length) = true := decide_eq_true hlt
        obtain ⟨b, off, rfl, hbl, hK⟩ := HK.out (fun e => by rw [e] at hlt; exact absurd hlt (Nat.not_lt_zero _))
        obtain ⟨c0, c1, c2, c3, c4, c5, c6, c7, c8, hn, _, ⟨p0, p1, p2, p3, p4, p5, p6, p7, p8⟩, hT2⟩ := kid_at hK hB hbl k hlt
        rw [sizeK_step hlt] at hm
        have hsk := HSK.out
        have hll := HLL.out
        have cI0 := fun d os => Calls.regrown_of (HI.out l[k] (List.getElem_mem hlt) _ (Sort.grow (redrawn wr d) os) (by omega) (TreeAt.weaken (fun z hz => Nat.lt_of_lt_of_le hz (below_regrown wr d os).size) _ _ (TreeAt.keep (fun z hz => (below_regrown wr d os).block z hz) _ _ hT2)))
        obtain ⟨s, hsz⟩ : ∃ s, s = sizeT (l[k]).2 := ⟨_, rfl⟩
        have cI : ∀ d os, Calls Try.prog 10 #[.agg #[c0, c1, c2, c3, c4, c5, c6, c7, c8]] (Sort.grow (redrawn wr d) os) fun x w'' => x = .returned (.int .i64 (s : Int)) ∧ ∃ p : Regrown, w'' = Sort.grow (redrawn wr p.d) p.os := fun d os => by rw [hsz]; exact cI0 d os
        rw [← hsz] at hm
        clear hsz cI0
        generalize (l[k]).1 = nm at *
        obtain ⟨a, ha⟩ : ∃ a, a = nm.length := ⟨_, rfl⟩
        have hm2 : (m + a + 2 + s) + sizeK (l.drop (k + 1)) = 5 + sizeK l := by omega
        have HM2 := Lib.hid hm2
        have HK1 : Hid (k + 1 ≤ l.length) := hlt
        have i0 : (0 : Int) ≤ (k : Int) := by omega
        have i1 : (k : Int) < (l.length : Int) := by omega
        have q1 : (m : Int) + (nm.length : Int) = ((m + a : Nat) : Int) := by omega
        have q2 : ((m + a : Nat) : Int) + 2 = ((m + a + 2 : Nat) : Int) := by omega
        have q3 : ((m + a + 2 : Nat) : Int) + (s : Int) = ((m + a + 2 + s : Nat) : Int) := by omega
        have b1 : m + a ≤ 4000000000 := by omega
        have b2 : m + a + 2 ≤ 4000000000 := by omega
        have b3 : m + a + 2 + s ≤ 4000000000 := by omega
        have b4 : k + 1 ≤ 4000000000 := by omega
        have q4 : (m : Int) + (a : Int) + 2 = ((m + a + 2 : Nat) : Int) := by omega
        have YY : Hid (wrap64 (wrap64 ((m : Int) + (a : Int) + 2) + (s : Int)) = ((m + a + 2 + s : Nat) : Int)) := show _ = _ by rw [w9 q4 b2]; exact w9 q3 b3
        clear q4
        have x1 : IntKind.i64.wrap ((m : Int) + (nm.length : Int)) = ((m + a : Nat) : Int) := i9 q1 b1
        have x2 : IntKind.i64.wrap (((m + a : Nat) : Int) + 2) = ((m + a + 2 : Nat) : Int) := i9 q2 b2
        have x3 : IntKind.i64.wrap (((m + a + 2 : Nat) : Int) + (s : Int)) = ((m + a + 2 + s : Nat) : Int) := i9 q3 b3
        have y1 : wrap64 ((m : Int) + (nm.length : Int)) = ((m + a : Nat) : Int) := w9 q1 b1
        have y2 : wrap64 (((m + a : Nat) : Int) + 2) = ((m + a + 2 : Nat) : Int) := w9 q2 b2
        have y3 : wrap64 (((m + a + 2 : Nat) : Int) + (s : Int)) = ((m + a + 2 + s : Nat) : Int) := w9 q3 b3
        have u2 : Hid (wrap64 ((k : Int) + 1) = ((k + 1 : Nat) : Int)) := show _ = _ from w9 rfl b4
        clear q1 q2 q3 b1 b2 b3 b4
        have r8 := cell_regrown j8
        have rn := cell_regrown hn
        have rp0 := cell_regrown p0; have rp1 := cell_regrown p1; have rp2 := cell_regrown p2; have rp3 := cell_regrown p3; have rp4 := cell_regrown p4
        have rp5 := cell_regrown p5; have rp6 := cell_regrown p6; have rp7 := cell_regrown p7; have rp8 := cell_regrown p8
        clear hm hm2 hsk hll ha hT2 hK hbl hk hB hg
        go_upto_region 35 with fail
        refine wp_region_quiet_below (by kernel_rfl) (by kernel_rfl) ?_
        repeat (go_big_quiet_step (first | with_reducible exact cI _ _))
        refine wpQuiet_nil ?_
        intro _ hw'
        obtain ⟨⟨dq, osq⟩, hw''⟩ := hw'
        subst hw''
        have HB5 := Lib.hid (HB.out.trans ((below_regrown wr dq osq).mono HB.out.size))
        have G5 := Lib.hid (((below_regrown wr dq osq).block _ (block_lt G.out)).trans G.out)
        clear cI r8 rn rp0 rp1 rp2 rp3 rp4 rp5 rp6 rp7 rp8 p0 p1 p2 p3 p4 p5 p6 p7 p8 hn j8 x1 x2 x3 y1 y2 y3 HB G
        generalize Sort.grow (redrawn wr dq) osq = w2 at *
        go_wp2_with fail
        go_roundw
        case rel => exact ⟨⟨HB5.out, G5.out⟩, k + 1, m + a + 2 + s, HK1.out, by first | rfl | rw [u2.out], by first | rfl | rw [YY.out], HM2.out⟩
        case measure => have := HK1.out; first | (rw [u2.out]; simp [natV]; omega) | (simp [natV]; omega)
      · obtain rfl : k = l.length := by omega
        have d1 : decide ((l.length : Int) < (l.length : Int)) = false := decide_eq_false (by omega)
        have d1n : decide (l.length < l.length) = false := decide_eq_false (by omega)
        rw [List.drop_length, sizeK, Nat.add_zero] at hm
        have j0 : wr.cell? ⟨w.heap.size, 0, none⟩ = some (.int .i64 15) := by rw [block_cell hg, ← hk15]; rfl
        have j4 : wr.cell? ⟨w.heap.size, 4, none⟩ = some (.string ⟨o.text.toArray⟩) := by rw [block_cell hg]; rfl
        have hs := HS.out
        have he := HE.out
        have HE2 : Hid (R = m + o.text.length + 9) := show _ = _ by omega
        have u1 : wrap64 ((m : Int) + (o.text.length : Int)) = ((m + o.text.length : Nat) : Int) := w9 (by omega) (by omega)
        have u3 : wrap64 (((m + o.text.length : Nat) : Int) + 9) = ((m + o.text.length + 9 : Nat) : Int) := w9 (by omega) (by omega)
        clear hlt hk hB hg hm hs he
        go_wp2_with fail
        go_ret
        exact ⟨by rw [HE2.out]; first | rfl | (refine num_end ?_; exact u3), HB.out⟩
  have HE : Hid (R = 0) := show _ = _ by
    have hR := HR.out
    simpa [sizeO, hk1, hk9, hk17, hk18, hk16, hk8, hk19, hk2, hk13, hk14, hk11, hk5, hk7, hk12, hk3, hk4, hk15] using hR
  have e1 : (o.kind == 1) = false := beq_eq_false_iff_ne.2 hk1
  have e9 : (o.kind == 9) = false := beq_eq_false_iff_ne.2 hk9
  have e17 : (o.kind == 17) = false := beq_eq_false_iff_ne.2 hk17
  have e18 : (o.kind == 18) = false := beq_eq_false_iff_ne.2 hk18
  have e16 : (o.kind == 16) = false := beq_eq_false_iff_ne.2 hk16
  have e8 : (o.kind == 8) = false := beq_eq_false_iff_ne.2 hk8
  have e19 : (o.kind == 19) = false := beq_eq_false_iff_ne.2 hk19
  have e2 : (o.kind == 2) = false := beq_eq_false_iff_ne.2 hk2
  have e13 : (o.kind == 13) = false := beq_eq_false_iff_ne.2 hk13
  have e14 : (o.kind == 14) = false := beq_eq_false_iff_ne.2 hk14
  have e11 : (o.kind == 11) = false := beq_eq_false_iff_ne.2 hk11
  have e5 : (o.kind == 5) = false := beq_eq_false_iff_ne.2 hk5
  have e7 : (o.kind == 7) = false := beq_eq_false_iff_ne.2 hk7
  have e12 : (o.kind == 12) = false := beq_eq_false_iff_ne.2 hk12
  have e3 : (o.kind == 3) = false := beq_eq_false_iff_ne.2 hk3
  have e4 : (o.kind == 4) = false := beq_eq_false_iff_ne.2 hk4
  have e15 : (o.kind == 15) = false := beq_eq_false_iff_ne.2 hk15
  clear hk1 hk9 hk17 hk18 hk16 hk8 hk19 hk2 hk13 hk14 hk11 hk5 hk7 hk12 hk3 hk4 hk15
  go_wp2_with fail
  go_ret
  exact ⟨by rw [HE.out]; rfl, HB0.out⟩
end Go.Proofs.Ytdaoekcabfapaaa
