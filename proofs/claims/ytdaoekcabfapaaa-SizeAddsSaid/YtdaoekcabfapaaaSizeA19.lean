/-
  What the program's Of, May and Fits do (chapter 19), for every tree; by induction over trees, no condition but bounds.
-/
import Derived.Test.YtdaoekcabfapaaaRefFits19
import Derived.Test.YtdaoekcabfapaaaCodeA17
import Derived.BigQuiet
namespace Go.Proofs.Ytdaoekcabfapaaa
set_option maxRecDepth 100000
open Go.RowKit

theorem TreeAt.up {w w' : World} {t : Tree} {cs : List Value} (h : TreeAt w (· < w.heap.size) t cs) (hb : Below w.heap.size w w') : TreeAt w' (· < w'.heap.size) t cs :=
  TreeAt.weaken (fun _ hk => Nat.lt_of_lt_of_le hk hb.size) _ _ (h.on hb)
set_option maxHeartbeats 4000000 in
theorem isWithin_any (n a b : Int) (w : World) : Calls Try.prog 20 #[.int .i64 n, .int .i64 a, .int .i64 b] w fun e w' => e = .returned (.bool (decide (a ≤ n) && decide (n ≤ b))) ∧ w' = w := by
  obtain ⟨x, hx⟩ : ∃ x, decide (a ≤ n) = x := ⟨_, rfl⟩
  obtain ⟨y, hy⟩ : ∃ y, decide (n ≤ b) = y := ⟨_, rfl⟩
  rw [hx, hy]
  cases x with
  | false =>
    go_enter Try.func20, Try.ntmps20
    go_wp2_with fail
    go_ret
    exact ⟨rfl, rfl⟩
  | true =>
    go_enter Try.func20, Try.ntmps20
    go_wp2_with fail
    go_ret
    exact ⟨by cases y <;> rfl, rfl⟩
set_option maxHeartbeats 4000000 in
theorem ofText_any (s : List UInt8) (w : World) (h : s.length ≤ 3000000000) : Calls Try.prog 17 #[.string ⟨s.toArray⟩] w fun e w' => e = .returned (.int .i64 ((s.length + 5 : Nat) : Int)) ∧ w' = w := by
  have u1 : wrap64 (4 + (s.length : Int)) = ((s.length + 4 : Nat) : Int) := w9 (by omega) (by omega)
  have u2 : wrap64 (((s.length + 4 : Nat) : Int) + 1) = ((s.length + 5 : Nat) : Int) := w9 (by omega) (by omega)
  clear h
  go_enter Try.func17, Try.ntmps17
  go_wp2_with fail
  go_ret
  exact ⟨by first | rfl | (refine num_end ?_; first | exact u2 | exact u1), rfl⟩
theorem binT (o : OwnV) : ∀ n, n = (if o.sub = 2 then o.bytes.length + 5 + 4 else o.bytes.length + 5) → (o.sub = 2 ∧ n = o.bytes.length + 9) ∨ (o.sub ≠ 2 ∧ n = o.bytes.length + 5) := by
  intro n h
  split at h
  · exact .inl ⟨by assumption, by omega⟩
  · exact .inr ⟨by assumption, by omega⟩
set_option maxHeartbeats 8000000 in
theorem ofBinary_any (o : OwnV) (Ab : Option Addr) (cb : Nat) (Ak : Option Addr) (nk ck : Nat) (w : World) (h : o.bytes.length ≤ 3000000000) :
    Calls Try.prog 18 #[.agg #[.int .i64 o.kind, .int .u64 (o.bits : Int), .int .u64 (o.high : Int), .int .u64 (o.low : Int), .string ⟨o.text.toArray⟩, .string ⟨o.more.toArray⟩, .int .i64 o.sub, .slice Ab o.bytes.length cb, .slice Ak nk ck]] w fun e w' => e = .returned (.int .i64 (((if o.sub = 2 then o.bytes.length + 5 + 4 else o.bytes.length + 5 : Nat)) : Int)) ∧ Below w.heap.size w w' := by
  have B0 : Below w.heap.size w (w.alloc (.cells #[.int .i64 o.kind, .int .u64 (o.bits : Int), .int .u64 (o.high : Int), .int .u64 (o.low : Int), .string ⟨o.text.toArray⟩, .string ⟨o.more.toArray⟩, .int .i64 o.sub, .slice Ab o.bytes.length cb, .slice Ak nk ck] 26)) := (Below.refl _ _).alloc (Nat.le_refl _) _
  have g0 : (w.alloc (.cells #[.int .i64 o.kind, .int .u64 (o.bits : Int), .int .u64 (o.high : Int), .int .u64 (o.low : Int), .string ⟨o.text.toArray⟩, .string ⟨o.more.toArray⟩, .int .i64 o.sub, .slice Ab o.bytes.length cb, .slice Ak nk ck] 26)).heap[w.heap.size]? = some (.cells #[.int .i64 o.kind, .int .u64 (o.bits : Int), .int .u64 (o.high : Int), .int .u64 (o.low : Int), .string ⟨o.text.toArray⟩, .string ⟨o.more.toArray⟩, .int .i64 o.sub, .slice Ab o.bytes.length cb, .slice Ak nk ck] 26) := heap_alloc_new w _
  obtain ⟨r, hr⟩ : ∃ r, r = (if o.sub = 2 then o.bytes.length + 5 + 4 else o.bytes.length + 5 : Nat) := ⟨_, rfl⟩
  rw [← hr]
  have HC := Lib.hid (binT o r hr)
  have HB0 := Lib.hid B0
  have u1 : wrap64 (5 + (o.bytes.length : Int)) = ((o.bytes.length + 5 : Nat) : Int) := w9 (by omega) (by omega)
  have u2 : Hid (wrap64 (((o.bytes.length + 5 : Nat) : Int) + 4) = ((o.bytes.length + 9 : Nat) : Int)) := show _ = _ from w9 (by omega) (by omega)
  have j6 : (w.alloc (.cells #[.int .i64 o.kind, .int .u64 (o.bits : Int), .int .u64 (o.high : Int), .int .u64 (o.low : Int), .string ⟨o.text.toArray⟩, .string ⟨o.more.toArray⟩, .int .i64 o.sub, .slice Ab o.bytes.length cb, .slice Ak nk ck] 26)).cell? ⟨w.heap.size, 6, none⟩ = some (.int .i64 o.sub) := by rw [block_cell g0]; rfl
  have j7 : (w.alloc (.cells #[.int .i64 o.kind, .int .u64 (o.bits : Int), .int .u64 (o.high : Int), .int .u64 (o.low : Int), .string ⟨o.text.toArray⟩, .string ⟨o.more.toArray⟩, .int .i64 o.sub, .slice Ab o.bytes.length cb, .slice Ak nk ck] 26)).cell? ⟨w.heap.size, 7, none⟩ = some (.slice Ab o.bytes.length cb) := by rw [block_cell g0]; rfl
  clear h hr B0 g0
  go_enter Try.func18, Try.ntmps18
  go_upto_region 1 with fail
  generalize (w.alloc (.cells #[.int .i64 o.kind, .int .u64 (o.bits : Int), .int .u64 (o.high : Int), .int .u64 (o.low : Int), .string ⟨o.text.toArray⟩, .string ⟨o.more.toArray⟩, .int .i64 o.sub, .slice Ab o.bytes.length cb, .slice Ak nk ck] 26)) = W at *
  rcases HC.out with ⟨h2, h3⟩ | ⟨h2, h3⟩
  · have e1 : (o.sub == 2) = true := beq_iff_eq.2 h2
    have HE := Lib.hid h3
    have u3 := u2.out
    clear h2 h3 HC
    go_wp2_with fail
    go_ret
    exact ⟨by rw [HE.out]; first | rfl | (refine num_end ?_; first | exact u2.out | exact u1), HB0.out⟩
  · have e1 : (o.sub == 2) = false := beq_eq_false_iff_ne.2 h2
    have HE := Lib.hid h3
    clear h2 h3 HC
    go_wp2_with fail
    go_ret
    exact ⟨by rw [HE.out]; first | rfl | (refine num_end ?_; first | exact u2.out | exact u1), HB0.out⟩
theorem mayB_eq (a b c : Int) : mayB a b c = (((decide (1 ≤ a) && decide (a ≤ 200)) && (decide (5 ≤ b) && decide (b ≤ 16777216))) && (decide (0 ≤ c) && decide (c ≤ 67108864))) := by
  unfold mayB
  rw [Bool.eq_iff_iff]
  simp
  omega
set_option maxHeartbeats 8000000 in
theorem may_any (a b c : Int) (w : World) : Calls Try.prog 11 #[.agg #[.int .i64 a, .int .i64 b, .int .i64 c]] w fun e w' => e = .returned (.bool (mayB a b c)) ∧ Below w.heap.size w w' := by
  have B2 : Below w.heap.size w (w.alloc (.cells #[.int .i64 a, .int .i64 b, .int .i64 c] 31)) := (Below.refl _ _).alloc (Nat.le_refl _) _
  have g0 : (w.alloc (.cells #[.int .i64 a, .int .i64 b, .int .i64 c] 31)).heap[w.heap.size]? = some (.cells #[.int .i64 a, .int .i64 b, .int .i64 c] 31) := heap_alloc_new w _
  have cA := Lib.hid fun w => isWithin_any a 1 200 w
  have cB := Lib.hid fun w => isWithin_any b 5 16777216 w
  have cC := Lib.hid fun w => isWithin_any c 0 67108864 w
  rw [mayB_eq]
  generalize (decide (1 ≤ a) && decide (a ≤ 200)) = x at *
  generalize (decide (5 ≤ b) && decide (b ≤ 16777216)) = y at *
  generalize (decide (0 ≤ c) && decide (c ≤ 67108864)) = z at *
  have HB2 := Lib.hid B2
  have k0 : (w.alloc (.cells #[.int .i64 a, .int .i64 b, .int .i64 c] 31)).cell? ⟨w.heap.size, 0, none⟩ = some (.int .i64 a) := by rw [block_cell g0]; rfl
  have k1 : (w.alloc (.cells #[.int .i64 a, .int .i64 b, .int .i64 c] 31)).cell? ⟨w.heap.size, 1, none⟩ = some (.int .i64 b) := by rw [block_cell g0]; rfl
  have k2 : (w.alloc (.cells #[.int .i64 a, .int .i64 b, .int .i64 c] 31)).cell? ⟨w.heap.size, 2, none⟩ = some (.int .i64 c) := by rw [block_cell g0]; rfl
  clear B2 g0
  go_enter Try.func11, Try.ntmps11
  go_upto_region 1 with fail
  generalize (w.alloc (.cells #[.int .i64 a, .int .i64 b, .int .i64 c] 31)) = W at *
  cases x <;> cases y
  all_goals
    go_wp2_with (first | (with_reducible refine (cA.out _).mono ?_; rintro e w5 ⟨rfl, hw⟩; subst w5) | (with_reducible refine (cB.out _).mono ?_; rintro e w5 ⟨rfl, hw⟩; subst w5) | (with_reducible refine (cC.out _).mono ?_; rintro e w5 ⟨rfl, hw⟩; subst w5))
    go_ret
    exact ⟨by cases z <;> rfl, HB2.out⟩
set_option maxHeartbeats 16000000 in
theorem ofKids_any (l : List Kid) (Ak : Option Addr) (ck : Nat) (w : World) (hs : sizeK l ≤ 1000000000)
    (ih : ∀ x ∈ l, ∀ (cs : List Value) (w : World), sizeT x.2 ≤ 1000000000 → TreeAt w (· < w.heap.size) x.2 cs → Calls Try.prog 9 #[.agg cs.toArray] w fun e w' => e = .returned (.int .i64 ((sizeT x.2 : Nat) : Int)) ∧ Below w.heap.size w w')
    (hkids : l ≠ [] → ∃ b off, Ak = some ⟨b, off, none⟩ ∧ b < w.heap.size ∧ KidsAt w (· < w.heap.size) b off l) :
    Calls Try.prog 19 #[.slice Ak l.length ck] w fun e w' => e = .returned (.int .i64 ((5 + sizeK l : Nat) : Int)) ∧ Below w.heap.size w w' := by
  have HK := Lib.hid hkids
  have HI := Lib.hid ih
  have HLL : Hid (l.length ≤ 1000000000) := show _ ≤ _ by have := len_size l; omega
  have HSK : Hid (sizeK l ≤ 1000000000) := hs
  have H0 : Hid (5 + sizeK (l.drop 0) = 5 + sizeK l) := rfl
  obtain ⟨R, hR⟩ : ∃ R, R = 5 + sizeK l := ⟨_, rfl⟩
  rw [← hR]
  have HR := Lib.hid hR
  clear hs ih hkids hR
  go_enter Try.func19, Try.ntmps19
  go_wp2_with fail
  go_loopw [3, 7] (fun v i wr => Below w.heap.size w wr ∧ ∃ k m : Nat, k ≤ l.length ∧ i = .int .i64 (k : Int) ∧ v = .int .i64 (m : Int) ∧ m + sizeK (l.drop k) = 5 + sizeK l) (fun _ i _ => l.length - natV i)
  case atStart => exact ⟨Below.refl _ _, 0, 5, Nat.zero_le _, rfl, rfl, H0.out⟩
  case round =>
    obtain ⟨hB, k, m, hk, rfl, rfl, hm⟩ := hrel
    clear H0
    have HB := Lib.hid hB
    by_cases hlt : k < l.length
    · have d1 : decide ((k : Int) < (l.length : Int)) = true := decide_eq_true (by omega)
      have d1n : decide (k < l.length) = true := decide_eq_true hlt
      obtain ⟨b, off, rfl, hbl, hK⟩ := HK.out (fun e => by rw [e] at hlt; exact absurd hlt (Nat.not_lt_zero _))
      obtain ⟨c0, c1, c2, c3, c4, c5, c6, c7, c8, hn, _, ⟨p0, p1, p2, p3, p4, p5, p6, p7, p8⟩, hT2⟩ := kid_at hK hB hbl k hlt
      rw [sizeK_step hlt] at hm
      have hkd := sizeK_drop l k
      rw [sizeK_step hlt] at hkd
      have hsk := HSK.out
      have hll := HLL.out
      have cI0 := fun d os => Calls.regrown_of (HI.out l[k] (List.getElem_mem hlt) _ (Sort.grow (redrawn wr d) os) (by omega) (TreeAt.weaken (fun z hz => Nat.lt_of_lt_of_le hz (below_regrown wr d os).size) _ _ (TreeAt.keep (fun z hz => (below_regrown wr d os).block z hz) _ _ hT2)))
      obtain ⟨s, hsz⟩ : ∃ s, s = sizeT (l[k]).2 := ⟨_, rfl⟩
      have cI : ∀ d os, Calls Try.prog 9 #[.agg #[c0, c1, c2, c3, c4, c5, c6, c7, c8]] (Sort.grow (redrawn wr d) os) fun x w'' => x = .returned (.int .i64 (s : Int)) ∧ ∃ p : Regrown, w'' = Sort.grow (redrawn wr p.d) p.os := fun d os => by rw [hsz]; exact cI0 d os
      rw [← hsz] at hm
      clear hsz cI0 hkd
      generalize (l[k]).1 = nm at *
      obtain ⟨a, ha⟩ : ∃ a, a = nm.length := ⟨_, rfl⟩
      have hm2 : (m + (a + 2 + s)) + sizeK (l.drop (k + 1)) = 5 + sizeK l := by omega
      have HM2 := Lib.hid hm2
      have HK1 : Hid (k + 1 ≤ l.length) := hlt
      have i0 : (0 : Int) ≤ (k : Int) := by omega
      have i1 : (k : Int) < (l.length : Int) := by omega
      have q1 : 1 + (nm.length : Int) = ((a + 1 : Nat) : Int) := by omega
      have q2 : ((a + 1 : Nat) : Int) + 1 = ((a + 2 : Nat) : Int) := by omega
      have q3 : ((a + 2 : Nat) : Int) + (s : Int) = ((a + 2 + s : Nat) : Int) := by omega
      have q4 : (m : Int) + ((a + 2 + s : Nat) : Int) = ((m + (a + 2 + s) : Nat) : Int) := by omega
      have b1 : a + 1 ≤ 4000000000 := by omega
      have b2 : a + 2 ≤ 4000000000 := by omega
      have b3 : a + 2 + s ≤ 4000000000 := by omega
      have b4 : m + (a + 2 + s) ≤ 4000000000 := by omega
      have b5 : k + 1 ≤ 4000000000 := by omega
      have x1 : IntKind.i64.wrap (1 + (nm.length : Int)) = ((a + 1 : Nat) : Int) := i9 q1 b1
      have x2 : IntKind.i64.wrap (((a + 1 : Nat) : Int) + 1) = ((a + 2 : Nat) : Int) := i9 q2 b2
      have x3 : IntKind.i64.wrap (((a + 2 : Nat) : Int) + (s : Int)) = ((a + 2 + s : Nat) : Int) := i9 q3 b3
      have x4 : IntKind.i64.wrap ((m : Int) + ((a + 2 + s : Nat) : Int)) = ((m + (a + 2 + s) : Nat) : Int) := i9 q4 b4
      have y1 : wrap64 (1 + (nm.length : Int)) = ((a + 1 : Nat) : Int) := w9 q1 b1
      have y2 : wrap64 (((a + 1 : Nat) : Int) + 1) = ((a + 2 : Nat) : Int) := w9 q2 b2
      have y3 : wrap64 (((a + 2 : Nat) : Int) + (s : Int)) = ((a + 2 + s : Nat) : Int) := w9 q3 b3
      have y4 : wrap64 ((m : Int) + ((a + 2 + s : Nat) : Int)) = ((m + (a + 2 + s) : Nat) : Int) := w9 q4 b4
      have u2 : Hid (wrap64 ((k : Int) + 1) = ((k + 1 : Nat) : Int)) := show _ = _ from w9 rfl b5
      clear q1 q2 q3 q4 b1 b2 b3 b4 b5
      obtain ⟨n1, hn1⟩ : ∃ n1, n1 = a + 1 := ⟨_, rfl⟩
      rw [← hn1] at x1 x2 y1 y2
      obtain ⟨n2, hn2⟩ : ∃ n2, n2 = a + 2 := ⟨_, rfl⟩
      rw [← hn2] at x2 x3 x4 y2 y3 y4 HM2
      obtain ⟨n3, hn3⟩ : ∃ n3, n3 = n2 + s := ⟨_, rfl⟩
      rw [← hn3] at x3 x4 y3 y4 HM2
      obtain ⟨n4, hn4⟩ : ∃ n4, n4 = m + n3 := ⟨_, rfl⟩
      rw [← hn4] at x4 y4 HM2
      have rn := cell_regrown hn
      have rp0 := cell_regrown p0; have rp1 := cell_regrown p1; have rp2 := cell_regrown p2; have rp3 := cell_regrown p3; have rp4 := cell_regrown p4
      have rp5 := cell_regrown p5; have rp6 := cell_regrown p6; have rp7 := cell_regrown p7; have rp8 := cell_regrown p8
      clear hm hm2 hsk hll ha hT2 hK hbl hk hB hn1 hn2 hn3 hn4
      go_upto_region 5 with fail
      refine wp_region_quiet_below (by kernel_rfl) (by kernel_rfl) ?_
      repeat (go_big_quiet_step (first | with_reducible exact cI _ _))
      refine wpQuiet_nil ?_
      intro _ hw'
      obtain ⟨⟨dq, osq⟩, hw''⟩ := hw'
      subst hw''
      have HB5 := Lib.hid (HB.out.trans ((below_regrown wr dq osq).mono HB.out.size))
      clear cI rn rp0 rp1 rp2 rp3 rp4 rp5 rp6 rp7 rp8 p0 p1 p2 p3 p4 p5 p6 p7 p8 hn x1 x2 x3 x4 y1 y2 y3 y4 HB
      generalize Sort.grow (redrawn wr dq) osq = w2 at *
      go_wp2_with fail
      go_roundw
      case rel => exact ⟨HB5.out, k + 1, n4, HK1.out, by first | rfl | rw [u2.out], rfl, HM2.out⟩
      case measure => have := HK1.out; first | (rw [u2.out]; simp [natV]; omega) | (simp [natV]; omega)
    · obtain rfl : k = l.length := by omega
      have d1 : decide ((l.length : Int) < (l.length : Int)) = false := decide_eq_false (by omega)
      have d1n : decide (l.length < l.length) = false := decide_eq_false (by omega)
      rw [List.drop_length, sizeK, Nat.add_zero] at hm
      have HE2 : Hid (R = m) := show _ = _ by rw [HR.out]; omega
      clear hlt hk hB hm
      go_wp2_with fail
      go_ret
      exact ⟨by rw [HE2.out]; rfl, HB.out⟩
end Go.Proofs.Ytdaoekcabfapaaa
