/-
  What the program's hasKids, Count and Depth do (chapter 17), for every tree; no condition but bounds.
-/
import Derived.Test.YtdaoekcabfapaaaRefA17

namespace Go.Proofs.Ytdaoekcabfapaaa
set_option maxRecDepth 100000
open Go.RowKit
set_option maxHeartbeats 1000000 in
theorem hasKids_any (k : Int) (w : World) :
    Calls Try.prog 24 #[.int .i64 k] w fun e w' => e = .returned (.bool (kidsB k)) ∧ w' = w := by
  obtain ⟨r, hr⟩ : ∃ r, r = kidsB k := ⟨_, rfl⟩
  rw [← hr]
  have C : ((k == 3) = true ∧ r = true) ∨ ((k == 3) = false ∧ (k == 4) = true ∧ r = true) ∨ ((k == 3) = false ∧ (k == 4) = false ∧ (k == 15) = r) := by
    rw [hr]
    unfold kidsB
    by_cases h3 : k = 3
    · exact .inl ⟨by simp [h3], by simp [h3]⟩
    · by_cases h4 : k = 4
      · exact .inr (.inl ⟨by simp [h3], by simp [h4], by simp [h4]⟩)
      · exact .inr (.inr ⟨by simp [h3], by simp [h4], by rw [Bool.eq_iff_iff]; simp [h3, h4]⟩)
  clear hr
  rcases C with ⟨h1, rfl⟩ | ⟨h1, h2, rfl⟩ | ⟨h1, h2, h3⟩
  rotate_left 2
  · cases r
    all_goals
      go_enter Try.func24, Try.ntmps24
      go_wp2_with fail
      go_ret
      exact ⟨by first | rfl | (simp; done), rfl⟩
  all_goals
    go_enter Try.func24, Try.ntmps24
    go_wp2_with fail
    go_ret
    exact ⟨by first | rfl | (simp; done), rfl⟩
set_option maxHeartbeats 4000000 in
theorem depth_any : ∀ (t : Tree) (cs : List Value) (w : World), cntT t ≤ 1000000 → TreeAt w (· < w.heap.size) t cs →
    Calls Try.prog 21 #[.agg cs.toArray] w fun e w' => e = .returned (.int .i64 ((depT t : Nat) : Int)) ∧ Below w.heap.size w w' := by
  refine Tree.ind ?_
  intro o l ih cs w hc hT
  obtain ⟨Ab, cb, Ak, ck, rfl, hfit, hlen, hbytes, hkids⟩ := hT.open_
  obtain ⟨R, hR⟩ : ∃ R, R = depT (.node o l) := ⟨_, rfl⟩
  rw [← hR]
  rw [depT] at hR
  rw [cntT] at hc
  have B0 : Below w.heap.size w (w.alloc (.cells (cellsV o Ab cb Ak l.length ck).toArray 26)) := (Below.refl _ _).alloc (Nat.le_refl _) _
  have hb : (w.alloc (.cells (cellsV o Ab cb Ak l.length ck).toArray 26)).heap[w.heap.size]? = some (.cells (cellsV o Ab cb Ak l.length ck).toArray 26) := heap_alloc_new w _
  have HK := Lib.hid hkids
  have HI := Lib.hid ih
  have HC := Lib.hid hc
  have HL : Hid (l.length ≤ 1000000) := show _ ≤ _ by have := len_le_cnt l; omega
  have cK := Lib.hid fun w => hasKids_any o.kind w
  clear hc hfit hlen hbytes hkids ih hT
  unfold cellsV at *
  cases hkb : kidsB o.kind with
  | false =>
    rw [hkb] at cK hR
    have HR : Hid (R = 0) := hR
    clear hkb hR HK HI HC HL
    go_enter Try.func21, Try.ntmps21
    go_upto_region 1 with fail
    have HB0 := Lib.hid B0
    have j0 : (w.alloc (.cells #[.int .i64 o.kind, .int .u64 (o.bits : Int), .int .u64 (o.high : Int), .int .u64 (o.low : Int), .string ⟨o.text.toArray⟩, .string ⟨o.more.toArray⟩, .int .i64 o.sub, .slice Ab o.bytes.length cb, .slice Ak l.length ck] 26)).cell? ⟨w.heap.size, 0, none⟩ = some (.int .i64 o.kind) := by rw [block_cell hb]; rfl
    clear B0 hb
    generalize w.alloc (.cells #[.int .i64 o.kind, .int .u64 (o.bits : Int), .int .u64 (o.high : Int), .int .u64 (o.low : Int), .string ⟨o.text.toArray⟩, .string ⟨o.more.toArray⟩, .int .i64 o.sub, .slice Ab o.bytes.length cb, .slice Ak l.length ck] 26) = W at *
    go_wp2_with fail
    refine (cK.out _).mono ?_
    rintro e w5 ⟨rfl, hw⟩; subst w5
    go_wp2_with fail
    go_ret
    exact ⟨by rw [HR.out]; rfl, HB0.out⟩
  | true =>
    rw [hkb, if_pos rfl] at hR
    rw [hkb] at cK
    have HR : Hid (R = depF l + 1) := show _ = _ by rw [hR, depF_all]
    clear hkb hR
    go_enter Try.func21, Try.ntmps21
    go_upto_region 1 with fail
    have HB0 := Lib.hid B0
    have Hb := Lib.hid hb
    have j0 : (w.alloc (.cells #[.int .i64 o.kind, .int .u64 (o.bits : Int), .int .u64 (o.high : Int), .int .u64 (o.low : Int), .string ⟨o.text.toArray⟩, .string ⟨o.more.toArray⟩, .int .i64 o.sub, .slice Ab o.bytes.length cb, .slice Ak l.length ck] 26)).cell? ⟨w.heap.size, 0, none⟩ = some (.int .i64 o.kind) := by rw [block_cell hb]; rfl
    have j8 : (w.alloc (.cells #[.int .i64 o.kind, .int .u64 (o.bits : Int), .int .u64 (o.high : Int), .int .u64 (o.low : Int), .string ⟨o.text.toArray⟩, .string ⟨o.more.toArray⟩, .int .i64 o.sub, .slice Ab o.bytes.length cb, .slice Ak l.length ck] 26)).cell? ⟨w.heap.size, 8, none⟩ = some (.slice Ak l.length ck) := by rw [block_cell hb]; rfl
    clear B0 hb
    generalize w.alloc (.cells #[.int .i64 o.kind, .int .u64 (o.bits : Int), .int .u64 (o.high : Int), .int .u64 (o.low : Int), .string ⟨o.text.toArray⟩, .string ⟨o.more.toArray⟩, .int .i64 o.sub, .slice Ab o.bytes.length cb, .slice Ak l.length ck] 26) = W at *
    go_wp2_with fail
    refine (cK.out _).mono ?_
    rintro e w5 ⟨rfl, hw⟩; subst w5
    clear cK
    go_wp2_with fail
    clear j0 j8
    go_loopw [3, 12] (fun n i wr => (Below w.heap.size w wr ∧ wr.heap[w.heap.size]? = some (.cells #[.int .i64 o.kind, .int .u64 (o.bits : Int), .int .u64 (o.high : Int), .int .u64 (o.low : Int), .string ⟨o.text.toArray⟩, .string ⟨o.more.toArray⟩, .int .i64 o.sub, .slice Ab o.bytes.length cb, .slice Ak l.length ck] 26)) ∧ ∃ k : Nat, k ≤ l.length ∧ i = .int .i64 (k : Int) ∧ n = .int .i64 ((depF (l.take k) : Nat) : Int)) (fun _ i _ => l.length - natV i)
    case atStart => exact ⟨⟨HB0.out, Hb.out⟩, 0, Nat.zero_le _, rfl, rfl⟩
    case round =>
      obtain ⟨⟨hB, hb⟩, k, hk, rfl, rfl⟩ := hrel
      have HB := Lib.hid hB
      have Hbb := Lib.hid hb
      have hl := HL.out
      have j8 : wr.cell? ⟨w.heap.size, 8, none⟩ = some (.slice Ak l.length ck) := by rw [block_cell hb]; rfl
      by_cases hlt : k < l.length
      · have d1 : decide ((k : Int) < (l.length : Int)) = true := decide_eq_true (by omega)
        have d1n : decide (k < l.length) = true := decide_eq_true hlt
        obtain ⟨b, off, rfl, hbl, hK⟩ := HK.out (fun e => by rw [e] at hlt; exact absurd hlt (Nat.not_lt_zero _))
        obtain ⟨c0, c1, c2, c3, c4, c5, c6, c7, c8, hn, hnl, ⟨p0, p1, p2, p3, p4, p5, p6, p7, p8⟩, hT2⟩ := kid_at hK hB hbl k hlt
        have hst := depF_take hlt
        have hkc := cntT_kid hlt
        have hc := HC.out
        have cI := Lib.hid (HI.out l[k] (List.getElem_mem hlt) _ wr (by omega) hT2)
        obtain ⟨v, hv⟩ : ∃ v, v = depT l[k].2 := ⟨_, rfl⟩
        rw [← hv] at cI hst
        obtain ⟨n0, hn0⟩ : ∃ n0, n0 = depF (l.take k) := ⟨_, rfl⟩
        rw [← hn0] at hst ⊢
        have f2 : (k : Int) + 1 = ((k + 1 : Nat) : Int) := by omega
        have b2 : k + 1 ≤ 4000000000000000000 := by omega
        have m1 : (if (n0 : Int) < (v : Int) then (v : Int) else (n0 : Int)) = ((depF (l.take (k + 1)) : Nat) : Int) := by rw [hst]; split <;> omega
        have m2 : max (n0 : Int) (v : Int) = ((depF (l.take (k + 1)) : Nat) : Int) := by rw [hst]; omega
        have HK1 : Hid (k + 1 ≤ l.length) := hlt
        clear hst hkc hc hv hn0 hT2 hK hnl hn hbl hk hl hB hb
        have u2 : Hid (wrap64 ((k : Int) + 1) = ((k + 1 : Nat) : Int)) := w64 f2 b2
        clear f2 b2 hlt
        have m3 : (if n0 < v then (v : Int) else (n0 : Int)) = ((depF (l.take (k + 1)) : Nat) : Int) := by rw [← m1]; split <;> split <;> omega
        obtain ⟨n1, hn1⟩ : ∃ n1, n1 = depF (l.take (k + 1)) := ⟨_, rfl⟩
        rw [← hn1] at m1 m2 m3
        have HN1 := Lib.hid hn1
        clear hn1
        go_wp2_with fail
        refine (cI.out).mono ?_
        rintro e w5 ⟨rfl, B5⟩
        have HB5 := Lib.hid (low17 HB.out B5)
        have Hb5 := Lib.hid ((B5.block _ (block_lt Hbb.out)).trans Hbb.out)
        clear B5 cI p0 p1 p2 p3 p4 p5 p6 p7 p8 j8 Hbb HB
        go_wp2_with fail
        go_roundw
        case rel => exact ⟨⟨HB5.out, Hb5.out⟩, k + 1, HK1.out, by rw [u2.out], by first | rw [HN1.out] | (rw [m3, HN1.out]) | (rw [m1, HN1.out])⟩
        case measure => rw [u2.out]; have := HK1.out; simp [natV]; omega
      · obtain rfl : k = l.length := by omega
        have d1 : decide ((l.length : Int) < (l.length : Int)) = false := decide_eq_false (by omega)
        have d1n : decide (l.length < l.length) = false := decide_eq_false (by omega)
        have hle := depF_le l l.length
        have hc := HC.out
        obtain ⟨n0, hn0⟩ : ∃ n0, n0 = depF (l.take l.length) := ⟨_, rfl⟩
        rw [← hn0] at hle ⊢
        have HE : Hid (wrap64 (1 + (n0 : Int)) = (R : Int)) := show _ = _ from w64 (by have := HR.out; rw [List.take_length] at hn0; omega) (by have := HR.out; rw [List.take_length] at hn0; omega)
        clear hB hb hlt hk hle hc hn0
        go_wp2_with fail
        go_ret
        exact ⟨by rw [HE.out]; rfl, HB.out⟩
end Go.Proofs.Ytdaoekcabfapaaa
