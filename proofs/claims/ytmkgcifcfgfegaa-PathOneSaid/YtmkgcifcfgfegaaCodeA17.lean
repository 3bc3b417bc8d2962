/-
  What the program's hasKids, Count and Depth do (chapter 17), for every tree; no condition but bounds.
-/
import Derived.Test.YtmkgcifcfgfegaaRefA17

namespace Go.Proofs.Ytmkgcifcfgfegaa
set_option maxRecDepth 100000
open Go.RowKit
set_option maxHeartbeats 4000000 in
theorem count_any : ∀ (t : Tree) (cs : List Value) (w : World), cntT t ≤ 1000000 → TreeAt w (· < w.heap.size) t cs →
    Calls Try.prog 26 #[.agg cs.toArray] w fun e w' => e = .returned (.int .i64 ((cntT t : Nat) : Int)) ∧ Below w.heap.size w w' := by
  refine Tree.ind ?_
  intro o l ih cs w hc hT
  obtain ⟨Ab, cb, Ak, ck, rfl, hfit, hlen, hbytes, hkids⟩ := hT.open_
  obtain ⟨R, hR⟩ : ∃ R, R = cntT (.node o l) := ⟨_, rfl⟩
  have hR2 : R = 1 + cntK l := by rw [hR, cntT]
  rw [← hR] at hc ⊢
  have B0 : Below w.heap.size w (w.alloc (.cells (cellsV o Ab cb Ak l.length ck).toArray 26)) := (Below.refl _ _).alloc (Nat.le_refl _) _
  have hb : (w.alloc (.cells (cellsV o Ab cb Ak l.length ck).toArray 26)).heap[w.heap.size]? = some (.cells (cellsV o Ab cb Ak l.length ck).toArray 26) := heap_alloc_new w _
  have HK := Lib.hid hkids
  have HI := Lib.hid ih
  have HR := Lib.hid hR2
  have HC := Lib.hid hc
  have HL : Hid (l.length ≤ 1000000) := show _ ≤ _ by have := len_le_cnt l; omega
  clear hR hR2 hc hfit hlen hbytes hkids ih hT
  unfold cellsV at *
  go_enter Try.func26, Try.ntmps26
  go_wp2_with fail
  have HB0 := Lib.hid B0
  have Hb := Lib.hid hb
  clear B0 hb
  generalize w.alloc (.cells #[.int .i64 o.kind, .int .u64 (o.bits : Int), .int .u64 (o.high : Int), .int .u64 (o.low : Int), .string ⟨o.text.toArray⟩, .string ⟨o.more.toArray⟩, .int .i64 o.sub, .slice Ab o.bytes.length cb, .slice Ak l.length ck] 26) = W at *
  go_loopw [3, 8] (fun n i wr => (Below w.heap.size w wr ∧ wr.heap[w.heap.size]? = some (.cells #[.int .i64 o.kind, .int .u64 (o.bits : Int), .int .u64 (o.high : Int), .int .u64 (o.low : Int), .string ⟨o.text.toArray⟩, .string ⟨o.more.toArray⟩, .int .i64 o.sub, .slice Ab o.bytes.length cb, .slice Ak l.length ck] 26)) ∧ ∃ k : Nat, k ≤ l.length ∧ i = .int .i64 (k : Int) ∧ n = .int .i64 ((1 + cntK (l.take k) : Nat) : Int)) (fun _ i _ => l.length - natV i)
  case atStart => exact ⟨⟨HB0.out, Hb.out⟩, 0, Nat.zero_le _, rfl, rfl⟩
  case round =>
    obtain ⟨⟨hB, hb⟩, k, hk, rfl, rfl⟩ := hrel
    have HB := Lib.hid hB
    have Hbb := Lib.hid hb
    have hl := HL.out
    have j8 : wr.cell? ⟨w.heap.size, 8, none⟩ = some (.slice Ak l.length ck) := by rw [block_cell hb]; rfl
    by_cases hlt : k < l.length
    · have d1 : decide ((k : Int) < (l.length : Int)) = true := decide_eq_true (by omega)
      have d1n : decide (k < l.length) = true := decide_eq_true hlt
      obtain ⟨b, off, rfl, hbl, hK⟩ := HK.out (fun e => by rw [e] at hlt; exact absurd hlt (Nat.not_lt_zero _))
      obtain ⟨c0, c1, c2, c3, c4, c5, c6, c7, c8, hn, hnl, ⟨p0, p1, p2, p3, p4, p5, p6, p7, p8⟩, hT2⟩ := kid_at hK hB hbl k hlt
      have hst := cntK_take hlt
      have hkc := cntT_kid hlt
      have hle := cntK_le (l := l) (k + 1)
      have hr := HR.out
      have hc := HC.out
      have cI := Lib.hid (HI.out l[k] (List.getElem_mem hlt) _ wr (by omega) hT2)
      obtain ⟨v, hv⟩ : ∃ v, v = cntT l[k].2 := ⟨_, rfl⟩
      rw [← hv] at cI hst hkc
      obtain ⟨n0, hn0⟩ : ∃ n0, n0 = 1 + cntK (l.take k) := ⟨_, rfl⟩
      rw [← hn0]
      have f1 : (n0 : Int) + (v : Int) = ((1 + cntK (l.take (k + 1)) : Nat) : Int) := by omega
      have f2 : (k : Int) + 1 = ((k + 1 : Nat) : Int) := by omega
      have b1 : 1 + cntK (l.take (k + 1)) ≤ 4000000000000000000 := by omega
      have b2 : k + 1 ≤ 4000000000000000000 := by omega
      have HK1 : Hid (k + 1 ≤ l.length) := hlt
      clear hst hkc hle hr hc hv hn0 hT2 hK hnl hn hbl hk hl hB hb
      have u1 : Hid (wrap64 ((n0 : Int) + (v : Int)) = ((1 + cntK (l.take (k + 1)) : Nat) : Int)) := w64 f1 b1
      have u2 : Hid (wrap64 ((k : Int) + 1) = ((k + 1 : Nat) : Int)) := w64 f2 b2
      clear f1 f2 b1 b2 hlt
      go_wp2_with fail
      refine (cI.out).mono ?_
      rintro e w5 ⟨rfl, B5⟩
      have HB5 := Lib.hid (low17 HB.out B5)
      have Hb5 := Lib.hid ((B5.block _ (block_lt Hbb.out)).trans Hbb.out)
      clear B5 cI p0 p1 p2 p3 p4 p5 p6 p7 p8 j8 Hbb HB
      go_wp2_with fail
      go_roundw
      case rel => exact ⟨⟨HB5.out, Hb5.out⟩, k + 1, HK1.out, by rw [u2.out], by rw [u1.out]⟩
      case measure => rw [u2.out]; have := HK1.out; simp [natV]; omega
    · obtain rfl : k = l.length := by omega
      have d1 : decide ((l.length : Int) < (l.length : Int)) = false := decide_eq_false (by omega)
      have d1n : decide (l.length < l.length) = false := decide_eq_false (by omega)
      have HE : Hid (R = 1 + cntK (l.take l.length)) := show _ = _ by rw [List.take_length]; exact HR.out
      generalize 1 + cntK (l.take l.length) = n0 at *
      clear hB hb hlt hk
      go_wp2_with fail
      go_ret
      exact ⟨by rw [HE.out]; rfl, HB.out⟩
end Go.Proofs.Ytmkgcifcfgfegaa
