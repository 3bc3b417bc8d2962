/-
  What the small functions of package cur do, one contract each; no condition beyond what each contract asks.
-/
import Derived.Test.YtfmkccimpmjmiaaBase
namespace Go.Proofs.Ytfmkccimpmjmiaa
open Go.RowKit

theorem info_u8 : (Try.prog.info? 5).map (fun i => (i.zero, i.size, i.bytes)) = some (some (.int .u8 0), 1, 1) := by kernel_rfl
theorem size_u8 : (Try.prog.info? 5).map (·.size) = some 1 := by kernel_rfl

theorem splice_all (L cs : List Value) (h : L.length = cs.length) : splice L 0 cs = cs := by simp [splice, ← h]

set_option maxHeartbeats 400000 in
theorem fresh_any (A : Option Addr) (n c : Nat) (bs : List UInt8) (w : World) (M : Nat → Prop) (hh : Held w M A n bs) (hM : ∀ k, M k → k < w.heap.size) (hn : n ≤ 100000000) :
    Calls Try.prog 28 #[.slice A n c] w fun e w' => e = .returned (.slice (some ⟨w.heap.size, 0, none⟩) n n) ∧
      w'.heap[w.heap.size]? = some (.cells (cellsOf bs).toArray 5 (0, 0)) ∧ Below w.heap.size w w' := by
  obtain ⟨i0, hi0, hz0, hz1, hz2⟩ := info_parts info_u8
  have hml : n ≤ maxLen := by simp only [maxLen]; omega
  have hb2 : i0.bytes * n ≤ 281474976710656 := by rw [hz2]; omega
  have HZ := Lib.hid hz0; have HI := Lib.hid hi0; have H1 := Lib.hid hz1; have H2 := Lib.hid hz2
  have HH := Lib.hid hh
  clear hz0 hi0 hz1 hz2 hh
  go_enter Try.func28, Try.ntmps28
  go_wp2_with (first | (at_make; refine wpList_make_full _ rfl _ _ 22 rfl w.heap.size 5 i0 _ 1 Try.underlying22 HI.out HZ.out H1.out _ _ _ _ n rfl rfl rfl rfl hb2 hml (Nat.le_refl _) ?_))
  intro w1 hown1 hgr1
  have hb1 : Below w.heap.size w w1 := (Below.refl _ _).grown hgr1 (Nat.le_refl _) (by intro k hk; cases hk)
  obtain ⟨cur, HG, HL⟩ : ∃ cur : List Value, Hid (w1.heap[w.heap.size]? = some (.cells cur.toArray 5 (0, 0))) ∧ Hid (cur.length = n) := by
    rcases hown1.2 with ⟨h, _⟩ | ⟨g, cap, cur, hv, _, hg, _, _, hs, _⟩
    · cases h
    · injection hv with h1 h2 h3
      injection h1 with h1
      injection h1 with h1
      subst h1
      subst h3
      exact ⟨cur.toList, show _ = _ by simpa using hg, show _ = _ by simpa using hs⟩
  clear hown1 hgr1
  have L1 : Hid ((cellsOf bs).length = Nat.min n n) := show _ = _ by simp [cellsOf_length, HH.out.1]
  have L2 : 0 + (cellsOf bs).length ≤ cur.length := by rw [cellsOf_length, HH.out.1, HL.out]; omega
  have L3 : Hid (0 < (cellsOf bs).length → some (⟨w.heap.size, 0, none⟩ : Addr) = some ⟨w.heap.size, 0, none⟩ ∧ ∃ ad, A = some ad ∧ ∀ j v, (cellsOf bs)[j]? = some v → w1.cell? (ad.add j) = some v) := by
    intro h0
    refine ⟨rfl, ?_⟩
    rw [cellsOf_length] at h0
    obtain ⟨ad, e, hc⟩ := HH.out.cellsAt (by have := HH.out.1; omega)
    refine ⟨ad, e, fun j v hj => ?_⟩
    obtain ⟨b, o, e', hm, _⟩ := HH.out.2 (by have := HH.out.1; omega)
    have hblk : (ad.add j).block = b := by
      rw [e] at e'
      injection e' with e'
      rw [e', Addr.add_lit]
    exact (hb1.cell (by rw [hblk]; exact hM b hm)).trans (hc j v hj)
  go_wp2_with (with_reducible refine wpList_copy_splice rfl (.tmp 7) (.tmp 8) 22 22 rfl 5 Try.underlying22 size_u8 _ _ _ _ _ _ rfl rfl w.heap.size 0 cur 5 HG.out (cellsOf bs) L1.out L3.out L2 (cellsOf_one bs) w.heap.size w hb1 (Nat.le_refl _) ?_)
  intro w2 HG2 hb2
  rw [splice_all _ _ (by rw [HL.out, cellsOf_length, HH.out.1])] at HG2
  go_wp2
  go_ret
  exact ⟨rfl, HG2.out, hb2⟩

/-- A Reader: its struct lies in block q, its bytes in block g; it has gone past k of them. -/
def Rd (w : World) (q g : Nat) (bs : List UInt8) (k : Nat) : Prop :=
  w.heap[q]? = some (.cells #[.slice (some ⟨g, 0, none⟩) bs.length bs.length, .int .i64 (k : Int)] 58 (0, 0)) ∧ w.heap[g]? = some (.cells (cellsOf bs).toArray 5 (0, 0)) ∧ k ≤ bs.length ∧ bs.length ≤ 100000000
def NewPost (bs : List UInt8) (w : World) (e : Ending) (w' : World) : Prop :=
  ∃ q g, e = .returned (.pointer (some ⟨q, 0, none⟩)) ∧ Rd w' q g bs 0 ∧ Below w.heap.size w w' ∧ w.heap.size ≤ q ∧ w.heap.size ≤ g

set_option maxHeartbeats 400000 in
theorem new_any (A : Option Addr) (n c : Nat) (bs : List UInt8) (w : World) (M : Nat → Prop) (hh : Held w M A n bs) (hM : ∀ k, M k → k < w.heap.size) (hn : n ≤ 100000000) :
    Calls Try.prog 9 #[.slice A n c] w (NewPost bs w) := by
  have HH := Lib.hid hh
  clear hh
  go_enter Try.func9, Try.ntmps9
  go_wp2_with fail
  refine (fresh_any A n c bs w M HH.out hM hn).mono ?_
  rintro e w1 ⟨rfl, hg, hb⟩
  have HG := Lib.hid hg
  clear hg
  go_wp2_with fail
  go_ret
  have hlen := HH.out.1
  subst hlen
  have hlt := block_lt HG.out
  refine ⟨w1.heap.size, w.heap.size, rfl, ⟨heap_alloc_new _ _, (Below.heap_alloc _ _ _ hlt).trans HG.out, Nat.zero_le _, hn⟩, hb.alloc (Nat.le_of_lt hlt) _, Nat.le_of_lt hlt, Nat.le_refl _⟩

section
variable {w w' : World} {q g : Nat} {bs : List UInt8} {k : Nat}
theorem Rd.keep (h : Rd w q g bs k) (hq : w'.heap[q]? = w.heap[q]?) (hg : w'.heap[g]? = w.heap[g]?) : Rd w' q g bs k := ⟨hq.trans h.1, hg.trans h.2.1, h.2.2⟩
theorem Rd.ne (h : Rd w q g bs k) : q ≠ g := by
  rintro rfl
  have h2 := h.2.1
  rw [h.1] at h2
  injection h2 with h2
  injection h2 with _ ht
  exact absurd ht (by decide)
theorem Rd.cell0 (h : Rd w q g bs k) : w.cell? ⟨q, 0, none⟩ = some (.slice (some ⟨g, 0, none⟩) bs.length bs.length) := by rw [block_cell h.1]; rfl
theorem Rd.cell1 (h : Rd w q g bs k) : w.cell? ⟨q, 1, none⟩ = some (.int .i64 (k : Int)) := by rw [block_cell h.1]; rfl
theorem Rd.set (h : Rd w q g bs k) {k' : Nat} (hk : k' ≤ bs.length) : Rd (w.setCell ⟨q, 1, none⟩ (.int .i64 (k' : Int))) q g bs k' := by
  refine ⟨?_, ?_, hk, h.2.2.2⟩
  · rw [block_set h.1]; rfl
  · exact (Below.heap_setCell _ _ _ _ (fun e => h.ne e.symm)).trans h.2.1
theorem Rd.lt_q (h : Rd w q g bs k) : q < w.heap.size := block_lt h.1
theorem Rd.lt_g (h : Rd w q g bs k) : g < w.heap.size := block_lt h.2.1
end

set_option maxHeartbeats 400000 in
theorem left_any (q g : Nat) (bs : List UInt8) (k : Nat) (w : World) (h : Rd w q g bs k) :
    Calls Try.prog 17 #[.pointer (some ⟨q, 0, none⟩)] w fun e w' => e = .returned (.int .i64 ((bs.length : Int) - (k : Int))) ∧ ∃ n, w' = w.drewN n := by
  have h0 := h.cell0
  have h1 := h.cell1
  have hk := h.2.2.1
  have hl := h.2.2.2
  have H := Lib.hid h
  clear h
  go_enter Try.func17, Try.ntmps17
  go_wp2_with fail
  go_quiet (fail)
  go_wp2_with fail
  go_ret
  exact ⟨rfl, _, rfl⟩

set_option maxHeartbeats 400000 in
theorem at_any (q g : Nat) (bs : List UInt8) (k : Nat) (w : World) (h : Rd w q g bs k) :
    Calls Try.prog 16 #[.pointer (some ⟨q, 0, none⟩)] w fun e w' => e = .returned (.int .i64 (k : Int)) ∧ w = w' := by
  have h1 := h.cell1
  clear h
  go_enter Try.func16, Try.ntmps16
  go_wp2_with fail
  go_ret
  exact ⟨rfl, rfl⟩

def NoPost (v : Value) (w : World) (e : Ending) (w' : World) : Prop := e = .returned (.tuple #[v, .bool false]) ∧ ∃ m, w' = w.drewN m

set_option maxHeartbeats 400000 in
theorem pass_no (q g : Nat) (bs : List UInt8) (k : Nat) (n : Int) (w : World) (h : Rd w q g bs k) (hn : n < 0 ∨ (bs.length : Int) - (k : Int) < n) :
    Calls Try.prog 29 #[.pointer (some ⟨q, 0, none⟩), .int .i64 n] w (NoPost (.slice none 0 0) w) := by
  have H := Lib.hid h
  clear h
  by_cases hneg : n < 0
  · clear hn
    go_enter Try.func29, Try.ntmps29
    go_wp2_with fail
    go_ret2
    exact ⟨rfl, 0, rfl⟩
  · have hgt : (bs.length : Int) - (k : Int) < n := by omega
    clear hn
    have hd : decide (n < 0) = false := by simpa using hneg
    go_enter Try.func29, Try.ntmps29
    go_wp2_with fail
    refine (left_any q g bs k _ H.out).mono ?_
    rintro e w1 ⟨rfl, m, rfl⟩
    go_wp2_with fail
    go_ret2
    exact ⟨rfl, _, rfl⟩

end Go.Proofs.Ytfmkccimpmjmiaa
