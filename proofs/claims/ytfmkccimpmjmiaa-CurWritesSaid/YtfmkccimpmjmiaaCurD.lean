/-
  What the Writer's calls of package cur do, one contract each; no condition beyond what each contract asks.
-/
import Derived.Test.YtfmkccimpmjmiaaCurB
import Derived.Test.YtfmkccimpmjmiaaNum
import Derived.Deep.RegionHeld3
import Derived.Deep.DrawnRows
namespace Go.Proofs.Ytfmkccimpmjmiaa
open Go.RowKit
attribute [local go_sem ↓] Go.wp_at_zero Go.wp_at_succ

/-- A Writer: its struct lies in block q and holds the slice v, a row of its own (in a block from base on) with the bytes bs. -/
def Wr (w : World) (base q : Nat) (v : Value) (bs : List UInt8) : Prop :=
  w.heap[q]? = some (.cells #[v] 60 (0, 0)) ∧ w.ownsRow base 5 1 v bs.length (cellsOf bs) ∧ bs.length ≤ 100000000 ∧ base ≤ w.heap.size
/-- The blocks that a Writer may write to. -/
def WrS (q : Nat) (v : Value) (k : Nat) : Prop := k = q ∨ v.ownBlock = some k
def WrPost (base q : Nat) (v : Value) (bs : List UInt8) (w : World) (e : Ending) (w' : World) : Prop :=
  e = .returned (.tuple #[]) ∧ ∃ v', Wr w' base q v' bs ∧ Kept (WrS q v) w w' ∧ (v'.ownBlock = v.ownBlock ∨ ∃ k, v'.ownBlock = some k ∧ w.heap.size ≤ k)

section
variable {w w' : World} {base q : Nat} {v : Value} {bs : List UInt8}
theorem Wr.cell0 (h : Wr w base q v bs) : w.cell? ⟨q, 0, none⟩ = some v := by rw [block_cell h.1]; rfl
theorem Wr.lt_q (h : Wr w base q v bs) : q < w.heap.size := block_lt h.1
theorem Wr.ne (h : Wr w base q v bs) : v.ownBlock ≠ some q := by
  rcases h.2.1.2 with ⟨rfl, _⟩ | ⟨g, cap, cur, rfl, _, hg, _⟩
  · simp [Value.ownBlock]
  · intro e
    simp only [Value.ownBlock, Option.some.injEq] at e
    subst e
    rw [h.1] at hg
    injection hg with hg
    injection hg with _ ht
    exact absurd ht (by decide)
theorem Wr.lt_g (h : Wr w base q v bs) {k : Nat} (e : v.ownBlock = some k) : k < w.heap.size := (h.2.1.lt k e).2
theorem Wr.keep (h : Wr w base q v bs) (hk : w.heap.size ≤ w'.heap.size) (hq : w'.heap[q]? = w.heap[q]?) (hg : ∀ k, v.ownBlock = some k → w'.heap[k]? = w.heap[k]?) : Wr w' base q v bs := by
  refine ⟨hq.trans h.1, ⟨h.2.1.1, ?_⟩, h.2.2.1, Nat.le_trans h.2.2.2 hk⟩
  rcases h.2.1.2 with h2 | ⟨g, cap, cur, rfl, hb, hh, r⟩
  · exact .inl h2
  · exact .inr ⟨g, cap, cur, rfl, hb, (hg g rfl).trans hh, r⟩
theorem Wr.form (h : Wr w base q v bs) : ∃ A c, v = .slice A bs.length c ∧ Held w (fun k => v.ownBlock = some k) A bs.length bs := by
  rcases h.2.1.2 with ⟨rfl, hn⟩ | ⟨g, cap, cur, rfl, _, hg, hnc, _, hcs, ht⟩
  · rw [hn]
    exact ⟨none, 0, rfl, Held.nothing (List.eq_nil_of_length_eq_zero hn)⟩
  · refine ⟨_, _, rfl, Held.of_block hg (fun i hi => ?_) rfl rfl⟩
    have h1 := cellsOf_get bs i hi
    rw [← ht, List.getElem?_take_of_lt (by omega)] at h1
    simpa using h1
end

/-- What the last store of Raw, Byte leaves. -/
theorem Wr.stored {w w1 : World} {base q : Nat} {v : Value} {bs ys : List UInt8} {A1 : Option Addr} {n1 c1 : Nat} {cs : List Value} (h : Wr w base q v bs) (hq1 : w1.heap[q]? = some (.cells #[v] 60 (0, 0)))
    (ho : w1.ownsRow base 5 1 (.slice A1 n1 c1) n1 cs) (hg : w.grownBy w1 v.ownBlock) (ha : (Value.slice A1 n1 c1).ownBlock = v.ownBlock ∨ (Value.slice A1 n1 c1).ownBlock = some w.heap.size)
    (hn : n1 = ys.length) (hcs : cs = cellsOf ys) (hl : ys.length ≤ 100000000) :
    ∃ v', Wr (w1.setCell ⟨q, 0, none⟩ (.slice A1 n1 c1)) base q v' ys ∧ Kept (WrS q v) w (w1.setCell ⟨q, 0, none⟩ (.slice A1 n1 c1)) ∧ (v'.ownBlock = v.ownBlock ∨ ∃ k, v'.ownBlock = some k ∧ w.heap.size ≤ k) := by
  subst hn
  subst hcs
  have hb := block_set hq1 0 (.slice A1 ys.length c1)
  have hne : (Value.slice A1 ys.length c1).ownBlock ≠ some q := by
    rcases ha with e | e
    · rw [e]; exact h.ne
    · rw [e]; intro e'; injection e' with e'; have := h.lt_q; omega
  refine ⟨.slice A1 ys.length c1, ⟨hb, ?_, hl, by simpa [World.setCell] using Nat.le_trans h.2.2.2 hg.size⟩, (Kept.of_grown hg (fun k e => .inr e)).setCell (p := ⟨q, 0, none⟩) (fun _ => .inl rfl) _, ?_⟩
  · refine ⟨ho.1, ?_⟩
    rcases ho.2 with h2 | ⟨g, cap, cur, e, hbg, hh, r⟩
    · exact .inl h2
    · refine .inr ⟨g, cap, cur, e, hbg, (Below.heap_setCell _ _ _ _ ?_).trans hh, r⟩
      rintro rfl
      exact hne (by rw [e]; rfl)
  · rcases ha with e | e
    · exact .inl e
    · exact .inr ⟨_, e, Nat.le_refl _⟩

theorem lay_any (w : World) : Calls Try.prog 18 #[] w fun e w' => e = .returned (.pointer (some ⟨w.heap.size, 0, none⟩)) ∧ w.alloc (.cells #[.slice none 0 0] 60) = w' := by
  go_enter Try.func18, Try.ntmps18
  go_wp2_with fail
  go_ret
  exact ⟨rfl, rfl⟩
theorem Wr.start (w : World) (base : Nat) (hb : base ≤ w.heap.size) : Wr (w.alloc (.cells #[.slice none 0 0] 60)) base w.heap.size (.slice none 0 0) [] :=
  ⟨heap_alloc_new w _, World.ownsRow_nil _ _ _ _, Nat.zero_le _, by simp; omega⟩

set_option maxHeartbeats 400000 in
theorem raw_any (base q : Nat) (v : Value) (bs : List UInt8) (A : Option Addr) (n c : Nat) (xs : List UInt8) (w : World) (M : Nat → Prop) (h : Wr w base q v bs) (hh : Held w M A n xs) (hn : bs.length + n ≤ 100000000) :
    Calls Try.prog 20 #[.pointer (some ⟨q, 0, none⟩), .slice A n c] w (WrPost base q v (bs ++ xs) w) := by
  obtain ⟨i0, hi0, hz0, hz1, hz2⟩ := info_parts info_u8
  have h0 := h.cell0
  have H := Lib.hid h
  have HH := Lib.hid hh
  have HZ := Lib.hid hz0; have HI := Lib.hid hi0; have H1 := Lib.hid hz1; have H2 := Lib.hid hz2
  clear h hh hz0 hi0 hz1 hz2
  have L1 : Hid ((cellsOf xs).length = n) := show _ = _ by rw [cellsOf_length, HH.out.1]
  have L2 : bs.length + n ≤ maxLen := by simp only [maxLen]; omega
  have L3 : (bs.length + n) * 1 ≤ 140737488355328 := by omega
  go_enter Try.func20, Try.ntmps20
  go_wp2_with (first | (at_builtin; refine wpList_append_held _ rfl (.tmp 8) (.tmp 9) 22 rfl base 5 i0 _ 1 Try.underlying22 HI.out HZ.out H1.out H2.out rfl v bs.length (cellsOf bs) rfl H.out.2.1 A n c (cellsOf xs) rfl L1.out HH.out.cellsAt (cellsOf_one xs) L2 L3 H.out.2.2.2 ?_))
  intro A1 c1 w1 ho1 hg1 ha1
  have hq1 : w1.heap[q]? = some (.cells #[v] 60 (0, 0)) := (hg1.block q H.out.lt_q (fun e => H.out.ne e.symm)).trans H.out.1
  have d1 : w1.cell? ⟨q, 0, none⟩ = some v := by rw [block_cell hq1]; rfl
  have f1 := block_frozen hq1 0
  have HQ1 := Lib.hid hq1
  clear hq1
  go_wp2_with fail
  go_end0
  exact ⟨rfl, Wr.stored H.out HQ1.out ho1.out hg1 ha1.out (by simp [HH.out.1]) (by rw [cellsOf_append]) (by simp [HH.out.1]; omega)⟩

theorem Wr.alloc {w : World} {base q : Nat} {v : Value} {bs : List UInt8} (h : Wr w base q v bs) (o : Obj) : Wr (w.alloc o) base q v bs :=
  h.keep (by simp) (Below.heap_alloc _ _ _ h.lt_q) (fun _ e => Below.heap_alloc _ _ _ (h.lt_g e))
theorem WrPost.step {base q : Nat} {v : Value} {bs : List UInt8} {w wa : World} {e : Ending} {w' : World} (hk : Kept (WrS q v) w wa) (h : WrPost base q v bs wa e w') : WrPost base q v bs w e w' := by
  obtain ⟨he, v', hw, hk', ha⟩ := h
  refine ⟨he, v', hw, hk.trans hk' (fun _ _ h => h), ?_⟩
  rcases ha with ha | ⟨k, e1, e2⟩
  · exact .inl ha
  · exact .inr ⟨k, e1, Nat.le_trans hk.size e2⟩

set_option maxHeartbeats 400000 in
theorem wbyte_any (base q : Nat) (v : Value) (bs : List UInt8) (n : Int) (w : World) (h : Wr w base q v bs) (hn : bs.length + 1 ≤ 100000000) :
    Calls Try.prog 19 #[.pointer (some ⟨q, 0, none⟩), .int .i64 n] w (WrPost base q v (bs ++ [byteInt n]) w) := by
  obtain ⟨i0, hi0, hz0, hz1, hz2⟩ := info_parts info_u8
  have h0 := h.cell0
  have HA := Lib.hid (h.alloc (.cells #[.int .u8 (IntKind.u8.wrap n)] 5))
  have H := Lib.hid h
  have HZ := Lib.hid hz0; have HI := Lib.hid hi0; have H1 := Lib.hid hz1; have H2 := Lib.hid hz2
  clear h hz0 hi0 hz1 hz2
  have L2 : bs.length + 1 ≤ maxLen := by simp only [maxLen]; omega
  have L3 : (bs.length + 1) * 1 ≤ 140737488355328 := by omega
  go_enter Try.func19, Try.ntmps19
  go_wp2_with (first | (at_builtin; refine wpList_append_held _ rfl (.tmp 8) (.tmp 11) 22 rfl base 5 i0 _ 1 Try.underlying22 HI.out HZ.out H1.out H2.out rfl v bs.length (cellsOf bs) rfl HA.out.2.1 (some ⟨w.heap.size, 0, none⟩) 1 1 [.int .u8 (IntKind.u8.wrap n)] rfl rfl (fun _ => ⟨_, rfl, cell_one_new _ _ _⟩) (by simp [Value.oneCell']) L2 L3 HA.out.2.2.2 ?_))
  intro A1 c1 w1 ho1 hg1 ha1
  have hq1 : w1.heap[q]? = some (.cells #[v] 60 (0, 0)) := (hg1.block q HA.out.lt_q (fun e => HA.out.ne e.symm)).trans HA.out.1
  have d1 : w1.cell? ⟨q, 0, none⟩ = some v := by rw [block_cell hq1]; rfl
  have f1 := block_frozen hq1 0
  have HQ1 := Lib.hid hq1
  clear hq1
  go_wp2_with fail
  go_end0
  refine WrPost.step ((Kept.refl _ w).alloc (.cells #[.int .u8 (IntKind.u8.wrap n)] 5)) ⟨rfl, Wr.stored HA.out HQ1.out ho1.out hg1 (by simpa using ha1.out) (by simp) ?_ (by simpa using hn)⟩
  rw [cellsOf_append]
  simp [cellsOf, wrap_byteInt]

theorem len_any (base q : Nat) (v : Value) (bs : List UInt8) (w : World) (h : Wr w base q v bs) :
    Calls Try.prog 26 #[.pointer (some ⟨q, 0, none⟩)] w fun e w' => e = .returned (.int .i64 (bs.length : Int)) ∧ w = w' := by
  obtain ⟨A, c, rfl, _⟩ := h.form
  have h0 := h.cell0
  clear h
  go_enter Try.func26, Try.ntmps26
  go_wp2_with fail
  go_ret
  exact ⟨rfl, rfl⟩

set_option maxHeartbeats 400000 in
theorem bytes_any (base q : Nat) (v : Value) (bs : List UInt8) (w : World) (h : Wr w base q v bs) :
    Calls Try.prog 27 #[.pointer (some ⟨q, 0, none⟩)] w fun e w' => e = .returned (.slice (some ⟨w.heap.size, 0, none⟩) bs.length bs.length) ∧
      w'.heap[w.heap.size]? = some (.cells (cellsOf bs).toArray 5 (0, 0)) ∧ Below w.heap.size w w' := by
  obtain ⟨A, c, rfl, hh⟩ := h.form
  have h0 := h.cell0
  have H := Lib.hid h
  have HH := Lib.hid hh
  clear h hh
  go_enter Try.func27, Try.ntmps27
  go_wp2_with fail
  refine (fresh_any A bs.length c bs w _ HH.out (fun k e => H.out.lt_g e) H.out.2.2.1).mono ?_
  rintro e w1 ⟨rfl, hg, hb⟩
  have HG := Lib.hid hg
  clear hg
  go_wp2_with fail
  go_ret
  exact ⟨rfl, HG.out, hb⟩

theorem byteOf_any (v j : Nat) (w : World) (_hv : v < 18446744073709551616) (hj : j < 8) :
    Calls Try.prog 32 #[.int .u64 (v : Int), .int .i64 (j : Int)] w fun e w' => e = .returned (.int .u8 ((byteAt v j).toNat : Int)) ∧ w = w' := by
  go_enter Try.func32, Try.ntmps32
  go_wp2_with fail
  go_ret
  exact ⟨ret_num (byteAt_int v j), rfl⟩

/-- Where the row of a Writer lies behind a call: where it lay, or in a new block. -/
def Near (w : World) (v v' : Value) : Prop := v'.ownBlock = v.ownBlock ∨ ∃ k, v'.ownBlock = some k ∧ w.heap.size ≤ k
theorem WrS.back {w : World} {q : Nat} {v v' : Value} (h : Near w v v') {k : Nat} (hk : k < w.heap.size) (hs : WrS q v' k) : WrS q v k := by
  rcases hs with rfl | e
  · exact .inl rfl
  · rcases h with h | ⟨m, e1, e2⟩
    · exact .inr (by rw [← h]; exact e)
    · rw [e1] at e
      injection e with e
      omega
theorem Near.trans {w w' : World} {v v' v'' : Value} (h : Near w v v') (h' : Near w' v' v'') (hs : w.heap.size ≤ w'.heap.size) : Near w v v'' := by
  rcases h' with h' | ⟨k, e1, e2⟩
  · rcases h with h | ⟨k, e1, e2⟩
    · exact .inl (h'.trans h)
    · exact .inr ⟨k, h'.trans e1, e2⟩
  · exact .inr ⟨k, e1, Nat.le_trans hs e2⟩

/-- How a Writer stands behind some steps that began at w with the row v. -/
def WrTo (base q : Nat) (v : Value) (w : World) (bs : List UInt8) (w' : World) : Prop := ∃ v', Wr w' base q v' bs ∧ Kept (WrS q v) w w' ∧ Near w v v'
theorem WrTo.start {base q : Nat} {v : Value} {w : World} {bs : List UInt8} (h : Wr w base q v bs) : WrTo base q v w bs w := ⟨v, h, Kept.refl _ _, .inl rfl⟩
theorem WrTo.next {base q : Nat} {v v' : Value} {w w' w'' : World} {bs : List UInt8} (hk : Kept (WrS q v) w w') (hn : Near w v v') (h : WrTo base q v' w' bs w'') : WrTo base q v w bs w'' := by
  obtain ⟨v'', hw, hk', hn'⟩ := h
  exact ⟨v'', hw, hk.trans hk' (fun k hlt hs => hs.back hn hlt), hn.trans hn' hk.size⟩

theorem keep_alloc {w : World} {q i : Nat} {v : Value} (o : Obj) (hq : q < w.heap.size) (hc : w.cell? ⟨q, i, none⟩ = some v) (hf : w.frozen? ⟨q, i, none⟩ = false) :
    (w.alloc o).drew.cell? ⟨q, i, none⟩ = some v ∧ (w.alloc o).drew.frozen? ⟨q, i, none⟩ = false :=
  ⟨(World.cell?_of_block (a := ⟨q, i, none⟩) (Below.heap_alloc w o q hq)).trans hc, (World.frozen?_of_block (a := ⟨q, i, none⟩) (Below.heap_alloc w o q hq)).trans hf⟩

/-- One byte more, as the region of Low's and High's round lays it. -/
theorem WrTo.laid {wr w1 : World} {base q : Nat} {v1 : Value} {bs : List UInt8} {y gg cap m : Nat} {b : UInt8} (h : Wr wr base q v1 bs) (hm : m = bs.length)
    (hown : w1.ownsRow base 5 1 (.slice (some ⟨gg, 0, none⟩) (m + 1) cap) (m + 1) (cellsOf bs ++ [.int .u8 (y : Int)])) (hgrow : (wr.alloc (.cells #[.int .u8 (y : Int)] 5)).drew.grownBy w1 v1.ownBlock)
    (hat : v1.ownBlock = some gg ∨ gg = wr.heap.size + 1) (hy : y = b.toNat) (hl : bs.length + 1 ≤ 100000000) :
    WrTo base q v1 wr (bs ++ [b]) (w1.setCell ⟨q, 0, none⟩ (.slice (some ⟨gg, 0, none⟩) (m + 1) cap)) := by
  have hA : Wr (wr.alloc (.cells #[.int .u8 (y : Int)] 5)).drew base q v1 bs := h.alloc _
  have hs : (wr.alloc (.cells #[.int .u8 (y : Int)] 5)).drew.heap.size = wr.heap.size + 1 := by simp
  have hq1 : w1.heap[q]? = some (.cells #[v1] 60 (0, 0)) := (hgrow.block q hA.lt_q (fun e => hA.ne e.symm)).trans hA.1
  have hat' : (Value.slice (some ⟨gg, 0, none⟩) (m + 1) cap).ownBlock = v1.ownBlock ∨ (Value.slice (some ⟨gg, 0, none⟩) (m + 1) cap).ownBlock = some (wr.alloc (.cells #[.int .u8 (y : Int)] 5)).drew.heap.size := by
    rw [hs]
    rcases hat with e | e
    · exact .inl e.symm
    · exact .inr (by rw [e]; rfl)
  have hst := Wr.stored (ys := bs ++ [b]) hA hq1 hown hgrow hat' (by simp [hm]) (by rw [cellsOf_append, hy]; rfl) (by simpa using hl)
  obtain ⟨v', hw, hk, hn⟩ := hst
  refine ⟨v', hw, (((Kept.refl (WrS q v1) wr).alloc _).drew).trans hk (fun _ _ h => h), ?_⟩
  rcases hn with hn | ⟨k, e1, e2⟩
  · exact .inl hn
  · exact .inr ⟨k, e1, by rw [hs] at e2; omega⟩

def LowRel (base q : Nat) (v : Value) (bs : List UInt8) (x n : Nat) (w : World) (i : Value) (wr : World) : Prop :=
  ∃ j : Nat, j ≤ n ∧ i = .int .i64 (j : Int) ∧ WrTo base q v w (bs ++ leBytes x j) wr

set_option maxHeartbeats 1000000 in
theorem wlow_ok (base q : Nat) (v : Value) (bs : List UInt8) (x n : Nat) (w : World) (h : Wr w base q v bs) (hx : x < 18446744073709551616) (h1 : 1 ≤ n) (h8 : n ≤ 8) (hn : bs.length + n ≤ 100000000) :
    Calls Try.prog 21 #[.pointer (some ⟨q, 0, none⟩), .int .u64 (x : Int), .int .i64 (n : Int)] w fun e w' => e = .returned (.tuple #[]) ∧ WrTo base q v w (bs ++ leBytes x n) w' := by
  obtain ⟨i0, hi0, hz0, hz1, hz2⟩ := info_parts info_u8
  have H := Lib.hid h
  have HZ := Lib.hid hz0; have HI := Lib.hid hi0; have H1 := Lib.hid hz1; have H2 := Lib.hid hz2
  clear h hz0 hi0 hz1 hz2
  go_enter Try.func21, Try.ntmps21
  go_wp2_with fail
  refine (isWidth_yes n _ (by omega) (by omega)).mono ?_
  rintro e w1 ⟨rfl, rfl⟩
  go_wp2_with fail
  go_loopw [11] (fun i wr => LowRel base q v bs x n w i wr) (fun i _ => n - (intOf i).toNat)
  case atStart => exact ⟨0, Nat.zero_le _, rfl, by simpa [leBytes] using WrTo.start H.out⟩
  case round =>
    obtain ⟨j, hj, rfl, v1, hw1, hk1, hn1⟩ := hrel
    have HW1 := Lib.hid hw1
    by_cases hlt : j < n
    · have c0 := hw1.cell0
      have f0 := block_frozen hw1.1 0
      clear hw1
      have hlen : (bs ++ leBytes x j).length = bs.length + j := by rw [List.length_append, leBytes_length]
      have HLen := Lib.hid hlen
      obtain ⟨m, hm⟩ : ∃ m, m = (bs ++ leBytes x j).length := ⟨_, rfl⟩
      have hmb : m + 1 ≤ 100000000 := by omega
      have HM := Lib.hid hm
      have HO : Hid (wr.ownsRow base 5 1 v1 m (cellsOf (bs ++ leBytes x j))) := by rw [hm]; exact HW1.out.2.1
      clear hm hlen
      obtain ⟨y, hy⟩ : ∃ y, y = (byteAt x j).toNat := ⟨_, rfl⟩
      have HY := Lib.hid hy
      clear hy
      have hbo : ∀ wz : World, Hid (Calls Try.prog 32 #[.int .u64 (x : Int), .int .i64 (j : Int)] wz fun e w' => e = .returned (.int .u8 (y : Int)) ∧ wz = w') := by
        intro wz
        rw [HY.out]
        exact byteOf_any x j wz hx (by omega)
      have HB := Lib.hid hbo
      clear hbo
      have L2 : m + 1 ≤ maxLen := by simp only [maxLen]; omega
      have L3 : (m + 1) * 1 ≤ 140737488355328 := by omega
      have hlq := HW1.out.lt_q
      have hbase := HW1.out.2.2.2
      have hne := Lib.hid HW1.out.ne
      have hnew := World.new_ne wr ⟨q, 0, none⟩ c0
      go_wp2_with fail
      go_region_law
        (first
          | (refine step_append_lies _ (by rfl) _ _ _ (by rfl) base 5 i0 _ 1 1 Try.underlying22 HI.out HZ.out H1.out H2.out rfl (by omega) v1 m _ (by rfl) ((HO.out.alloc _).drew)
              ⟨wr.heap.size, 0, none⟩ 1 1 [.int .u8 (y : Int)] (by rfl) (by rfl) (World.news_of_block (cs := #[.int .u8 (y : Int)]) (t := 5) (fr := (0, 0)) (heap_alloc_new wr _)) (by simp [Value.oneCell'])
              (by omega) L2 L3 (by simp; omega) (wr.heap.size + 1) (by simp) ?_; intro gg cap w1 hown1 hgrow hat hlt; have f1 := hgrow.frozen_far ⟨q, 0, none⟩ (by simp; omega) (Ne.symm hne.out); have c1 := hgrow.cell_far ⟨q, 0, none⟩ (by simp; omega) (Ne.symm hne.out); rw [(keep_alloc _ hlq c0 f0).1] at c1; rw [(keep_alloc _ hlq c0 f0).2] at f1)
          | (go_simp; go_at_call 32; refine ((HB.out _).out).mono ?_; rintro e w' ⟨rfl, rfl⟩))
      all_goals
        have hto := WrTo.next hk1 hn1 (WrTo.laid HW1.out HM.out hown1 hgrow hat HY.out (by rw [← HM.out]; exact hmb))
        rw [List.append_assoc] at hto
        have HTO := Lib.hid hto
        clear hto hown1 hgrow hat c1 f1
        generalize w1.setCell ⟨q, 0, none⟩ (.slice (some ⟨gg, 0, none⟩) (m + 1) cap) = w2 at HTO ⊢
        go_wp2_with fail
        go_roundw
        case rel => exact ⟨j + 1, by omega, by go_num, HTO.out⟩
        case measure => simp [intOf]; omega
    · have hjn : j = n := by omega
      clear hw1 hlt
      have hfin : WrTo base q v w (bs ++ leBytes x n) wr := by rw [← hjn]; exact ⟨v1, HW1.out, hk1, hn1⟩
      have HF := Lib.hid hfin
      have hnot : ¬ j < n := by omega
      clear hfin hjn
      go_wp2_with fail
      go_end0
      exact ⟨rfl, HF.out⟩

def HighRel (base q : Nat) (v : Value) (bs : List UInt8) (x n : Nat) (w : World) (i : Value) (wr : World) : Prop :=
  ∃ j : Nat, j ≤ n ∧ i = .int .i64 (j : Int) ∧ WrTo base q v w (bs ++ beTo x n j) wr

set_option maxHeartbeats 1000000 in
theorem whigh_ok (base q : Nat) (v : Value) (bs : List UInt8) (x n : Nat) (w : World) (h : Wr w base q v bs) (hx : x < 18446744073709551616) (h1 : 1 ≤ n) (h8 : n ≤ 8) (hn : bs.length + n ≤ 100000000) :
    Calls Try.prog 23 #[.pointer (some ⟨q, 0, none⟩), .int .u64 (x : Int), .int .i64 (n : Int)] w fun e w' => e = .returned (.tuple #[]) ∧ WrTo base q v w (bs ++ beTo x n n) w' := by
  obtain ⟨i0, hi0, hz0, hz1, hz2⟩ := info_parts info_u8
  have H := Lib.hid h
  have HZ := Lib.hid hz0; have HI := Lib.hid hi0; have H1 := Lib.hid hz1; have H2 := Lib.hid hz2
  clear h hz0 hi0 hz1 hz2
  go_enter Try.func23, Try.ntmps23
  go_wp2_with fail
  refine (isWidth_yes n _ (by omega) (by omega)).mono ?_
  rintro e w1 ⟨rfl, rfl⟩
  go_wp2_with fail
  go_loopw [11] (fun i wr => HighRel base q v bs x n w i wr) (fun i _ => n - (intOf i).toNat)
  case atStart => exact ⟨0, Nat.zero_le _, rfl, by simpa [beTo] using WrTo.start H.out⟩
  case round =>
    obtain ⟨j, hj, rfl, v1, hw1, hk1, hn1⟩ := hrel
    have HW1 := Lib.hid hw1
    by_cases hlt : j < n
    · have c0 := hw1.cell0
      have f0 := block_frozen hw1.1 0
      clear hw1
      have hlen : (bs ++ beTo x n j).length = bs.length + j := by rw [List.length_append, beTo_length]
      have HLen := Lib.hid hlen
      obtain ⟨m, hm⟩ : ∃ m, m = (bs ++ beTo x n j).length := ⟨_, rfl⟩
      have hmb : m + 1 ≤ 100000000 := by omega
      have HM := Lib.hid hm
      have HO : Hid (wr.ownsRow base 5 1 v1 m (cellsOf (bs ++ beTo x n j))) := by rw [hm]; exact HW1.out.2.1
      clear hm hlen
      obtain ⟨y, hy⟩ : ∃ y, y = (byteAt x (n - 1 - j)).toNat := ⟨_, rfl⟩
      have HY := Lib.hid hy
      clear hy
      have hbo : ∀ wz : World, Hid (Calls Try.prog 32 #[.int .u64 (x : Int), .int .i64 (IntKind.i64.wrap (IntKind.i64.wrap ((n : Int) - 1) - (j : Int)))] wz fun e w' => e = .returned (.int .u8 (y : Int)) ∧ wz = w') := by
        intro wz
        rw [HY.out, show IntKind.i64.wrap (IntKind.i64.wrap ((n : Int) - 1) - (j : Int)) = ((n - 1 - j : Nat) : Int) by rw [IntKind.wrap_i64, IntKind.wrap_i64]; omega]
        exact byteOf_any x (n - 1 - j) wz hx (by omega)
      have HB := Lib.hid hbo
      clear hbo
      have L2 : m + 1 ≤ maxLen := by simp only [maxLen]; omega
      have L3 : (m + 1) * 1 ≤ 140737488355328 := by omega
      have hlq := HW1.out.lt_q
      have hbase := HW1.out.2.2.2
      have hne := Lib.hid HW1.out.ne
      have hnew := World.new_ne wr ⟨q, 0, none⟩ c0
      go_wp2_with fail
      go_region_law
        (first
          | (refine step_append_lies _ (by rfl) _ _ _ (by rfl) base 5 i0 _ 1 1 Try.underlying22 HI.out HZ.out H1.out H2.out rfl (by omega) v1 m _ (by rfl) ((HO.out.alloc _).drew)
              ⟨wr.heap.size, 0, none⟩ 1 1 [.int .u8 (y : Int)] (by rfl) (by rfl) (World.news_of_block (cs := #[.int .u8 (y : Int)]) (t := 5) (fr := (0, 0)) (heap_alloc_new wr _)) (by simp [Value.oneCell'])
              (by omega) L2 L3 (by simp; omega) (wr.heap.size + 1) (by simp) ?_; intro gg cap w1 hown1 hgrow hat hlt; have f1 := hgrow.frozen_far ⟨q, 0, none⟩ (by simp; omega) (Ne.symm hne.out); have c1 := hgrow.cell_far ⟨q, 0, none⟩ (by simp; omega) (Ne.symm hne.out); rw [(keep_alloc _ hlq c0 f0).1] at c1; rw [(keep_alloc _ hlq c0 f0).2] at f1)
          | (go_simp; go_at_call 32; refine ((HB.out _).out).mono ?_; rintro e w' ⟨rfl, rfl⟩))
      all_goals
        have hto := WrTo.next hk1 hn1 (WrTo.laid HW1.out HM.out hown1 hgrow hat HY.out (by rw [← HM.out]; exact hmb))
        rw [List.append_assoc] at hto
        have HTO := Lib.hid hto
        clear hto hown1 hgrow hat c1 f1
        generalize w1.setCell ⟨q, 0, none⟩ (.slice (some ⟨gg, 0, none⟩) (m + 1) cap) = w2 at HTO ⊢
        go_wp2_with fail
        go_roundw
        case rel => exact ⟨j + 1, by omega, by go_num, HTO.out⟩
        case measure => simp [intOf]; omega
    · have hjn : j = n := by omega
      clear hw1 hlt
      have hfin : WrTo base q v w (bs ++ beTo x n n) wr := by rw [show beTo x n n = beTo x n j by rw [hjn]]; exact ⟨v1, HW1.out, hk1, hn1⟩
      have HF := Lib.hid hfin
      have hnot : ¬ j < n := by omega
      clear hfin hjn
      go_wp2_with fail
      go_end0
      exact ⟨rfl, HF.out⟩

end Go.Proofs.Ytfmkccimpmjmiaa
