/-
  What the methods of base.reading do, one contract each; no condition beyond what each contract asks.
-/
import Derived.Test.YtlimkiebbmidiaaSixU
import Derived.StillTailTactics
import Derived.Deep.RegionHeld3
import Derived.Deep.DrawnRows
namespace Go.Proofs.Ytlimkiebbmidiaa
open Go.RowKit

/-- A reading: its struct lies in block q; it stands at p with the bits x; the bytes up to now, a row of its own, are pre. -/
def Rd (w : World) (B q : Nat) (l : List UInt8) (p x : Nat) (v : Value) (pre : List UInt8) : Prop :=
  w.heap[q]? = some (.cells #[.string ⟨l.toArray⟩, .int .i64 (p : Int), .int .u64 (x : Int), v] 34 (0, 0)) ∧ w.ownsRow B 5 1 v pre.length (cellsOf pre) ∧ B ≤ q
section
variable {w w' : World} {B q : Nat} {l : List UInt8} {p x : Nat} {v : Value} {pre : List UInt8}
theorem Rd.lt (h : Rd w B q l p x v pre) : q < w.heap.size := block_lt h.1
theorem Rd.base (h : Rd w B q l p x v pre) : B ≤ w.heap.size := Nat.le_trans h.2.2 (Nat.le_of_lt h.lt)
theorem Rd.cell0 (h : Rd w B q l p x v pre) : w.cell? ⟨q, 0, none⟩ = some (.string ⟨l.toArray⟩) := by rw [block_cell h.1]; rfl
theorem Rd.cell1 (h : Rd w B q l p x v pre) : w.cell? ⟨q, 1, none⟩ = some (.int .i64 (p : Int)) := by rw [block_cell h.1]; rfl
theorem Rd.cell2 (h : Rd w B q l p x v pre) : w.cell? ⟨q, 2, none⟩ = some (.int .u64 (x : Int)) := by rw [block_cell h.1]; rfl
theorem Rd.cell3 (h : Rd w B q l p x v pre) : w.cell? ⟨q, 3, none⟩ = some v := by rw [block_cell h.1]; rfl
theorem Rd.ne (h : Rd w B q l p x v pre) : v.ownBlock ≠ some q := by
  rcases h.2.1.2 with ⟨rfl, _⟩ | ⟨g, cap, cur, rfl, _, hg, _⟩
  · simp [Value.ownBlock]
  · intro e
    simp only [Value.ownBlock, Option.some.injEq] at e
    subst e
    rw [h.1] at hg
    injection hg with hg
    injection hg with _ ht
    exact absurd ht (by decide)
theorem Rd.drewN (h : Rd w B q l p x v pre) (m : Nat) : Rd (w.drewN m) B q l p x v pre := h
/-- The struct is written, the row not. -/
theorem Rd.set (h : Rd w B q l p x v pre) (i : Nat) (u : Value) {p' x' : Nat} (hc : (#[.string ⟨l.toArray⟩, .int .i64 (p : Int), .int .u64 (x : Int), v] : Array Value).setIfInBounds i u = #[.string ⟨l.toArray⟩, .int .i64 (p' : Int), .int .u64 (x' : Int), v]) :
    Rd (w.setCell ⟨q, i, none⟩ u) B q l p' x' v pre := by
  refine ⟨by rw [block_set h.1, hc], ⟨h.2.1.1, ?_⟩, h.2.2⟩
  have hne := h.ne
  rcases h.2.1.2 with h2 | ⟨g, cap, cur, e, hb, hh, r⟩
  · exact .inl h2
  · refine .inr ⟨g, cap, cur, e, hb, (Below.heap_setCell _ _ _ _ ?_).trans hh, r⟩
    rintro rfl
    exact hne (by rw [e]; rfl)
theorem Rd.at (h : Rd w B q l p x v pre) (p' : Nat) : Rd (w.setCell ⟨q, 1, none⟩ (.int .i64 (p' : Int))) B q l p' x v pre := h.set 1 _ rfl
theorem Rd.bits (h : Rd w B q l p x v pre) (x' : Nat) : Rd (w.setCell ⟨q, 2, none⟩ (.int .u64 (x' : Int))) B q l p x' v pre := h.set 2 _ rfl
end

theorem Below.drawn {B : Nat} {w w' : World} (h : Below B w w') (m : Nat) : Below B w (w'.drewN m) := ⟨h.os, h.tape, h.output, h.size, h.block⟩

set_option maxHeartbeats 400000 in
theorem ended_yes (B q : Nat) (l : List UInt8) (p x : Nat) (v : Value) (pre : List UInt8) (w : World) (h : Rd w B q l p x v pre) (he : p = l.length) :
    Calls Try.prog 14 #[.pointer (some ⟨q, 0, none⟩)] w fun e w' => e = .returned (.bool true) ∧ ∃ m, w' = w.drewN m := by
  have h0 := h.cell0
  have h1 := h.cell1
  have d1 : ((p : Int) == (l.length : Int)) = true := by simp; omega
  clear h he
  go_enter Try.func14, Try.ntmps14
  go_wp2_with fail
  go_quiet (fail)
  go_wp2_with fail
  go_ret
  exact ⟨rfl, _, rfl⟩

set_option maxHeartbeats 400000 in
theorem ended_not (B q : Nat) (l : List UInt8) (p x : Nat) (v : Value) (pre : List UInt8) (w : World) (h : Rd w B q l p x v pre) (he : p < l.length) :
    Calls Try.prog 14 #[.pointer (some ⟨q, 0, none⟩)] w fun e w' => e = .returned (.bool false) ∧ ∃ m, w' = w.drewN m := by
  have h0 := h.cell0
  have h1 := h.cell1
  have d1 : ((p : Int) == (l.length : Int)) = false := by simp; omega
  clear h he
  go_enter Try.func14, Try.ntmps14
  go_wp2_with fail
  go_quiet (fail)
  go_wp2_with fail
  go_ret
  exact ⟨rfl, _, rfl⟩

theorem wraps_u64 (n : Int) (h₀ : 0 ≤ n) (h₁ : n < 2 ^ 62) : IntKind.u64.wrap n = n := by
  simp [IntKind.wrap, IntKind.bits, IntKind.signed]
  omega
theorem u64_or6 (v x : Nat) (hv : v ≤ 100000000) (h : x < 64) : bits .or .u64 ((v : Int) * 64) (x : Int) = ((v * 64 + x : Nat) : Int) := by
  rw [bits_join .u64 62 (by decide) wraps_u64 6 ((v : Int) * 64) (x : Int) (by omega) (by omega) (by omega) (by omega) (by omega) (by omega)]
  omega

/-- It answers false, and nothing but the tape has moved. -/
def SaysNo (w : World) (e : Ending) (w' : World) : Prop := e = .returned (.bool false) ∧ ∃ m, w' = w.drewN m

set_option maxHeartbeats 400000 in
theorem sign_past (B q : Nat) (l : List UInt8) (p x : Nat) (v : Value) (pre : List UInt8) (w : World) (h : Rd w B q l p x v pre) (he : p = l.length) :
    Calls Try.prog 15 #[.pointer (some ⟨q, 0, none⟩)] w (SaysNo w) := by
  have H := Lib.hid h
  have HE := Lib.hid he
  clear h he
  go_enter Try.func15, Try.ntmps15
  go_wp2_with fail
  refine (ended_yes B q l p x v pre w H.out HE.out).mono ?_
  rintro e w' ⟨rfl, m, rfl⟩
  go_wp2_with fail
  go_ret
  exact ⟨rfl, _, rfl⟩

set_option maxHeartbeats 400000 in
theorem sign_bad (B q : Nat) (l : List UInt8) (p x : Nat) (v : Value) (pre : List UInt8) (w : World) (h : Rd w B q l p x v pre) (he : p < l.length) (hs : ¬ sv (l.getD p 0) < 64) :
    Calls Try.prog 15 #[.pointer (some ⟨q, 0, none⟩)] w (SaysNo w) := by
  have H := Lib.hid h
  have HE := Lib.hid he
  have i1 := at_txt l .i64 (p : Int) p rfl he
  clear h he
  obtain ⟨y, hy⟩ : ∃ y, y = l.getD p 0 := ⟨_, rfl⟩
  rw [← hy] at i1 hs
  clear hy
  have HS := Lib.hid hs
  clear hs
  go_enter Try.func15, Try.ntmps15
  go_wp2_with fail
  refine (ended_not B q l p x v pre w H.out HE.out).mono ?_
  rintro e w1 ⟨rfl, m, hw1⟩
  have HW1 := Lib.hid hw1
  have HR1 : Hid (Rd w1 B q l p x v pre) := show _ by rw [hw1]; exact H.out
  clear hw1
  have h0 := HR1.out.cell0
  have h1 := HR1.out.cell1
  go_wp2_with fail
  go_quiet (first | (go_at_call 23; exact Calls.quiet_of_same (value_same _ _)))
  rw [decide_eq_false HS.out]
  go_wp2_with fail
  go_ret
  exact ⟨rfl, m + nq, by rw [HW1.out]; simp [World.drewN, Nat.add_assoc]⟩

set_option maxHeartbeats 400000 in
theorem sign_ok (B q : Nat) (l : List UInt8) (p x : Nat) (v : Value) (pre : List UInt8) (w : World) (h : Rd w B q l p x v pre) (he : p < l.length) (hp : l.length ≤ 2000000) (hs : sv (l.getD p 0) < 64) (hx : x ≤ 1000000) :
    Calls Try.prog 15 #[.pointer (some ⟨q, 0, none⟩)] w fun e w' =>
      e = .returned (.bool true) ∧ Rd w' B q l (p + 1) (x * 64 + sv (l.getD p 0)) v pre ∧ Below B w w' := by
  have H := Lib.hid h
  have HE := Lib.hid he
  have i1 := at_txt l .i64 (p : Int) p rfl he
  have hpl : p < 2000000 := by omega
  clear h he hp
  obtain ⟨y, hy⟩ : ∃ y, y = l.getD p 0 := ⟨_, rfl⟩
  rw [← hy] at i1 hs ⊢
  clear hy
  have HZ : Hid (sz y = sv y) := show _ = _ by unfold sz; rw [if_pos hs]
  have HS := Lib.hid hs
  obtain ⟨s, hse⟩ : ∃ s, s = sv y := ⟨_, rfl⟩
  rw [← hse] at hs ⊢
  have HSE := Lib.hid hse
  clear hse
  go_enter Try.func15, Try.ntmps15
  go_wp2_with fail
  refine (ended_not B q l p x v pre w H.out HE.out).mono ?_
  rintro e w1 ⟨rfl, m, hw1⟩
  have HW1 := Lib.hid hw1
  have HR1 : Hid (Rd w1 B q l p x v pre) := show _ by rw [hw1]; exact H.out
  clear hw1
  have h0 := HR1.out.cell0
  have h1 := HR1.out.cell1
  go_wp2_with fail
  go_quiet (first | (go_at_call 23; exact Calls.quiet_of_same (value_same _ _)))
  rw [decide_eq_true HS.out, HZ.out, ← HSE.out]
  have HR := Lib.hid (HR1.out.drewN nq)
  have BB : Below B w (w1.drewN nq) := by rw [HW1.out]; exact Below.drawn (Below.drawn (Below.refl _ _) _) _
  generalize w1.drewN nq = wd at HR BB ⊢
  clear h0 h1
  have h1 := HR.out.cell1
  have h2 := HR.out.cell2
  have f1 := block_frozen HR.out.1 1
  have f2 := block_frozen HR.out.1 2
  have hBq := HR.out.2.2
  go_wp2_with fail
  rw [u64_or6 x s (by omega) hs, show (p : Int) + 1 = ((p + 1 : Nat) : Int) from rfl]
  go_ret
  exact ⟨rfl, (HR.out.bits _).at _, (BB.setCell (p := ⟨q, 2, none⟩) hBq _).setCell (p := ⟨q, 1, none⟩) hBq _⟩

set_option maxHeartbeats 400000 in
theorem fill_past (B q : Nat) (l : List UInt8) (p x : Nat) (v : Value) (pre : List UInt8) (w : World) (h : Rd w B q l p x v pre) (he : p = l.length) :
    Calls Try.prog 17 #[.pointer (some ⟨q, 0, none⟩)] w (SaysNo w) := by
  have H := Lib.hid h
  have HE := Lib.hid he
  clear h he
  go_enter Try.func17, Try.ntmps17
  go_wp2_with fail
  go_quiet (first | (go_at_call 14; exact Calls.quiet_of (ended_yes B q l p x v pre _ (H.out.drewN _) HE.out)))
  go_wp2_with fail
  go_ret
  exact ⟨rfl, _, rfl⟩

set_option maxHeartbeats 400000 in
theorem fill_bad (B q : Nat) (l : List UInt8) (p x : Nat) (v : Value) (pre : List UInt8) (w : World) (h : Rd w B q l p x v pre) (he : p < l.length) (hs : l.getD p 0 ≠ 61) :
    Calls Try.prog 17 #[.pointer (some ⟨q, 0, none⟩)] w (SaysNo w) := by
  have H := Lib.hid h
  have HE := Lib.hid he
  have i1 := at_txt l .i64 (p : Int) p rfl he
  have h0 := h.cell0
  have h1 := h.cell1
  clear h he
  have d2 : (((l.getD p 0).toNat : Int) != 61) = true := by
    simp only [bne_iff_ne, ne_eq]
    intro e
    exact hs (UInt8.toNat_inj.1 (by show _ = 61; omega))
  generalize l.getD p 0 = y at i1 d2
  clear hs
  generalize y.toNat = z at i1 d2
  go_enter Try.func17, Try.ntmps17
  go_wp2_with fail
  go_quiet (first | (go_at_call 14; exact Calls.quiet_of (ended_not B q l p x v pre _ (H.out.drewN _) HE.out)))
  go_wp2_with fail
  go_ret
  exact ⟨rfl, _, rfl⟩

set_option maxHeartbeats 400000 in
theorem fill_ok (B q : Nat) (l : List UInt8) (p x : Nat) (v : Value) (pre : List UInt8) (w : World) (h : Rd w B q l p x v pre) (he : p < l.length) (hp : l.length ≤ 2000000) (hs : l.getD p 0 = 61) :
    Calls Try.prog 17 #[.pointer (some ⟨q, 0, none⟩)] w fun e w' =>
      e = .returned (.bool true) ∧ Rd w' B q l (p + 1) x v pre ∧ Below B w w' := by
  have H := Lib.hid h
  have HE := Lib.hid he
  have i1 := at_txt l .i64 (p : Int) p rfl he
  rw [hs] at i1
  have i2 : ∀ w, (Instr.index 9 (.string ⟨l.toArray⟩) (.int .i64 (p : Int))).run Try.prog w = .ok (.int .u8 61) w := i1
  clear i1
  have h0 := h.cell0
  have h1 := h.cell1
  have hpl : p < 2000000 := by omega
  clear h he hp hs
  go_enter Try.func17, Try.ntmps17
  go_wp2_with fail
  go_quiet (first | (go_at_call 14; exact Calls.quiet_of (ended_not B q l p x v pre _ (H.out.drewN _) HE.out)))
  have HR := Lib.hid (H.out.drewN nq)
  have BB : Below B w (w.drewN nq) := Below.drawn (Below.refl _ _) _
  generalize w.drewN nq = wd at HR BB ⊢
  clear h0 h1
  have h1 := HR.out.cell1
  have f1 := block_frozen HR.out.1 1
  have hBq := HR.out.2.2
  go_wp2_with fail
  rw [show (p : Int) + 1 = ((p + 1 : Nat) : Int) from rfl]
  go_ret
  exact ⟨rfl, HR.out.at _, BB.setCell (p := ⟨q, 1, none⟩) hBq _⟩

theorem keep_alloc {w : World} {q i : Nat} {v : Value} (o : Obj) (hq : q < w.heap.size) (hc : w.cell? ⟨q, i, none⟩ = some v) (hf : w.frozen? ⟨q, i, none⟩ = false) :
    (w.alloc o).drew.cell? ⟨q, i, none⟩ = some v ∧ (w.alloc o).drew.frozen? ⟨q, i, none⟩ = false :=
  ⟨(World.cell?_of_block (a := ⟨q, i, none⟩) (Below.heap_alloc w o q hq)).trans hc, (World.frozen?_of_block (a := ⟨q, i, none⟩) (Below.heap_alloc w o q hq)).trans hf⟩
theorem info_u8 : (Try.prog.info? 5).map (fun i => (i.zero, i.size, i.bytes)) = some (some (.int .u8 0), 1, 1) := by kernel_rfl

/-- One byte more, as lay's region lays it. -/
theorem Rd.laid {wr w1 : World} {B q gg cap m p x : Nat} {v : Value} {l pre : List UInt8} {y : Int} {b : UInt8} (h : Rd wr B q l p x v pre) (hm : m = pre.length)
    (hown : w1.ownsRow B 5 1 (.slice (some ⟨gg, 0, none⟩) (m + 1) cap) (m + 1) (cellsOf pre ++ [.int .u8 y])) (hgrow : (wr.alloc (.cells #[.int .u8 y] 5)).drew.grownBy w1 v.ownBlock)
    (hat : v.ownBlock = some gg ∨ gg = wr.heap.size + 1) (hy : y = (b.toNat : Int)) :
    Rd (w1.setCell ⟨q, 3, none⟩ (.slice (some ⟨gg, 0, none⟩) (m + 1) cap)) B q l p x (.slice (some ⟨gg, 0, none⟩) (m + 1) cap) (pre ++ [b]) ∧ Below B wr (w1.setCell ⟨q, 3, none⟩ (.slice (some ⟨gg, 0, none⟩) (m + 1) cap)) := by
  subst hm hy
  have hl := h.lt
  have hne := h.ne
  have hq1 : w1.heap[q]? = some (.cells #[.string ⟨l.toArray⟩, .int .i64 (p : Int), .int .u64 (x : Int), v] 34 (0, 0)) :=
    (hgrow.block q (by simp; omega) (fun e => hne e.symm)).trans ((Below.heap_alloc wr _ q hl).trans h.1)
  have hgq : gg ≠ q := by
    rintro rfl
    rcases hat with e | e
    · exact hne e
    · omega
  refine ⟨⟨by rw [block_set hq1]; rfl, ?_, h.2.2⟩, ?_⟩
  · have hl1 : (pre ++ [b]).length = pre.length + 1 := by simp
    have hc1 : cellsOf (pre ++ [b]) = cellsOf pre ++ [.int .u8 (b.toNat : Int)] := by rw [cellsOf_append]; rfl
    rw [hl1, hc1]
    refine ⟨hown.1, ?_⟩
    rcases hown.2 with h2 | ⟨g, cap', cur, e, hbg, hh, r⟩
    · exact .inl h2
    · refine .inr ⟨g, cap', cur, e, hbg, (Below.heap_setCell _ _ _ _ ?_).trans hh, r⟩
      injection e with e1 e2 e3
      injection e1 with e1
      injection e1 with e1
      show g ≠ q
      omega
  · exact ((((Below.refl B wr).alloc h.base _).drew).grown hgrow (by simp; have := h.base; omega) (fun k hk => (h.2.1.lt k hk).1)).setCell (p := ⟨q, 3, none⟩) h.2.2 _

set_option maxHeartbeats 1000000 in
theorem lay4 (B q : Nat) (l : List UInt8) (p x : Nat) (v : Value) (pre : List UInt8) (w : World) (h : Rd w B q l p x v pre) (hx : x < 4096) (hl : pre.length ≤ 2000000) :
    Calls Try.prog 16 #[.pointer (some ⟨q, 0, none⟩), .int .i64 4] w fun e w' =>
      e = .returned (.tuple #[]) ∧ ∃ v', Rd w' B q l p (x % 16) v' (pre ++ [UInt8.ofNat (x / 16)]) ∧ Below B w w' := by
  obtain ⟨i0, hi0, hz0, hz1, hz2⟩ := info_parts info_u8
  have HZ := Lib.hid hz0; have HI := Lib.hid hi0; have H1 := Lib.hid hz1; have H2 := Lib.hid hz2
  clear hz0 hi0 hz1 hz2
  have H := Lib.hid h
  have c2 := h.cell2
  have c3 := h.cell3
  have f2 := block_frozen h.1 2
  have f3 := block_frozen h.1 3
  have hlq := h.lt
  have hbase := h.base
  have hne := Lib.hid h.ne
  obtain ⟨m, hm⟩ : ∃ m, m = pre.length := ⟨_, rfl⟩
  have HO : Hid (w.ownsRow B 5 1 v m (cellsOf pre)) := show _ by rw [hm]; exact h.2.1
  rw [← hm] at hl
  have HM := Lib.hid hm
  clear h hm
  have L2 : m + 1 ≤ maxLen := by simp only [maxLen]; omega
  have L3 : (m + 1) * 1 ≤ 140737488355328 := by omega
  obtain ⟨y, hy⟩ : ∃ y, y = x / 16 := ⟨_, rfl⟩
  have HY : Hid ((y : Int) = ((UInt8.ofNat (x / 16)).toNat : Int)) := show _ = _ by rw [UInt8.toNat_ofNat', Nat.mod_eq_of_lt (by omega), hy]
  have s1 : (x : Int) / 16 = (y : Int) := by omega
  have s2 : (x : Int) / 16 % 256 = (y : Int) := by omega
  have s3 : IntKind.u8.wrap ((x : Int) / 16) = (y : Int) := by rw [IntKind.wrap_u8]; omega
  have s4 : IntKind.u8.wrap (y : Int) = (y : Int) := by rw [IntKind.wrap_u8]; omega
  have s5 : (x : Int) >>> 4 = (y : Int) := by rw [Int.shiftRight_eq_div_pow]; omega
  have a1 : bits .and .u64 (x : Int) 15 = (x : Int) % 16 := bits_mask .u64 62 (by decide) wraps_u64 4 (by decide) _ (by omega) (by omega)
  clear hy
  have hnew := World.new_ne w ⟨q, 3, none⟩ c3
  go_enter Try.func16, Try.ntmps16
  go_wp2_with fail
  go_region_law
    (first
      | (refine step_append_lies _ (by rfl) _ _ _ (by rfl) B 5 i0 _ 1 1 Try.underlying22 HI.out HZ.out H1.out H2.out rfl (by omega) v m _ (by rfl) ((HO.out.alloc _).drew)
          ⟨w.heap.size, 0, none⟩ 1 1 [.int .u8 (y : Int)] (by rfl) (by rfl) (World.news_of_block (cs := #[.int .u8 (y : Int)]) (t := 5) (fr := (0, 0)) (heap_alloc_new w _)) (by simp [Value.oneCell'])
          (by omega) L2 L3 (by simp; omega) (w.heap.size + 1) (by simp) ?_; intro gg cap w1 hown1 hgrow hat hlt; have f31 := hgrow.frozen_far ⟨q, 3, none⟩ (by simp; omega) (Ne.symm hne.out); have c31 := hgrow.cell_far ⟨q, 3, none⟩ (by simp; omega) (Ne.symm hne.out); rw [(keep_alloc _ hlq c3 f3).1] at c31; rw [(keep_alloc _ hlq c3 f3).2] at f31))
  all_goals
    have hto := Rd.laid H.out HM.out hown1 hgrow hat HY.out
    have HTO := Lib.hid hto
    clear hto hown1 hgrow hat c31 f31 c2 c3 f2 f3 hlt
    generalize w1.setCell ⟨q, 3, none⟩ (.slice (some ⟨gg, 0, none⟩) (m + 1) cap) = w2 at HTO ⊢
    have c2 := HTO.out.1.cell2
    have f2 := block_frozen HTO.out.1.1 2
    have hBq := HTO.out.1.2.2
    go_wp2_with fail
    go_region_law (first | fail)
    all_goals
      rw [show IntKind.u64.wrap (IntKind.u64.wrap 16 - 1) = 15 by decide, a1, show (x : Int) % 16 = ((x % 16 : Nat) : Int) by omega]
      go_end0
      exact ⟨rfl, _, HTO.out.1.bits _, (HTO.out.2.setCell (p := ⟨q, 2, none⟩) hBq _).drew⟩

set_option maxHeartbeats 1000000 in
theorem lay2 (B q : Nat) (l : List UInt8) (p x : Nat) (v : Value) (pre : List UInt8) (w : World) (h : Rd w B q l p x v pre) (hx : x < 1024) (hl : pre.length ≤ 2000000) :
    Calls Try.prog 16 #[.pointer (some ⟨q, 0, none⟩), .int .i64 2] w fun e w' =>
      e = .returned (.tuple #[]) ∧ ∃ v', Rd w' B q l p (x % 4) v' (pre ++ [UInt8.ofNat (x / 4)]) ∧ Below B w w' := by
  obtain ⟨i0, hi0, hz0, hz1, hz2⟩ := info_parts info_u8
  have HZ := Lib.hid hz0; have HI := Lib.hid hi0; have H1 := Lib.hid hz1; have H2 := Lib.hid hz2
  clear hz0 hi0 hz1 hz2
  have H := Lib.hid h
  have c2 := h.cell2
  have c3 := h.cell3
  have f2 := block_frozen h.1 2
  have f3 := block_frozen h.1 3
  have hlq := h.lt
  have hbase := h.base
  have hne := Lib.hid h.ne
  obtain ⟨m, hm⟩ : ∃ m, m = pre.length := ⟨_, rfl⟩
  have HO : Hid (w.ownsRow B 5 1 v m (cellsOf pre)) := show _ by rw [hm]; exact h.2.1
  rw [← hm] at hl
  have HM := Lib.hid hm
  clear h hm
  have L2 : m + 1 ≤ maxLen := by simp only [maxLen]; omega
  have L3 : (m + 1) * 1 ≤ 140737488355328 := by omega
  obtain ⟨y, hy⟩ : ∃ y, y = x / 4 := ⟨_, rfl⟩
  have HY : Hid ((y : Int) = ((UInt8.ofNat (x / 4)).toNat : Int)) := show _ = _ by rw [UInt8.toNat_ofNat', Nat.mod_eq_of_lt (by omega), hy]
  have s1 : (x : Int) / 4 = (y : Int) := by omega
  have s2 : (x : Int) / 4 % 256 = (y : Int) := by omega
  have s3 : IntKind.u8.wrap ((x : Int) / 4) = (y : Int) := by rw [IntKind.wrap_u8]; omega
  have s4 : IntKind.u8.wrap (y : Int) = (y : Int) := by rw [IntKind.wrap_u8]; omega
  have s5 : (x : Int) >>> 2 = (y : Int) := by rw [Int.shiftRight_eq_div_pow]; omega
  have a1 : bits .and .u64 (x : Int) 3 = (x : Int) % 4 := bits_mask .u64 62 (by decide) wraps_u64 2 (by decide) _ (by omega) (by omega)
  clear hy
  have hnew := World.new_ne w ⟨q, 3, none⟩ c3
  go_enter Try.func16, Try.ntmps16
  go_wp2_with fail
  go_region_law
    (first
      | (refine step_append_lies _ (by rfl) _ _ _ (by rfl) B 5 i0 _ 1 1 Try.underlying22 HI.out HZ.out H1.out H2.out rfl (by omega) v m _ (by rfl) ((HO.out.alloc _).drew)
          ⟨w.heap.size, 0, none⟩ 1 1 [.int .u8 (y : Int)] (by rfl) (by rfl) (World.news_of_block (cs := #[.int .u8 (y : Int)]) (t := 5) (fr := (0, 0)) (heap_alloc_new w _)) (by simp [Value.oneCell'])
          (by omega) L2 L3 (by simp; omega) (w.heap.size + 1) (by simp) ?_; intro gg cap w1 hown1 hgrow hat hlt; have f31 := hgrow.frozen_far ⟨q, 3, none⟩ (by simp; omega) (Ne.symm hne.out); have c31 := hgrow.cell_far ⟨q, 3, none⟩ (by simp; omega) (Ne.symm hne.out); rw [(keep_alloc _ hlq c3 f3).1] at c31; rw [(keep_alloc _ hlq c3 f3).2] at f31))
  all_goals
    have hto := Rd.laid H.out HM.out hown1 hgrow hat HY.out
    have HTO := Lib.hid hto
    clear hto hown1 hgrow hat c31 f31 c2 c3 f2 f3 hlt
    generalize w1.setCell ⟨q, 3, none⟩ (.slice (some ⟨gg, 0, none⟩) (m + 1) cap) = w2 at HTO ⊢
    have c2 := HTO.out.1.cell2
    have f2 := block_frozen HTO.out.1.1 2
    have hBq := HTO.out.1.2.2
    go_wp2_with fail
    go_region_law (first | fail)
    all_goals
      rw [show IntKind.u64.wrap (IntKind.u64.wrap 4 - 1) = 3 by decide, a1, show (x : Int) % 4 = ((x % 4 : Nat) : Int) by omega]
      go_end0
      exact ⟨rfl, _, HTO.out.1.bits _, (HTO.out.2.setCell (p := ⟨q, 2, none⟩) hBq _).drew⟩

set_option maxHeartbeats 1000000 in
theorem lay0 (B q : Nat) (l : List UInt8) (p x : Nat) (v : Value) (pre : List UInt8) (w : World) (h : Rd w B q l p x v pre) (hx : x < 256) (hl : pre.length ≤ 2000000) :
    Calls Try.prog 16 #[.pointer (some ⟨q, 0, none⟩), .int .i64 0] w fun e w' =>
      e = .returned (.tuple #[]) ∧ ∃ v', Rd w' B q l p (x % 1) v' (pre ++ [UInt8.ofNat (x / 1)]) ∧ Below B w w' := by
  obtain ⟨i0, hi0, hz0, hz1, hz2⟩ := info_parts info_u8
  have HZ := Lib.hid hz0; have HI := Lib.hid hi0; have H1 := Lib.hid hz1; have H2 := Lib.hid hz2
  clear hz0 hi0 hz1 hz2
  have H := Lib.hid h
  have c2 := h.cell2
  have c3 := h.cell3
  have f2 := block_frozen h.1 2
  have f3 := block_frozen h.1 3
  have hlq := h.lt
  have hbase := h.base
  have hne := Lib.hid h.ne
  obtain ⟨m, hm⟩ : ∃ m, m = pre.length := ⟨_, rfl⟩
  have HO : Hid (w.ownsRow B 5 1 v m (cellsOf pre)) := show _ by rw [hm]; exact h.2.1
  rw [← hm] at hl
  have HM := Lib.hid hm
  clear h hm
  have L2 : m + 1 ≤ maxLen := by simp only [maxLen]; omega
  have L3 : (m + 1) * 1 ≤ 140737488355328 := by omega
  obtain ⟨y, hy⟩ : ∃ y, y = x / 1 := ⟨_, rfl⟩
  have HY : Hid ((y : Int) = ((UInt8.ofNat (x / 1)).toNat : Int)) := show _ = _ by rw [UInt8.toNat_ofNat', Nat.mod_eq_of_lt (by omega), hy]
  have s1 : (x : Int) / 1 = (y : Int) := by omega
  have s2 : (x : Int) / 1 % 256 = (y : Int) := by omega
  have s3 : IntKind.u8.wrap ((x : Int) / 1) = (y : Int) := by rw [IntKind.wrap_u8]; omega
  have s4 : IntKind.u8.wrap (y : Int) = (y : Int) := by rw [IntKind.wrap_u8]; omega
  have s5 : (x : Int) >>> 0 = (y : Int) := by rw [Int.shiftRight_eq_div_pow]; omega
  have a1 : bits .and .u64 (x : Int) 0 = (x : Int) % 1 := bits_mask .u64 62 (by decide) wraps_u64 0 (by decide) _ (by omega) (by omega)
  clear hy
  have hnew := World.new_ne w ⟨q, 3, none⟩ c3
  go_enter Try.func16, Try.ntmps16
  go_wp2_with fail
  go_region_law
    (first
      | (refine step_append_lies _ (by rfl) _ _ _ (by rfl) B 5 i0 _ 1 1 Try.underlying22 HI.out HZ.out H1.out H2.out rfl (by omega) v m _ (by rfl) ((HO.out.alloc _).drew)
          ⟨w.heap.size, 0, none⟩ 1 1 [.int .u8 (y : Int)] (by rfl) (by rfl) (World.news_of_block (cs := #[.int .u8 (y : Int)]) (t := 5) (fr := (0, 0)) (heap_alloc_new w _)) (by simp [Value.oneCell'])
          (by omega) L2 L3 (by simp; omega) (w.heap.size + 1) (by simp) ?_; intro gg cap w1 hown1 hgrow hat hlt; have f31 := hgrow.frozen_far ⟨q, 3, none⟩ (by simp; omega) (Ne.symm hne.out); have c31 := hgrow.cell_far ⟨q, 3, none⟩ (by simp; omega) (Ne.symm hne.out); rw [(keep_alloc _ hlq c3 f3).1] at c31; rw [(keep_alloc _ hlq c3 f3).2] at f31))
  all_goals
    have hto := Rd.laid H.out HM.out hown1 hgrow hat HY.out
    have HTO := Lib.hid hto
    clear hto hown1 hgrow hat c31 f31 c2 c3 f2 f3 hlt
    generalize w1.setCell ⟨q, 3, none⟩ (.slice (some ⟨gg, 0, none⟩) (m + 1) cap) = w2 at HTO ⊢
    have c2 := HTO.out.1.cell2
    have f2 := block_frozen HTO.out.1.1 2
    have hBq := HTO.out.1.2.2
    go_wp2_with fail
    go_region_law (first | fail)
    all_goals
      rw [show IntKind.u64.wrap (IntKind.u64.wrap 1 - 1) = 0 by decide, a1, show (x : Int) % 1 = ((x % 1 : Nat) : Int) by omega]
      go_end0
      exact ⟨rfl, _, HTO.out.1.bits _, (HTO.out.2.setCell (p := ⟨q, 2, none⟩) hBq _).drew⟩

end Go.Proofs.Ytlimkiebbmidiaa
