/-
  What the Writer's Set of package cur does, and Low and High where they lay nothing; no condition beyond what each contract asks.
-/
import Derived.Test.YtfmkccimpmjmiaaCurD
namespace Go.Proofs.Ytfmkccimpmjmiaa
open Go.RowKit
attribute [local go_sem ↓] Go.wp_at_zero Go.wp_at_succ

theorem no_results {fn : Func} (h : fn.results = #[]) (tmps : Array Value) (P : Program) (w : World) : (results fn tmps).run P w = .ok (.tuple #[]) w := by simp [results, h]

theorem wlow_no (p x : Value) (n : Int) (w : World) (h : n < 1 ∨ 8 < n) :
    Calls Try.prog 21 #[p, x, .int .i64 n] w fun e w' => e = .returned (.tuple #[]) ∧ w = w' := by
  have H := Lib.hid h
  clear h
  go_enter Try.func21, Try.ntmps21
  go_wp2_with fail
  refine (isWidth_no n _ H.out).mono ?_
  rintro e w1 ⟨rfl, rfl⟩
  go_wp2_with fail
  refine bodyPost_ret (no_results rfl _ _ _) rfl ?_
  exact ⟨rfl, rfl⟩
theorem whigh_no (p x : Value) (n : Int) (w : World) (h : n < 1 ∨ 8 < n) :
    Calls Try.prog 23 #[p, x, .int .i64 n] w fun e w' => e = .returned (.tuple #[]) ∧ w = w' := by
  have H := Lib.hid h
  clear h
  go_enter Try.func23, Try.ntmps23
  go_wp2_with fail
  refine (isWidth_no n _ H.out).mono ?_
  rintro e w1 ⟨rfl, rfl⟩
  go_wp2_with fail
  refine bodyPost_ret (no_results rfl _ _ _) rfl ?_
  exact ⟨rfl, rfl⟩

/-- When Set does nothing. -/
def NoSet (bs : List UInt8) (a n : Int) : Prop := n < 1 ∨ 8 < n ∨ a < 0 ∨ (bs.length : Int) - n < a

set_option maxHeartbeats 400000 in
theorem set_no (base q : Nat) (v : Value) (bs : List UInt8) (a n : Int) (x : Value) (w : World) (h : Wr w base q v bs) (hn : NoSet bs a n) :
    Calls Try.prog 25 #[.pointer (some ⟨q, 0, none⟩), .int .i64 a, x, .int .i64 n] w fun e w' => e = .returned (.bool false) ∧ w = w' := by
  by_cases h0 : n < 1 ∨ 8 < n
  · have H0 := Lib.hid h0
    clear h0 hn h
    go_enter Try.func25, Try.ntmps25
    go_wp2_with fail
    refine (isWidth_no n _ H0.out).mono ?_
    rintro e w1 ⟨rfl, rfl⟩
    go_wp2_with fail
    go_ret
    exact ⟨rfl, rfl⟩
  · have g1 : 1 ≤ n := by omega
    have g2 : n ≤ 8 := by omega
    by_cases ha : a < 0
    · have hd : decide (a < 0) = true := by simpa using ha
      clear h0 hn h
      go_enter Try.func25, Try.ntmps25
      go_wp2_with fail
      refine (isWidth_yes n _ g1 g2).mono ?_
      rintro e w1 ⟨rfl, rfl⟩
      go_wp2_with fail
      go_ret
      exact ⟨rfl, rfl⟩
    · have hl : (bs.length : Int) - n < a := by unfold NoSet at hn; omega
      have hd : decide (a < 0) = false := by simpa using ha
      obtain ⟨A, c, rfl, _⟩ := h.form
      have c0 := h.cell0
      have hb := h.2.2.1
      clear h0 hn h ha
      go_enter Try.func25, Try.ntmps25
      go_wp2_with fail
      refine (isWidth_yes n _ g1 g2).mono ?_
      rintro e w1 ⟨rfl, rfl⟩
      go_wp2_with fail
      go_ret
      exact ⟨rfl, rfl⟩

/-- bs with the bytes l laid over it from place a on. -/
def over (bs : List UInt8) (a : Nat) (l : List UInt8) : List UInt8 := bs.take a ++ l ++ bs.drop (a + l.length)
theorem over_length (bs : List UInt8) (a : Nat) (l : List UInt8) (h : a + l.length ≤ bs.length) : (over bs a l).length = bs.length := by simp [over]; omega
theorem over_nil (bs : List UInt8) (a : Nat) : over bs a [] = bs := by simp [over]
theorem over_snoc (bs : List UInt8) (a : Nat) (l : List UInt8) (b : UInt8) (h : a + l.length < bs.length) : over bs a (l ++ [b]) = (over bs a l).set (a + l.length) b := by
  have hl : (bs.take a ++ l).length = a + l.length := by simp; omega
  have hd : bs.drop (a + l.length) = bs[a + l.length] :: bs.drop (a + l.length + 1) := List.drop_eq_getElem_cons h
  unfold over
  rw [List.set_append_right _ _ (by omega), hl, Nat.sub_self, hd]
  simp [Nat.add_assoc]

theorem cellsOf_set (bs : List UInt8) (i : Nat) (b : UInt8) : cellsOf (bs.set i b) = (cellsOf bs).set i (.int .u8 (b.toNat : Int)) := by simp [cellsOf, List.map_set]

/-- One byte stored into a Writer's row. -/
theorem Wr.poke {w : World} {base q g N cap i : Nat} {bs : List UInt8} {b : UInt8} (h : Wr w base q (.slice (some ⟨g, 0, none⟩) N cap) bs) (hi : i < bs.length) :
    (∃ old, w.cell? ⟨g, i, none⟩ = some old ∧ w.frozen? ⟨g, i, none⟩ = false) ∧ Wr (w.setCell ⟨g, i, none⟩ (.int .u8 (b.toNat : Int))) base q (.slice (some ⟨g, 0, none⟩) N cap) (bs.set i b) := by
  have hqg : q ≠ g := fun e => h.ne (by rw [e]; rfl)
  rcases h.2.1.2 with ⟨e, _⟩ | ⟨g', cap', cur, e, hbg, hh, hnc, hcm, hcs, ht⟩
  · cases e
  · injection e with e1 e2 e3
    injection e1 with e1
    injection e1 with e1
    subst e1 e2 e3
    have hic : i < cur.size := by omega
    refine ⟨⟨cur[i], by rw [block_cell hh]; simp [hic], block_frozen hh i⟩, ?_⟩
    refine ⟨(Below.heap_setCell _ _ _ _ hqg).trans h.1, ⟨by rw [cellsOf_length]; simp, .inr ⟨g, cap, cur.setIfInBounds i (.int .u8 (b.toNat : Int)), ?_, hbg, block_set hh i _, ?_, hcm, by simpa using hcs, ?_⟩⟩, by simpa using h.2.2.1, by simpa [World.setCell] using h.2.2.2⟩
    · simp
    · simpa using hnc
    · rw [List.length_set, cellsOf_set, ← ht]
      simp [List.take_set]

def SetRel (base q : Nat) (v : Value) (bs : List UInt8) (a x n : Nat) (w : World) (i : Value) (wr : World) : Prop :=
  ∃ j : Nat, j ≤ n ∧ i = .int .i64 (j : Int) ∧ Wr wr base q v (over bs a (leBytes x j)) ∧ Kept (fun k => v.ownBlock = some k) w wr

set_option maxHeartbeats 1000000 in
theorem set_ok (base q : Nat) (v : Value) (bs : List UInt8) (a x n : Nat) (w : World) (h : Wr w base q v bs) (hx : x < 18446744073709551616) (h1 : 1 ≤ n) (h8 : n ≤ 8) (hn : a + n ≤ bs.length) :
    Calls Try.prog 25 #[.pointer (some ⟨q, 0, none⟩), .int .i64 (a : Int), .int .u64 (x : Int), .int .i64 (n : Int)] w fun e w' => e = .returned (.bool true) ∧
      Wr w' base q v (over bs a (leBytes x n)) ∧ Kept (fun k => v.ownBlock = some k) w w' := by
  have hb := h.2.2.1
  have H := Lib.hid h
  obtain ⟨g, cap, hv⟩ : ∃ g cap, v = .slice (some ⟨g, 0, none⟩) bs.length cap := by
    rcases h.2.1.2 with ⟨_, hz⟩ | ⟨g, cap, cur, rfl, _⟩
    · omega
    · exact ⟨g, cap, rfl⟩
  subst hv
  have c0 := h.cell0
  have hd : decide ((a : Int) < 0) = false := by simp
  have hge : decide ((bs.length : Int) - (n : Int) < (a : Int)) = false := by simp; omega
  clear h
  go_enter Try.func25, Try.ntmps25
  go_wp2_with fail
  refine (isWidth_yes n _ (by omega) (by omega)).mono ?_
  rintro e w1 ⟨rfl, rfl⟩
  go_wp2_with fail
  go_loopw [29] (fun i wr => SetRel base q (.slice (some ⟨g, 0, none⟩) bs.length cap) bs a x n w i wr) (fun i _ => n - (intOf i).toNat)
  case atStart => exact ⟨0, Nat.zero_le _, rfl, by rw [leBytes, over_nil]; exact H.out, Kept.refl _ _⟩
  case round =>
    obtain ⟨j, hj, rfl, hw1, hk1⟩ := hrel
    have HW1 := Lib.hid hw1
    by_cases hlt : j < n
    · have e0 := hw1.cell0
      have hlo : a + (leBytes x j).length ≤ bs.length := by rw [leBytes_length]; omega
      obtain ⟨⟨old, o1, o2⟩, hp⟩ := hw1.poke (i := a + j) (b := byteAt x j) (by rw [over_length _ _ _ hlo]; omega)
      rw [show (over bs a (leBytes x j)).set (a + j) (byteAt x j) = over bs a (leBytes x (j + 1)) by
        rw [leBytes, over_snoc _ _ _ _ (by rw [leBytes_length]; omega), leBytes_length]] at hp
      have HP := Lib.hid hp
      clear hp hlo
      clear hw1
      obtain ⟨y, hy⟩ : ∃ y, y = (byteAt x j).toNat := ⟨_, rfl⟩
      have HY := Lib.hid hy
      clear hy
      have hbo : ∀ wz : World, Hid (Calls Try.prog 32 #[.int .u64 (x : Int), .int .i64 (j : Int)] wz fun e w' => e = .returned (.int .u8 (y : Int)) ∧ wz = w') := by
        intro wz
        rw [HY.out]
        exact byteOf_any x j wz hx (by omega)
      have HB := Lib.hid hbo
      clear hbo
      have s1 : (0 : Int) ≤ (a : Int) + (j : Int) := by omega
      have s2 : (a : Int) + (j : Int) < (bs.length : Int) := by omega
      have s3 : IntKind.i64.wrap ((a : Int) + (j : Int)) = (a : Int) + (j : Int) := IntWalk.i64_in _ (by omega)
      have s4 : ((a : Int) + (j : Int)).toNat = a + j := by omega
      go_wp2_with fail
      go_region_law
        (first
          | (go_simp; go_at_call 32; refine ((HB.out _).out).mono ?_; rintro e w' ⟨rfl, rfl⟩))
      all_goals
        have hto : Wr (wr.setCell ⟨g, a + j, none⟩ (.int .u8 (y : Int))).drew base q (.slice (some ⟨g, 0, none⟩) bs.length cap) (over bs a (leBytes x (j + 1))) := by rw [HY.out]; exact HP.out
        have hk2 : Kept (fun k => (Value.slice (some ⟨g, 0, none⟩) bs.length cap).ownBlock = some k) w (wr.setCell ⟨g, a + j, none⟩ (.int .u8 (y : Int))).drew := (hk1.setCell (p := ⟨g, a + j, none⟩) (fun _ => rfl) _).drew
        have HTO := Lib.hid hto
        clear hto s1 s2 s3 s4
        generalize (wr.setCell ⟨g, a + j, none⟩ (.int .u8 (y : Int))).drew = w2 at HTO hk2 ⊢
        go_wp2_with fail
        go_roundw
        case rel => exact ⟨j + 1, by omega, by go_num, HTO.out, hk2⟩
        case measure => simp [intOf]; omega
    · have hjn : j = n := by omega
      clear hw1 hlt
      have hfin : Wr wr base q (.slice (some ⟨g, 0, none⟩) bs.length cap) (over bs a (leBytes x n)) := by rw [← hjn]; exact HW1.out
      have HF := Lib.hid hfin
      have hnot : ¬ j < n := by omega
      clear hfin hjn
      go_wp2_with fail
      go_ret
      exact ⟨rfl, HF.out, hk1⟩

end Go.Proofs.Ytfmkccimpmjmiaa
