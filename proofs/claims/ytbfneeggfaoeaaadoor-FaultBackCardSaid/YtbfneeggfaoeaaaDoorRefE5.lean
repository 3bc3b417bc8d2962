/-
  What the document's Parse does; no condition beyond what the contract asks.
-/
import Derived.Test.YtbfneeggfaoeaaaDoorRefD5
namespace Go.Proofs.YtbfneeggfaoeaaaDoor
open Go.RowKit

def PartsRel (w : World) (s : List UInt8) (t4 t5 t6 t7 : Value) (wr : World) : Prop :=
  ∃ (i : Nat) (nm fr : Int) (ps : List (List UInt8)) (A : Option Addr) (m c : Nat), i ≤ s.length + 1 ∧ t4 = .slice A m c ∧ t5 = .int .i64 fr ∧ t6 = .int .i64 nm ∧ t7 = .int .i64 (i : Int) ∧ m ≤ i ∧
    wr.ownsRow (w.heap.size + 1) 9 1 (.slice A m c) m (strCells ps) ∧ Cuts s i nm fr ps ∧
    wr.heap[w.heap.size]? = some (.cells #[.int .i64 0, .int .i64 0, .slice none 0 0] 30) ∧ Below w.heap.size w wr

/-- One piece more. -/
theorem more_piece {w w8 w9 : World} {A A5 : Option Addr} {m c c5 : Nat} {ps : List (List UInt8)} {p : List UInt8} (B : Below w.heap.size w w8)
    (hb : w8.heap[w.heap.size]? = some (.cells #[.int .i64 0, .int .i64 0, .slice none 0 0] 30))
    (hown : w8.ownsRow (w.heap.size + 1) 9 1 (.slice A m c) m (strCells ps))
    (ho : w9.ownsRow (w.heap.size + 1) 9 1 (.slice A5 (m + 1) c5) (m + 1) (strCells ps ++ [.string ⟨p.toArray⟩])) (hg : w8.grownBy w9 (Value.slice A m c).ownBlock) :
    w9.ownsRow (w.heap.size + 1) 9 1 (.slice A5 (m + 1) c5) (m + 1) (strCells (ps ++ [p])) ∧
    w9.heap[w.heap.size]? = some (.cells #[.int .i64 0, .int .i64 0, .slice none 0 0] 30) ∧ Below w.heap.size w w9 := by
  refine ⟨by rw [strCells_append]; exact ho, (hg.block _ (block_lt hb) (fun h => by have := (hown.lt _ h.symm).1; omega)).trans hb, B.grown hg B.size (fun k hk => Nat.le_of_succ_le (hown.lt k hk).1)⟩

/-- What has been read of the pieces. -/
def NumsRel (w4 : World) (e0 : Nat) (ok0 : Bool) (ps : List (List UInt8)) (t9 t11 : Value) (wr : World) : Prop :=
  ∃ (j : Nat) (b : Bool) (A : Option Addr) (m c : Nat), j ≤ ps.length ∧ t9 = .bool b ∧ t11 = .int .i64 (j : Int) ∧ b = okAt ok0 ps j ∧ m ≤ j ∧
    wr.heap[w4.heap.size]? = some (.cells #[.int .i64 (e0 : Int), .int .i64 (headOf ps j : Int), .slice A m c] 30) ∧
    wr.ownsRow (w4.heap.size + 1) 3 1 (.slice A m c) m (intCells (ints (tailAt ps j))) ∧ Below w4.heap.size w4 wr
theorem cell_of_piece {w4 : World} {A : Option Addr} {m c : Nat} {ps : List (List UInt8)} {base : Nat} (h : w4.ownsRow base 9 1 (.slice A m c) m (strCells ps)) (hn : 0 < m) :
    ∃ g, A = some ⟨g, 0, none⟩ ∧ g < w4.heap.size ∧ ∀ j, j < m → w4.cell? ⟨g, j, none⟩ = some (.string ⟨(ps.getD j []).toArray⟩) := by
  obtain ⟨g, h1, _, h3, h4⟩ := own_cell h hn
  refine ⟨g, h1, h3, fun j hj => ?_⟩
  rw [h4 j hj]
  have hl : ps.length = m := by have := h.1; simp [strCells] at this; omega
  have : j < ps.length := by omega
  simp [strCells, List.getD, this]

set_option maxHeartbeats 8000000 in
theorem refParse_any (s : List UInt8) (hs : s.length ≤ 1000000) (w : World) :
    Calls Tryd.prog 14 #[.string ⟨s.toArray⟩] w (GotF (parseOf s) w) := by
  obtain ⟨r, hr⟩ : ∃ r, r = parseOf s := ⟨_, rfl⟩
  rw [← hr]
  have HR := Lib.hid hr
  clear hr
  obtain ⟨N, hN⟩ : ∃ N, N = s.length := ⟨_, rfl⟩
  have HN := Lib.hid hN
  have hNb : N ≤ 1000000 := by omega
  clear hN
  have B1 : Below w.heap.size w (w.alloc (.cells #[.int .i64 0, .int .i64 0, .slice none 0 0] 30)) := (Below.refl _ _).alloc (Nat.le_refl _) _
  have hb1 : (w.alloc (.cells #[.int .i64 0, .int .i64 0, .slice none 0 0] 30)).heap[w.heap.size]? = some (.cells #[.int .i64 0, .int .i64 0, .slice none 0 0] 30) := heap_alloc_new w _
  go_enter Tryd.func14, Tryd.ntmps14
  go_wp2_with fail
  generalize w.alloc (.cells #[.int .i64 0, .int .i64 0, .slice none 0 0] 30) = w1 at *
  go_loopw [4, 5, 6, 7] (fun t4 t5 t6 t7 wr => PartsRel w s t4 t5 t6 t7 wr) (fun _ _ _ t7 _ => N + 2 - (intOf t7).toNat)
  case atStart => exact ⟨0, -1, 0, [], none, 0, 0, by omega, rfl, rfl, rfl, rfl, by omega, World.ownsRow_nil _ _ _ _, Cuts.start s, hb1, B1⟩
  case round =>
    clear B1 hb1
    obtain ⟨i, nm, fr, ps, A, m, c, hi, rfl, rfl, rfl, rfl, hm, hown, hcut, hb2, B2⟩ := hrel
    rw [← HN.out] at hi
    have HOw := Lib.hid hown; have HCt := Lib.hid hcut
    clear hown hcut
    rcases Nat.lt_or_ge N i with hgt | hle
    · obtain rfl : i = N + 1 := by omega
      have d0 : decide (((N + 1 : Nat) : Int) ≤ (s.length : Int)) = false := by rw [← HN.out]; simp; omega
      have d0n : decide (N + 1 ≤ s.length) = false := by rw [← HN.out]; simp
      have d0c : decide ((N : Int) + 1 ≤ (s.length : Int)) = false := by rw [← HN.out]; simp; omega
      rcases HCt.out.name with hnm | ⟨k, f, hnm, hfr, hk, hf⟩
      · subst hnm
        have HE : Hid (r = none) := show _ = _ by rw [HR.out]; exact Cuts.end_none (by rw [← HN.out]; exact HCt.out)
        have f0 := block_frozen hb2 0; have f1' := block_frozen hb2 1; have f2 := block_frozen hb2 2
        have g0 : wr.cell? ⟨w.heap.size, 0, none⟩ = some (.int .i64 0) := by rw [block_cell hb2]; rfl
        have g1 : wr.cell? ⟨w.heap.size, 1, none⟩ = some (.int .i64 0) := by rw [block_cell hb2]; rfl
        have g2 : wr.cell? ⟨w.heap.size, 2, none⟩ = some (.slice none 0 0) := by rw [block_cell hb2]; rfl
        have hb5 := three_set (a := .int .i64 0) (b := .int .i64 0) (c := .slice none 0 0) hb2
        have B5 := below_three B2 (g := w.heap.size) (Nat.le_refl _) (.int .i64 0) (.int .i64 0) (.slice none 0 0)
        go_wp2_with fail
        try simp only [Exit.inBlock, Exit.then]
        refine bodyPost_ret (results_row2 rfl _ _ w.heap.size _ rfl (load_fault hb5)) rfl ?_
        exact gotF_none HE.out B5
      · subst hnm
        have hes : k < s.length ∧ cutAt 64 s = (s.take k, s.drop (k + 1), true) ∧ ps = split 47 (s.drop (k + 1)) := Cuts.end_some (by rw [← HN.out]; exact HCt.out)
        have HPe := Lib.hid (parse_end hes.2.1 hes.2.2)
        have HPn : Hid (ps ≠ []) := show _ ≠ _ by rw [hes.2.2]; exact split_ne _ _
        have HPl : Hid (∀ p ∈ ps, p.length ≤ 1000000) := fun p hp => by
          have h1 := split_le 47 (s.drop (k + 1)) p (by rw [← hes.2.2]; exact hp)
          rw [List.length_drop] at h1
          omega
        have d1 : decide ((k : Int) < 0) = false := by simp
        have hsl := slice_upto s k (by omega) wr
        clear hes HCt hfr hk
        generalize s.take k = nme at *
        have hplen : ps.length = m := by have := HOw.out.1; simp [strCells] at this; omega
        have hmpos : 0 < m := by rw [← hplen]; exact List.length_pos_iff.2 HPn.out
        go_wp2_with fail
        refine (refCode_any nme wr).mono ?_
        rintro x w4 ⟨rfl, k4⟩
        rw [codeR_eq]
        generalize (codeOf nme).getD 0 = e0 at *
        generalize (codeOf nme).isSome = ok0 at *
        have B4 : Below w.heap.size w w4 := B2.trans (k4.mono B2.size)
        have hb4 : w4.heap[w.heap.size]? = some (.cells #[.int .i64 0, .int .i64 0, .slice none 0 0] 30) := (k4.block _ (block_lt hb2)).trans hb2
        have ho4 : w4.ownsRow (w.heap.size + 1) 9 1 (.slice A m c) m (strCells ps) := HOw.out.kept (row := none) ⟨k4.os, k4.tape, k4.output, k4.size, fun k hk _ => k4.block k hk⟩ (Classical.em _)
        obtain ⟨gp, rfl, hgp, hcp⟩ := cell_of_piece ho4 hmpos
        have HCp := Lib.hid hcp
        have hlt4 := block_lt hb4
        clear hsl k4 HOw ho4 hcp hb2 B2
        have hbF := heap_alloc_new w4 (.cells #[.int .i64 (e0 : Int), .int .i64 0, .slice none 0 0] 30)
        have BF : Below w4.heap.size w4 (w4.alloc (.cells #[.int .i64 (e0 : Int), .int .i64 0, .slice none 0 0] 30)) := (Below.refl _ _).alloc (Nat.le_refl _) _
        go_wp2_with fail
        generalize w4.alloc (.cells #[.int .i64 (e0 : Int), .int .i64 0, .slice none 0 0] 30) = wF at *
        obtain ⟨W0, rfl⟩ : ∃ W0, W0 = wr := ⟨_, rfl⟩
        go_loopw [9, 11] (fun t9 t11 wr' => NumsRel w4 e0 ok0 ps t9 t11 wr') (fun _ t11 _ => m - (intOf t11).toNat)
        case atStart => exact ⟨0, ok0, none, 0, 0, by omega, rfl, rfl, by simp [okAt], by omega, hbF, World.ownsRow_nil _ _ _ _, BF⟩
        case round =>
          obtain ⟨j, b, A, m5, c5, hj, rfl, rfl, hbk, hm5, hb5, hown5, B5⟩ := hrel
          have HO5 := Lib.hid hown5
          clear hown5 hbF BF
          have hjm : j ≤ m := by omega
          by_cases hlt : j < m
          · have d2 : decide ((j : Int) < (m : Int)) = true := by simp; omega
            have d2n : decide (j < m) = true := by simp; omega
            have hcell := (B5.cell (p := ⟨gp, j, none⟩) hgp).trans (HCp.out j hlt)
            have HOk := Lib.hid (ok_next (ok := ok0) (ps := ps) (j := j) (by omega))
            rw [← hbk] at HOk
            have hlp : (ps.getD j []).length ≤ 1000000 := piece_le HPl.out
            obtain ⟨p, hp⟩ : ∃ p, p = ps.getD j [] := ⟨_, rfl⟩
            rw [← hp] at hcell HOk hlp
            have HPp := Lib.hid hp
            have hvt := val_top p
            have HVt := Lib.hid hvt
            clear hvt hp
            go_wp2_with fail
            refine (refNumber_any p wr (by omega)).mono ?_
            rintro x w5 ⟨rfl, hw5⟩
            subst w5
            rw [numR_eq]
            obtain ⟨v, hv⟩ : ∃ v, v = val p := ⟨_, rfl⟩
            have hvt := HVt.out
            rw [← hv] at hvt
            have hval : v = val (ps.getD j []) := by rw [hv, HPp.out]
            rw [show (numOf p).getD 0 = v from hv.symm]
            generalize (numOf p).isSome = is at *
            have y1 : wrap64 (v : Int) = (v : Int) := wrap_fits (by omega) (by unfold top at hvt; omega)
            clear hcell hvt hbk hv HVt HPp
            cases b with
            | true =>
              rw [Bool.true_and] at HOk
              by_cases hj0 : j = 0
              · obtain rfl : j = 0 := by omega
                have HH := Lib.hid (head_first (ps := ps) (by omega))
                rw [← hval] at HH
                have hb6 := one_set (b := .int .i64 (v : Int)) hb5
                have B6 : Below w4.heap.size w4 (wr.setCell ⟨w4.heap.size, 1, none⟩ (.int .i64 (v : Int))) := B5.setCell (p := ⟨w4.heap.size, 1, none⟩) (Nat.le_refl _) _
                have HO6 : Hid ((wr.setCell ⟨w4.heap.size, 1, none⟩ (.int .i64 (v : Int))).ownsRow (w4.heap.size + 1) 3 1 (.slice A m5 c5) m5 (intCells (ints (tailAt ps 0)))) := ownsRow_setCell_below HO5.out (Nat.lt_succ_self _) _
                have hf1 := block_frozen hb5 1
                have hg1 : wr.cell? ⟨w4.heap.size, 1, none⟩ = some (.int .i64 (headOf ps 0 : Int)) := by rw [block_cell hb5]; rfl
                have HT : Hid (tailAt ps 1 = tailAt ps 0) := show _ = _ by rw [tail_first.1, tail_first.2]
                clear hval HO5
                go_wp2_with fail
                generalize wr.setCell ⟨w4.heap.size, 1, none⟩ (.int .i64 (v : Int)) = w6 at *
                go_roundw
                case rel => exact ⟨1, is, A, m5, c5, by omega, rfl, rfl, HOk.out.symm, by omega, by rw [HH.out]; exact hb6, by rw [HT.out]; exact HO6.out, B6⟩
                case measure => simp [intOf]; omega
              · have HH := Lib.hid (head_next (ps := ps) (j := j) (by omega) (by omega))
                have HT := Lib.hid (tail_next (ps := ps) (j := j) (by omega) (by omega))
                rw [← hval] at HT
                have d6 : ((j : Int) == 0) = false := beq_eq_false_iff_ne.2 (by omega)
                have d6n : (j == 0) = false := beq_eq_false_iff_ne.2 (by omega)
                obtain ⟨i0, hi0, hz0, hz1, hz2⟩ := info_parts info_int
                have HZ := Lib.hid hz0; have HI0 := Lib.hid hi0; have H1 := Lib.hid hz1; have H2 := Lib.hid hz2
                clear hz0 hi0 hz1 hz2
                have hg2 : wr.cell? ⟨w4.heap.size, 2, none⟩ = some (.slice A m5 c5) := by rw [block_cell hb5]; rfl
                have hgn := heap_alloc_new wr (.cells #[.int .i64 (v : Int)] 3)
                have HOA : Hid ((wr.alloc (.cells #[.int .i64 (v : Int)] 3)).ownsRow (w4.heap.size + 1) 3 1 (.slice A m5 c5) m5 (intCells (ints (tailAt ps j)))) := HO5.out.alloc _
                have BA : Below w4.heap.size w4 (wr.alloc (.cells #[.int .i64 (v : Int)] 3)) := B5.alloc B5.size _
                have hlt5 : w4.heap.size < wr.heap.size := block_lt hb5
                have hbA := (Below.heap_alloc wr (.cells #[.int .i64 (v : Int)] 3) _ hlt5).trans hb5
                have HSr : Hid (0 < 1 → ∃ ad, some (⟨wr.heap.size, 0, none⟩ : Addr) = some ad ∧ ∀ j u, ([.int .i64 (v : Int)] : List Value)[j]? = some u → (wr.alloc (.cells #[.int .i64 (v : Int)] 3)).cell? (ad.add j) = some u) := fun _ =>
                  ⟨_, rfl, World.news_of_block (cs := #[.int .i64 (v : Int)]) (t := 3) (fr := (0, 0)) hgn⟩
                have l2 : m5 + 1 ≤ maxLen := by simp only [maxLen]; omega
                have l3 : (m5 + 1) * 8 ≤ 140737488355328 := by omega
                have hsz : w4.heap.size + 1 ≤ (wr.alloc (.cells #[.int .i64 (v : Int)] 3)).heap.size := by simp; omega
                have l4 : ∀ u ∈ ([.int .i64 (v : Int)] : List Value), u.oneCell' = true := by simp [Value.oneCell']
                clear hgn HO5 B5 hb5 hval
                go_wp2_with (first | (at_builtin; refine wpList_append_held _ rfl (.tmp 96) (.tmp 99) 28 rfl (w4.heap.size + 1) 3 i0 _ 8 Tryd.underlying28 HI0.out HZ.out H1.out H2.out rfl _ m5 _ rfl HOA.out (some ⟨wr.heap.size, 0, none⟩) 1 1 [.int .i64 (v : Int)] rfl rfl HSr.out l4 l2 l3 hsz ?_))
                intro A9 c9 w9 ho9 hg9 _
                have hb9 := (hg9.block _ (by omega) (fun h => by have := (HOA.out.lt _ h.symm).1; omega)).trans hbA
                have B9 : Below w4.heap.size w4 w9 := BA.grown hg9 BA.size (fun k hk => Nat.le_of_succ_le (HOA.out.lt k hk).1)
                have HO9 : Hid (w9.ownsRow (w4.heap.size + 1) 3 1 (.slice A9 (m5 + 1) c9) (m5 + 1) (intCells (ints (tailAt ps (j + 1))))) := by
                  rw [HT.out, ints_append]
                  unfold intCells
                  rw [List.map_append]
                  exact ho9.out
                clear ho9 hg9 HOA BA hbA HSr hsz l4 l2 l3 hg2 HT
                have hb10 := two_set (b := .slice A9 (m5 + 1) c9) hb9
                have B10 : Below w4.heap.size w4 (w9.setCell ⟨w4.heap.size, 2, none⟩ (.slice A9 (m5 + 1) c9)) := B9.setCell (p := ⟨w4.heap.size, 2, none⟩) (Nat.le_refl _) _
                have HO10 : Hid ((w9.setCell ⟨w4.heap.size, 2, none⟩ (.slice A9 (m5 + 1) c9)).ownsRow (w4.heap.size + 1) 3 1 (.slice A9 (m5 + 1) c9) (m5 + 1) (intCells (ints (tailAt ps (j + 1))))) := ownsRow_setCell_below HO9.out (Nat.lt_succ_self _) _
                have hf2 := block_frozen hb9 2
                have hg2 : w9.cell? ⟨w4.heap.size, 2, none⟩ = some (.slice A m5 c5) := by rw [block_cell hb9]; rfl
                rw [← HH.out] at hb10
                clear HO9 HH B9 hb9
                go_wp2_with fail
                generalize w9.setCell ⟨w4.heap.size, 2, none⟩ (.slice A9 (m5 + 1) c9) = w10 at *
                go_roundw
                case rel => exact ⟨j + 1, is, A9, m5 + 1, c9, by omega, rfl, ret_val (by omega), HOk.out.symm, by omega, hb10, HO10.out, B10⟩
                case measure => simp [intOf]; omega
            | false =>
              rw [Bool.false_and] at HOk
              by_cases hj0 : j = 0
              · obtain rfl : j = 0 := by omega
                have HH := Lib.hid (head_first (ps := ps) (by omega))
                rw [← hval] at HH
                have hb6 := one_set (b := .int .i64 (v : Int)) hb5
                have B6 : Below w4.heap.size w4 (wr.setCell ⟨w4.heap.size, 1, none⟩ (.int .i64 (v : Int))) := B5.setCell (p := ⟨w4.heap.size, 1, none⟩) (Nat.le_refl _) _
                have HO6 : Hid ((wr.setCell ⟨w4.heap.size, 1, none⟩ (.int .i64 (v : Int))).ownsRow (w4.heap.size + 1) 3 1 (.slice A m5 c5) m5 (intCells (ints (tailAt ps 0)))) := ownsRow_setCell_below HO5.out (Nat.lt_succ_self _) _
                have hf1 := block_frozen hb5 1
                have hg1 : wr.cell? ⟨w4.heap.size, 1, none⟩ = some (.int .i64 (headOf ps 0 : Int)) := by rw [block_cell hb5]; rfl
                have HT : Hid (tailAt ps 1 = tailAt ps 0) := show _ = _ by rw [tail_first.1, tail_first.2]
                clear hval HO5
                go_wp2_with fail
                generalize wr.setCell ⟨w4.heap.size, 1, none⟩ (.int .i64 (v : Int)) = w6 at *
                go_roundw
                case rel => exact ⟨1, false, A, m5, c5, by omega, rfl, rfl, HOk.out.symm, by omega, by rw [HH.out]; exact hb6, by rw [HT.out]; exact HO6.out, B6⟩
                case measure => simp [intOf]; omega
              · have HH := Lib.hid (head_next (ps := ps) (j := j) (by omega) (by omega))
                have HT := Lib.hid (tail_next (ps := ps) (j := j) (by omega) (by omega))
                rw [← hval] at HT
                have d6 : ((j : Int) == 0) = false := beq_eq_false_iff_ne.2 (by omega)
                have d6n : (j == 0) = false := beq_eq_false_iff_ne.2 (by omega)
                obtain ⟨i0, hi0, hz0, hz1, hz2⟩ := info_parts info_int
                have HZ := Lib.hid hz0; have HI0 := Lib.hid hi0; have H1 := Lib.hid hz1; have H2 := Lib.hid hz2
                clear hz0 hi0 hz1 hz2
                have hg2 : wr.cell? ⟨w4.heap.size, 2, none⟩ = some (.slice A m5 c5) := by rw [block_cell hb5]; rfl
                have hgn := heap_alloc_new wr (.cells #[.int .i64 (v : Int)] 3)
                have HOA : Hid ((wr.alloc (.cells #[.int .i64 (v : Int)] 3)).ownsRow (w4.heap.size + 1) 3 1 (.slice A m5 c5) m5 (intCells (ints (tailAt ps j)))) := HO5.out.alloc _
                have BA : Below w4.heap.size w4 (wr.alloc (.cells #[.int .i64 (v : Int)] 3)) := B5.alloc B5.size _
                have hlt5 : w4.heap.size < wr.heap.size := block_lt hb5
                have hbA := (Below.heap_alloc wr (.cells #[.int .i64 (v : Int)] 3) _ hlt5).trans hb5
                have HSr : Hid (0 < 1 → ∃ ad, some (⟨wr.heap.size, 0, none⟩ : Addr) = some ad ∧ ∀ j u, ([.int .i64 (v : Int)] : List Value)[j]? = some u → (wr.alloc (.cells #[.int .i64 (v : Int)] 3)).cell? (ad.add j) = some u) := fun _ =>
                  ⟨_, rfl, World.news_of_block (cs := #[.int .i64 (v : Int)]) (t := 3) (fr := (0, 0)) hgn⟩
                have l2 : m5 + 1 ≤ maxLen := by simp only [maxLen]; omega
                have l3 : (m5 + 1) * 8 ≤ 140737488355328 := by omega
                have hsz : w4.heap.size + 1 ≤ (wr.alloc (.cells #[.int .i64 (v : Int)] 3)).heap.size := by simp; omega
                have l4 : ∀ u ∈ ([.int .i64 (v : Int)] : List Value), u.oneCell' = true := by simp [Value.oneCell']
                clear hgn HO5 B5 hb5 hval
                go_wp2_with (first | (at_builtin; refine wpList_append_held _ rfl (.tmp 96) (.tmp 99) 28 rfl (w4.heap.size + 1) 3 i0 _ 8 Tryd.underlying28 HI0.out HZ.out H1.out H2.out rfl _ m5 _ rfl HOA.out (some ⟨wr.heap.size, 0, none⟩) 1 1 [.int .i64 (v : Int)] rfl rfl HSr.out l4 l2 l3 hsz ?_))
                intro A9 c9 w9 ho9 hg9 _
                have hb9 := (hg9.block _ (by omega) (fun h => by have := (HOA.out.lt _ h.symm).1; omega)).trans hbA
                have B9 : Below w4.heap.size w4 w9 := BA.grown hg9 BA.size (fun k hk => Nat.le_of_succ_le (HOA.out.lt k hk).1)
                have HO9 : Hid (w9.ownsRow (w4.heap.size + 1) 3 1 (.slice A9 (m5 + 1) c9) (m5 + 1) (intCells (ints (tailAt ps (j + 1))))) := by
                  rw [HT.out, ints_append]
                  unfold intCells
                  rw [List.map_append]
                  exact ho9.out
                clear ho9 hg9 HOA BA hbA HSr hsz l4 l2 l3 hg2 HT
                have hb10 := two_set (b := .slice A9 (m5 + 1) c9) hb9
                have B10 : Below w4.heap.size w4 (w9.setCell ⟨w4.heap.size, 2, none⟩ (.slice A9 (m5 + 1) c9)) := B9.setCell (p := ⟨w4.heap.size, 2, none⟩) (Nat.le_refl _) _
                have HO10 : Hid ((w9.setCell ⟨w4.heap.size, 2, none⟩ (.slice A9 (m5 + 1) c9)).ownsRow (w4.heap.size + 1) 3 1 (.slice A9 (m5 + 1) c9) (m5 + 1) (intCells (ints (tailAt ps (j + 1))))) := ownsRow_setCell_below HO9.out (Nat.lt_succ_self _) _
                have hf2 := block_frozen hb9 2
                have hg2 : w9.cell? ⟨w4.heap.size, 2, none⟩ = some (.slice A m5 c5) := by rw [block_cell hb9]; rfl
                rw [← HH.out] at hb10
                clear HO9 HH B9 hb9
                go_wp2_with fail
                generalize w9.setCell ⟨w4.heap.size, 2, none⟩ (.slice A9 (m5 + 1) c9) = w10 at *
                go_roundw
                case rel => exact ⟨j + 1, false, A9, m5 + 1, c9, by omega, rfl, ret_val (by omega), HOk.out.symm, by omega, hb10, HO10.out, B10⟩
                case measure => simp [intOf]; omega
          · obtain rfl : j = m := by omega
            have d2 : decide ((j : Int) < (j : Int)) = false := by simp
            have hT : ps.take j = ps := List.take_of_length_le (by omega)
            have HPe2 : Hid (r = if okAt ok0 ps j = true then some (e0, headOf ps j, tailAt ps j) else none) := show _ = _ by
              rw [HR.out, HPe.out]
              unfold okAt headOf tailAt
              rw [hT]
            have hbR : wr.heap[w.heap.size]? = some (.cells #[.int .i64 0, .int .i64 0, .slice none 0 0] 30) := (B5.block _ hlt4).trans hb4
            have BR : Below w.heap.size w wr := B4.trans (B5.mono B4.size)
            have f0 := block_frozen hbR 0; have f1' := block_frozen hbR 1; have f2 := block_frozen hbR 2
            have g0 : wr.cell? ⟨w.heap.size, 0, none⟩ = some (.int .i64 0) := by rw [block_cell hbR]; rfl
            have g1 : wr.cell? ⟨w.heap.size, 1, none⟩ = some (.int .i64 0) := by rw [block_cell hbR]; rfl
            have g2 : wr.cell? ⟨w.heap.size, 2, none⟩ = some (.slice none 0 0) := by rw [block_cell hbR]; rfl
            rw [← hbk] at HPe2
            clear hbk HPe HPl HPn hplen
            cases b with
            | false =>
              have HE : Hid (r = none) := show _ = _ by rw [HPe2.out]; rfl
              have hb7 := three_set (a := .int .i64 0) (b := .int .i64 0) (c := .slice none 0 0) hbR
              have B7 := below_three BR (g := w.heap.size) (Nat.le_refl _) (.int .i64 0) (.int .i64 0) (.slice none 0 0)
              clear HPe2 HO5 hb5
              go_wp2_with fail
              try simp only [Exit.inBlock, Exit.then]
              refine bodyPost_ret (results_row2 rfl _ _ w.heap.size _ rfl (load_fault hb7)) rfl ?_
              exact gotF_none HE.out B7
            | true =>
              have HE : Hid (r = some (e0, headOf ps j, tailAt ps j)) := show _ = _ by rw [HPe2.out]; rfl
              generalize headOf ps j = a0 at *
              generalize tailAt ps j = q0 at *
              have k0 : wr.cell? ⟨w4.heap.size, 0, none⟩ = some (.int .i64 (e0 : Int)) := by rw [block_cell hb5]; rfl
              have k1 : wr.cell? ⟨w4.heap.size, 1, none⟩ = some (.int .i64 (a0 : Int)) := by rw [block_cell hb5]; rfl
              have k2 : wr.cell? ⟨w4.heap.size, 2, none⟩ = some (.slice A m5 c5) := by rw [block_cell hb5]; rfl
              have hb7 := three_set (a := .int .i64 (e0 : Int)) (b := .int .i64 (a0 : Int)) (c := .slice A m5 c5) hbR
              have B7 := below_three BR (g := w.heap.size) (Nat.le_refl _) (.int .i64 (e0 : Int)) (.int .i64 (a0 : Int)) (.slice A m5 c5)
              have HI7 : Hid (Ints (((wr.setCell ⟨w.heap.size, 0, none⟩ (.int .i64 (e0 : Int))).setCell ⟨w.heap.size, 1, none⟩ (.int .i64 (a0 : Int))).setCell ⟨w.heap.size, 2, none⟩ (.slice A m5 c5)) (· < (((wr.setCell ⟨w.heap.size, 0, none⟩ (.int .i64 (e0 : Int))).setCell ⟨w.heap.size, 1, none⟩ (.int .i64 (a0 : Int))).setCell ⟨w.heap.size, 2, none⟩ (.slice A m5 c5)).heap.size) A m5 (ints q0)) :=
                own_ints (ownsRow_setCell_below (ownsRow_setCell_below (ownsRow_setCell_below HO5.out (Nat.lt_succ_of_lt hlt4) _) (Nat.lt_succ_of_lt hlt4) _) (Nat.lt_succ_of_lt hlt4) _)
              clear HPe2 HO5 hb5
              go_wp2_with fail
              try simp only [Exit.inBlock, Exit.then]
              refine bodyPost_ret (results_row2 rfl _ _ w.heap.size _ rfl (load_fault hb7)) rfl ?_
              exact gotF_some HE.out HI7.out B7
    · have d0 : decide ((i : Int) ≤ (s.length : Int)) = true := by rw [← HN.out]; simp; omega
      have d0n : decide (i ≤ s.length) = true := by rw [← HN.out]; simp; omega
      rcases HCt.out.name with hnm | ⟨k, f, hnm, hfr, hk, hf⟩
      · subst hnm
        by_cases hlt : i < N
        · have d1 : decide ((i : Int) < (s.length : Int)) = true := by rw [← HN.out]; simp; omega
          have d1n : decide (i < s.length) = true := by rw [← HN.out]; simp; omega
          have x1 := at_txt s .i64 (i : Int) i rfl (by rw [← HN.out]; exact hlt) wr
          by_cases hc : s.getD i 0 = 64
          · rw [hc] at x1
            obtain ⟨hps, hnx⟩ := HCt.out.hit (by rw [← HN.out]; exact hlt) hc
            have HNx := Lib.hid hnx
            clear hc hnx hps HCt
            go_wp2_with fail
            go_roundw
            case rel => exact ⟨i + 1, (i : Int), (i : Int) + 1, ps, A, m, c, by rw [← HN.out]; omega, rfl, ret_val (by omega), rfl, ret_val (by omega), by omega, HOw.out, HNx.out, hb2, B2⟩
            case measure => simp [intOf]; omega
          · have HNx := Lib.hid (HCt.out.miss (fun _ => hc))
            have d2 : (((s.getD i 0).toNat : Int) == 64) = false := beq_eq_false_iff_ne.2 (fun e => hc (UInt8.toNat_inj.1 (by show _ = 64; omega)))
            generalize s.getD i 0 = ch at x1 d2
            clear hc HCt
            go_wp2_with fail
            go_roundw
            case rel => exact ⟨i + 1, -1, fr, ps, A, m, c, by rw [← HN.out]; omega, rfl, rfl, rfl, ret_val (by omega), by omega, HOw.out, HNx.out, hb2, B2⟩
            case measure => simp [intOf]; omega
        · have d1 : decide ((i : Int) < (s.length : Int)) = false := by rw [← HN.out]; simp; omega
          have d1n : decide (i < s.length) = false := by rw [← HN.out]; simp; omega
          have HNx := Lib.hid (HCt.out.miss (fun h => absurd h (by rw [← HN.out]; exact hlt)))
          clear HCt
          go_wp2_with fail
          go_roundw
          case rel => exact ⟨i + 1, -1, fr, ps, A, m, c, by rw [← HN.out]; omega, rfl, rfl, rfl, ret_val (by omega), by omega, HOw.out, HNx.out, hb2, B2⟩
          case measure => simp [intOf]; omega
      · subst hnm
        subst hfr
        have d2 : decide ((k : Int) < 0) = false := by simp
        have d3 : decide (0 ≤ (k : Int)) = true := by simp
        by_cases hlt : i < N
        · have d1 : decide ((i : Int) < (s.length : Int)) = true := by rw [← HN.out]; simp; omega
          have d1n : decide (i < s.length) = true := by rw [← HN.out]; simp; omega
          have d4 : ((i : Int) == (s.length : Int)) = false := by rw [← HN.out]; exact beq_eq_false_iff_ne.2 (by omega)
          have d4n : (i == s.length) = false := by rw [← HN.out]; exact beq_eq_false_iff_ne.2 (by omega)
          have x1 := at_txt s .i64 (i : Int) i rfl (by rw [← HN.out]; exact hlt) wr
          by_cases hc : s.getD i 0 = 47
          · rw [hc] at x1
            obtain ⟨hfi, hnx⟩ := HCt.out.lay (by rw [← HN.out]; omega) (fun h => hc)
            have HNx := Lib.hid hnx
            have hsl := slice_text s f i hfi (by rw [← HN.out]; omega) wr
            generalize (s.drop f).take (i - f) = p at hsl HNx
            obtain ⟨i0, hi0, hz0, hz1, hz2⟩ := info_parts info_str
            have HZ := Lib.hid hz0; have HI0 := Lib.hid hi0; have H1 := Lib.hid hz1; have H2 := Lib.hid hz2
            clear hz0 hi0 hz1 hz2
            have hgn := heap_alloc_new wr (.cells #[.string ⟨p.toArray⟩] 9)
            have HOA : Hid ((wr.alloc (.cells #[.string ⟨p.toArray⟩] 9)).ownsRow (w.heap.size + 1) 9 1 (.slice A m c) m (strCells ps)) := HOw.out.alloc _
            have BA : Below w.heap.size w (wr.alloc (.cells #[.string ⟨p.toArray⟩] 9)) := B2.alloc B2.size _
            have hlt : w.heap.size < wr.heap.size := block_lt hb2
            have hbA : (wr.alloc (.cells #[.string ⟨p.toArray⟩] 9)).heap[w.heap.size]? = some (.cells #[.int .i64 0, .int .i64 0, .slice none 0 0] 30) := (Below.heap_alloc _ _ _ hlt).trans hb2
            have HSr : Hid (0 < 1 → ∃ ad, some (⟨wr.heap.size, 0, none⟩ : Addr) = some ad ∧ ∀ j u, ([.string ⟨p.toArray⟩] : List Value)[j]? = some u → (wr.alloc (.cells #[.string ⟨p.toArray⟩] 9)).cell? (ad.add j) = some u) := fun _ =>
              ⟨_, rfl, World.news_of_block (cs := #[.string ⟨p.toArray⟩]) (t := 9) (fr := (0, 0)) hgn⟩
            have l2 : m + 1 ≤ maxLen := by simp only [maxLen]; omega
            have l3 : (m + 1) * 16 ≤ 140737488355328 := by omega
            have hsz : w.heap.size + 1 ≤ (wr.alloc (.cells #[.string ⟨p.toArray⟩] 9)).heap.size := by simp; omega
            have l4 : ∀ u ∈ ([.string ⟨p.toArray⟩] : List Value), u.oneCell' = true := by simp [Value.oneCell']
            clear hgn HOw B2 hb2 HCt
            go_wp2_with (first | (at_builtin; refine wpList_append_held _ rfl (.tmp 51) (.tmp 56) 40 rfl (w.heap.size + 1) 9 i0 _ 16 Tryd.underlying40 HI0.out HZ.out H1.out H2.out rfl _ m _ rfl HOA.out (some ⟨wr.heap.size, 0, none⟩) 1 1 [.string ⟨p.toArray⟩] rfl rfl HSr.out l4 l2 l3 hsz ?_))
            intro A5 c5 w9 ho9 hg9 _
            obtain ⟨o9, hb9, B9⟩ := more_piece BA hbA HOA.out ho9.out hg9
            have HO9 := Lib.hid o9
            clear ho9 hg9 HOA BA hbA HSr hsz l4 l2 l3 o9 hsl
            go_wp2_with fail
            go_roundw
            case rel => exact ⟨i + 1, (k : Int), (i : Int) + 1, ps ++ [p], A5, m + 1, c5, by rw [← HN.out]; omega, rfl, ret_val (by omega), rfl, ret_val (by omega), by omega, HO9.out, HNx.out, hb9, B9⟩
            case measure => simp [intOf]; omega
          · have HNx := Lib.hid (HCt.out.on (by rw [← HN.out]; exact hlt) hc)
            have d5 : (((s.getD i 0).toNat : Int) == 47) = false := beq_eq_false_iff_ne.2 (fun e => hc (UInt8.toNat_inj.1 (by show _ = 47; omega)))
            generalize s.getD i 0 = ch at x1 d5
            clear hc HCt
            go_wp2_with fail
            go_roundw
            case rel => exact ⟨i + 1, (k : Int), (f : Int), ps, A, m, c, by rw [← HN.out]; omega, rfl, rfl, rfl, ret_val (by omega), by omega, HOw.out, HNx.out, hb2, B2⟩
            case measure => simp [intOf]; omega
        · have d1 : decide ((i : Int) < (s.length : Int)) = false := by rw [← HN.out]; simp; omega
          have d1n : decide (i < s.length) = false := by rw [← HN.out]; simp; omega
          have d4 : ((i : Int) == (s.length : Int)) = true := by rw [← HN.out]; simp; omega
          have d4n : (i == s.length) = true := by rw [← HN.out]; simp; omega
          obtain ⟨hfi, hnx⟩ := HCt.out.lay (by rw [← HN.out]; omega) (fun h => absurd h (by rw [← HN.out]; exact hlt))
          have HNx := Lib.hid hnx
          have hsl := slice_text s f i hfi (by rw [← HN.out]; omega) wr
          generalize (s.drop f).take (i - f) = p at hsl HNx
          obtain ⟨i0, hi0, hz0, hz1, hz2⟩ := info_parts info_str
          have HZ := Lib.hid hz0; have HI0 := Lib.hid hi0; have H1 := Lib.hid hz1; have H2 := Lib.hid hz2
          clear hz0 hi0 hz1 hz2
          have hgn := heap_alloc_new wr (.cells #[.string ⟨p.toArray⟩] 9)
          have HOA : Hid ((wr.alloc (.cells #[.string ⟨p.toArray⟩] 9)).ownsRow (w.heap.size + 1) 9 1 (.slice A m c) m (strCells ps)) := HOw.out.alloc _
          have BA : Below w.heap.size w (wr.alloc (.cells #[.string ⟨p.toArray⟩] 9)) := B2.alloc B2.size _
          have hlt : w.heap.size < wr.heap.size := block_lt hb2
          have hbA : (wr.alloc (.cells #[.string ⟨p.toArray⟩] 9)).heap[w.heap.size]? = some (.cells #[.int .i64 0, .int .i64 0, .slice none 0 0] 30) := (Below.heap_alloc _ _ _ hlt).trans hb2
          have HSr : Hid (0 < 1 → ∃ ad, some (⟨wr.heap.size, 0, none⟩ : Addr) = some ad ∧ ∀ j u, ([.string ⟨p.toArray⟩] : List Value)[j]? = some u → (wr.alloc (.cells #[.string ⟨p.toArray⟩] 9)).cell? (ad.add j) = some u) := fun _ =>
            ⟨_, rfl, World.news_of_block (cs := #[.string ⟨p.toArray⟩]) (t := 9) (fr := (0, 0)) hgn⟩
          have l2 : m + 1 ≤ maxLen := by simp only [maxLen]; omega
          have l3 : (m + 1) * 16 ≤ 140737488355328 := by omega
          have hsz : w.heap.size + 1 ≤ (wr.alloc (.cells #[.string ⟨p.toArray⟩] 9)).heap.size := by simp; omega
          have l4 : ∀ u ∈ ([.string ⟨p.toArray⟩] : List Value), u.oneCell' = true := by simp [Value.oneCell']
          clear hgn HOw B2 hb2 HCt
          go_wp2_with (first | (at_builtin; refine wpList_append_held _ rfl (.tmp 51) (.tmp 56) 40 rfl (w.heap.size + 1) 9 i0 _ 16 Tryd.underlying40 HI0.out HZ.out H1.out H2.out rfl _ m _ rfl HOA.out (some ⟨wr.heap.size, 0, none⟩) 1 1 [.string ⟨p.toArray⟩] rfl rfl HSr.out l4 l2 l3 hsz ?_))
          intro A5 c5 w9 ho9 hg9 _
          obtain ⟨o9, hb9, B9⟩ := more_piece BA hbA HOA.out ho9.out hg9
          have HO9 := Lib.hid o9
          clear ho9 hg9 HOA BA hbA HSr hsz l4 l2 l3 o9 hsl
          go_wp2_with fail
          go_roundw
          case rel => exact ⟨i + 1, (k : Int), (i : Int) + 1, ps ++ [p], A5, m + 1, c5, by rw [← HN.out]; omega, rfl, ret_val (by omega), rfl, ret_val (by omega), by omega, HO9.out, HNx.out, hb9, B9⟩
          case measure => simp [intOf]; omega

end Go.Proofs.YtbfneeggfaoeaaaDoor
