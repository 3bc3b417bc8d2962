/-
  What the document's SameInts does; the law's first question is answered true. No condition beyond what each contract says.
-/
import Derived.Test.YtdclgdpifamomaaWaveI
namespace Go.Proofs.Ytdclgdpifamomaa
open Go.RowKit

/-- Behind k numbers that are alike. -/
def Alike (xs ys : List Int) (k : Nat) : Prop := ∀ i, i < k → xs.getD i 0 = ys.getD i 0
theorem alike_all {xs ys : List Int} (hl : xs.length = ys.length) (h : Alike xs ys xs.length) : xs = ys := by
  apply List.ext_getElem hl
  intro i h1 h2
  have := h i h1
  simpa [List.getD, h1, h2] using this

set_option maxHeartbeats 2000000 in
theorem sameInts_any (A : Option Addr) (n c : Nat) (xs : List Int) (B : Option Addr) (m d : Nat) (ys : List Int) (w : World) (h1 : Ints w (· < w.heap.size) A n xs) (h2 : Ints w (· < w.heap.size) B m ys) (hn : n ≤ 1000000000) (hm : m ≤ 1000000000) :
    Calls Try.prog 16 #[.slice A n c, .slice B m d] w fun x w' => x = .returned (.bool (decide (xs = ys))) ∧ Below w.heap.size w w' := by
  obtain ⟨r, hr⟩ : ∃ r, r = decide (xs = ys) := ⟨_, rfl⟩
  rw [← hr]
  have HR := Lib.hid hr
  have H1 := Lib.hid h1
  have H2 := Lib.hid h2
  clear hr h1 h2
  by_cases hnm : n = m
  · have d0 : ((n : Int) != (m : Int)) = false := by simp [hnm]
    have d0n : (n != m) = false := by simpa using hnm
    have HNm := Lib.hid hnm
    clear hnm
    go_enter Try.func16, Try.ntmps16
    go_wp2_with fail
    go_loopw [5] (fun i wr => Below w.heap.size w wr ∧ ∃ k : Nat, k ≤ n ∧ i = .int .i64 (k : Int) ∧ Alike xs ys k) (fun i _ => n - (intOf i).toNat)
    case atStart => exact ⟨Below.refl _ _, 0, by omega, rfl, fun i hi => absurd hi (by omega)⟩
    case round =>
      obtain ⟨Br, k, hk, rfl, hal⟩ := hrel
      have HAl := Lib.hid hal
      clear hal
      by_cases hlt : k < n
      · have d1 : decide ((k : Int) < (n : Int)) = true := by simp; omega
        have d1n : decide (k < n) = true := by simp; omega
        have hkm : k < m := by have := HNm.out; omega
        obtain ⟨b0, o, rfl, m1, hc⟩ := H1.out.2 (by omega)
        obtain ⟨b1, p, rfl, m2, hd⟩ := H2.out.2 (by omega)
        have x1 := (Br.cell (p := ⟨b0, o + k, none⟩) m1).trans (hc k hlt)
        have x2 := (Br.cell (p := ⟨b1, p + k, none⟩) m2).trans (hd k hkm)
        clear hc hd m1 m2
        by_cases he : xs.getD k 0 = ys.getD k 0
        · have HA2 : Hid (Alike xs ys (k + 1)) := fun i hi => by
            by_cases hik : i < k
            · exact HAl.out i hik
            · obtain rfl : i = k := by omega
              exact he
          have e1 : (xs.getD k 0 != ys.getD k 0) = false := by simpa using he
          generalize xs.getD k 0 = x at *
          generalize ys.getD k 0 = y at *
          clear he HAl
          go_wp2_with fail
          go_quiet (fail)
          have BD : Below w.heap.size w (wr.drewN nq) := drawn_below Br _
          generalize wr.drewN nq = wd at *
          go_wp2_with fail
          go_roundw
          case rel => exact ⟨BD, k + 1, by omega, ret_val (by omega), HA2.out⟩
          case measure => simp [intOf]; omega
        · have HE : Hid (r = false) := show _ = _ by
            rw [HR.out]
            exact decide_eq_false (fun h => he (by rw [h]))
          have e1 : (xs.getD k 0 != ys.getD k 0) = true := by simpa using he
          generalize xs.getD k 0 = x at *
          generalize ys.getD k 0 = y at *
          clear he HAl
          go_wp2_with fail
          go_quiet (fail)
          have BD : Below w.heap.size w (wr.drewN nq) := drawn_below Br _
          generalize wr.drewN nq = wd at *
          go_wp2_with fail
          go_ret
          exact ⟨by rw [HE.out]; rfl, BD⟩
      · obtain rfl : k = n := by omega
        have d1 : decide ((k : Int) < (k : Int)) = false := by simp
        have HE : Hid (r = true) := show _ = _ by
          rw [HR.out]
          refine decide_eq_true (alike_all ?_ ?_)
          · rw [H1.out.1, H2.out.1]; exact HNm.out
          · rw [H1.out.1]; exact HAl.out
        go_wp2_with fail
        go_ret
        exact ⟨by rw [HE.out]; rfl, Br⟩
  · have d0 : ((n : Int) != (m : Int)) = true := bne_iff_ne.2 (by omega)
    have d0n : (n != m) = true := by simpa using hnm
    have HE : Hid (r = false) := show _ = _ by
      rw [HR.out]
      exact decide_eq_false (fun h => hnm (by rw [← H1.out.1, ← H2.out.1, h]))
    clear hnm
    go_enter Try.func16, Try.ntmps16
    go_wp2_with fail
    go_ret
    exact ⟨by rw [HE.out]; rfl, Below.refl _ _⟩

theorem row_ints (w : World) (l : List Int) (t : TypeId) (n : Nat) (hl : l.length = n) : Ints (w.alloc (.cells (intCells l).toArray t)) (· < (w.alloc (.cells (intCells l).toArray t)).heap.size) (some ⟨w.heap.size, 0, none⟩) n l :=
  ints_row (Row.new w t (intCells l)) hl
theorem dig_small (a b : Int) (ha : 0 ≤ a ∧ a ≤ 65535) (hb : 0 ≤ b ∧ b ≤ 65535) : Dig [a, b] := ⟨by simp, fun i hi => by
  match i, hi with
  | 0, _ => exact ha
  | 1, _ => exact hb⟩
theorem are_one : Are [(4607182418800017408, 0), (0, 0), (0, 0), (0, 0)] (fun k => if k = 0 then 1 else 0) (fun _ => 0) := by
  refine ⟨rfl, fun k hk => ?_⟩
  rcases lt4 hk with rfl | rfl | rfl | rfl
  · exact ⟨whole_1, whole_0⟩
  · exact ⟨whole_0, whole_0⟩
  · exact ⟨whole_0, whole_0⟩
  · exact ⟨whole_0, whole_0⟩

set_option maxHeartbeats 4000000 in
theorem awake_any (w : World) : Calls Try.prog 9 #[] w fun e w' => e = .returned (.bool true) ∧ Below w.heap.size w w' := by
  obtain ⟨us, hu, cF⟩ := four_any are_one (fun k _ => ⟨by unfold Fit; split <;> decide, by decide⟩)
  have CF := Lib.hid cF
  have hu3 : Whole (us.getD 3 (0, 0)).1 1 ∧ Whole (us.getD 3 (0, 0)).2 0 := ⟨(hu.2 3 (by omega)).1.cast (by decide), (hu.2 3 (by omega)).2.cast (by decide)⟩
  have cP := Lib.hid (parts_yes hu3.1 hu3.2 ⟨by decide, by decide⟩ ⟨by decide, by decide⟩)
  have hul := Lib.hid hu.1
  have R1 : Row ((w.alloc (Obj.cells #[.int .i64 1, .int .i64 2] 3)).alloc (Obj.cells #[.int .i64 3, .int .i64 4] 3)) w.heap.size 3 (intCells [1, 2]) := (Row.new w _ (intCells [1, 2])).past _
  have R2 : Row ((w.alloc (Obj.cells #[.int .i64 1, .int .i64 2] 3)).alloc (Obj.cells #[.int .i64 3, .int .i64 4] 3)) (w.heap.size + 1) 3 (intCells [3, 4]) := Row.new' (w.alloc _) _ (intCells [3, 4]) (by simp)
  have BW : Below w.heap.size w ((w.alloc (Obj.cells #[.int .i64 1, .int .i64 2] 3)).alloc (Obj.cells #[.int .i64 3, .int .i64 4] 3)) := ((Below.refl _ _).alloc (Nat.le_refl _) _).alloc (by simp) _
  have HR1 := Lib.hid R1; have HR2 := Lib.hid R2; have HBW := Lib.hid BW
  clear cF hu hu3 R1 R2 BW
  have cD : Hid (∀ W g1 g2, Row W g1 3 (intCells [1, 2]) → Row W g2 3 (intCells [3, 4]) → Calls Try.prog 15 #[.slice (some ⟨g1, 0, none⟩) 2 2, .slice (some ⟨g2, 0, none⟩) 2 2] W fun e w' => FoldR true [1, 2] [3, 4] W e w') := fun W g1 g2 h1 h2 =>
    fold_any _ 2 2 [1, 2] _ 2 2 [3, 4] _ (ints_row h1 rfl) (ints_row h2 rfl) (by decide) (by decide) true ⟨fun _ => ⟨dig_small 1 2 (by decide) (by decide), dig_small 3 4 (by decide) (by decide)⟩, fun _ => rfl⟩
  go_enter Try.func9, Try.ntmps9
  go_wp2_with fail
  generalize (w.alloc (Obj.cells #[.int .i64 1, .int .i64 2] 3)).alloc (Obj.cells #[.int .i64 3, .int .i64 4] 3) = W at *
  generalize w.heap.size + 1 = g2 at *
  refine (cD.out W _ _ HR1.out HR2.out).mono ?_
  rintro e w1 ⟨R, k, rfl, hI, B1⟩
  have B2 := HBW.out.trans (B1.mono HBW.out.size)
  have hF : foldL [1, 2] [3, 4] = [3, 10, 8] := by decide
  simp only [if_true, hF] at hI
  have k3 : k = 3 := by have := hI.1; simpa using this.symm
  subst k3
  have HI := Lib.hid hI; have HB2 := Lib.hid B2
  clear hI B1 B2 HR1 HR2 HBW cD hF
  go_wp2_with fail
  refine (CF.out _).mono ?_
  rintro e w2 ⟨rfl, B3⟩
  have HI2 := Lib.hid (HI.out.below B3)
  have B4 := HB2.out.trans (B3.mono HB2.out.size)
  have hm : Hid ((cx us).length = 4) := show _ = _ by rw [cx_length, hul.out]
  have hm3 : Hid ((Try.prog.info? 25).map (·.size) = some (cx us).toArray.size) := by show _ = _; rw [List.size_toArray]; exact size_four _ hm.out
  have one3 := Lib.hid (all_oneCell_toArray (cx_one us))
  have N1 : Row (w2.alloc (Obj.cells #[.complex .f64 0 0, .complex .f64 0 0, .complex .f64 0 0, .complex .f64 0 0] 25)) w2.heap.size 25 (cx noughts) := Row.new w2 _ (cx noughts)
  have th3 : Hid ((w2.alloc (Obj.cells #[.complex .f64 0 0, .complex .f64 0 0, .complex .f64 0 0, .complex .f64 0 0] 25)).there w2.heap.size 0 (cx us).toArray.size) := N1.there 0 _ (by rw [List.size_toArray, hm.out]; decide)
  have N2 : Row ((w2.alloc (Obj.cells #[.complex .f64 0 0, .complex .f64 0 0, .complex .f64 0 0, .complex .f64 0 0] 25)).setCells w2.heap.size 0 (cx us).toArray.toList) w2.heap.size 25 (cx us) := put_all hm.out N1
  have B5 := below_puts (b := w2.heap.size) ((Below.refl w2.heap.size w2).alloc (Nat.le_refl _) (Obj.cells #[.complex .f64 0 0, .complex .f64 0 0, .complex .f64 0 0, .complex .f64 0 0] 25)) (Nat.le_refl _) 0 (cx us).toArray.toList
  have B6 := B4.trans (B5.mono B4.size)
  have HI3 := Lib.hid (HI2.out.below B5)
  have c3 : ((w2.alloc (Obj.cells #[.complex .f64 0 0, .complex .f64 0 0, .complex .f64 0 0, .complex .f64 0 0] 25)).setCells w2.heap.size 0 (cx us).toArray.toList).cell? ⟨w2.heap.size, 3, none⟩ = some (.complex .f64 (us.getD 3 (0, 0)).1 (us.getD 3 (0, 0)).2) := (N2.cell 3).trans (cx_get us 3 (by rw [hul.out]; decide))
  have HB6 := Lib.hid B6
  clear N1 N2 B5 B6 B4 B3 HI HI2 HB2 CF
  generalize us.getD 3 (0, 0) = z at *
  generalize cx us = P2 at *
  go_wp2_with (first | (refine wpList_store_mid rfl 25 (.tmp 3) (.tmp 14) rfl w2.heap.size 0 P2.toArray rfl rfl th3.out hm3.out one3.out ?_))
  generalize (w2.alloc (Obj.cells #[.complex .f64 0 0, .complex .f64 0 0, .complex .f64 0 0, .complex .f64 0 0] 25)).setCells w2.heap.size 0 P2 = w5 at *
  clear c3 th3 hm hm3 one3
  refine (cP.out _).mono ?_
  rintro e v1 ⟨rfl, hw⟩; subst v1
  have R3 : Row (w5.alloc (Obj.cells #[.int .i64 3, .int .i64 10, .int .i64 8] 3)) w5.heap.size 3 (intCells [3, 10, 8]) := Row.new w5 _ (intCells [3, 10, 8])
  have B7 : Below w5.heap.size w5 (w5.alloc (Obj.cells #[.int .i64 3, .int .i64 10, .int .i64 8] 3)) := (Below.refl _ _).alloc (Nat.le_refl _) _
  have cS := Lib.hid (sameInts_any R 3 3 [3, 10, 8] _ 3 3 [3, 10, 8] _ (HI3.out.below B7) (ints_row R3 rfl) (by decide) (by decide))
  have HB7 := Lib.hid (HB6.out.trans (B7.mono HB6.out.size))
  clear R3 B7 HI3 HB6 cP
  go_wp2_with fail
  generalize w5.alloc (Obj.cells #[.int .i64 3, .int .i64 10, .int .i64 8] 3) = w6 at *
  refine cS.out.mono ?_
  rintro e w7 ⟨rfl, B8⟩
  have HB8 := Lib.hid (HB7.out.trans (B8.mono HB7.out.size))
  clear HB7 B8 cS
  go_wp2_with fail
  go_ret
  exact ⟨rfl, HB8.out⟩

end Go.Proofs.Ytdclgdpifamomaa
