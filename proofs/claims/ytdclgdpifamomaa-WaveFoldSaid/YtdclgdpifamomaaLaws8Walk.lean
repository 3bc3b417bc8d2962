/-
  The walk of the law WaveLaws: for all lists that came in. No condition.
-/
import Derived.Test.YtdclgdpifamomaaPoint8Walk
import Derived.Deep.AppendLies
import Derived.Deep.RegionLaw
namespace Go.Proofs.Ytdclgdpifamomaa
open Go.RowKit

theorem addL_snoc (ys zs : List Int) (i : Nat) (h : i < ys.length) : (addL ys zs).take (i + 1) = (addL ys zs).take i ++ [ys.getD i 0 + zs.getD i 0] := by
  have hl : i < (addL ys zs).length := by rw [addL_length]; exact h
  rw [List.take_succ_eq_append_getElem hl]
  congr 1
  have := addL_get ys zs i h
  simp only [List.getD, List.getElem?_eq_getElem hl, Option.getD_some] at this
  rw [this]
  rfl
theorem add_dig (ys zs : List Int) (h : (fewL ys).length ≤ 256) : Dig (addL (fewL ys) (fewL zs)) := ⟨by rw [addL_length]; exact h, fun i hi => by
  rw [addL_length] at hi
  rw [addL_get _ _ _ hi, fewL_get, fewL_get]
  omega⟩
theorem fold_bound {xs ys : List Int} (hx : Dig xs) (hy : Dig ys) (t : Nat) : 0 ≤ conv xs ys t ∧ conv xs ys t ≤ 281466386841600 := by
  have h := conv_bound (xs := xs) (ys := ys) (B := 4294836225) (by decide) (fun i j => prod_bound (dig_get hx i) (dig_get hy j)) t
  refine ⟨h.1, Int.le_trans h.2 ?_⟩
  have h1 : (ys.length : Int) * 4294836225 ≤ 1099478073600 := by have := hy.1; omega
  have h2 := Int.mul_le_mul (show (xs.length : Int) ≤ 256 by have := hx.1; omega) h1 (by omega) (by decide)
  exact Int.le_trans h2 (by decide)

/-- The law's loops. -/
def AddAt (W : World) (ys zs : List Int) (v10 v11 : Value) (wr : World) : Prop :=
  ∃ (i : Nat) (R : Option Addr) (c : Nat), i ≤ ys.length ∧ v10 = .slice R i c ∧ v11 = .int .i64 (i : Int) ∧ wr.ownsRow W.heap.size 3 1 (.slice R i c) i (intCells ((addL ys zs).take i)) ∧ Below W.heap.size W wr
def EachAt (W : World) (l : Nat) (v : Value) (wr : World) : Prop :=
  ∃ i : Nat, i ≤ l ∧ v = .int .i64 (i : Int) ∧ Below W.heap.size W wr

set_option maxHeartbeats 8000000 in
set_option maxRecDepth 100000 in
theorem waveLaws_main (A : Option Addr) (n c : Nat) (xs : List Int) (B : Option Addr) (m d : Nat) (ys : List Int) (C : Option Addr) (ec : Nat) (zs : List Int) (w : World)
    (h1 : Ints w (· < w.heap.size) A n xs) (h2 : Ints w (· < w.heap.size) B m ys) (h3 : Ints w (· < w.heap.size) C m zs) (n1 : 1 ≤ n) (n2 : n ≤ 100) (m1 : 1 ≤ m) (m2 : m ≤ 100) :
    Calls Try.prog 7 #[.slice A n c, .slice B m d, .slice C m ec] w fun e w' => e = .returned (.bool true) ∧ Below w.heap.size w w' := by
  have H1 := Lib.hid h1; have H2 := Lib.hid h2; have H3 := Lib.hid h3
  have nx := Lib.hid h1.1; have ny := Lib.hid h2.1; have nz := Lib.hid h3.1
  have d0 : decide ((n : Int) < 1) = false := by simp; omega
  have d1 : decide ((100 : Int) < (n : Int)) = false := by simp; omega
  have d2 : decide ((m : Int) < 1) = false := by simp; omega
  have d3 : decide ((100 : Int) < (m : Int)) = false := by simp; omega
  have d4 : ((m : Int) != (m : Int)) = false := by simp
  have N1 := Lib.hid n1; have M1 := Lib.hid m1
  clear h1 h2 h3 n1 m1
  go_enter Try.func7, Try.ntmps7
  go_wp2_with fail
  refine (awake_any w).mono ?_
  rintro e w1 ⟨rfl, B1⟩
  have c1 := Lib.hid (few_any A n c xs w1 (H1.out.below B1) (by omega))
  have H2' := Lib.hid (H2.out.below B1); have H3' := Lib.hid (H3.out.below B1); have HB1 := Lib.hid B1
  clear B1 H1 H2 H3
  go_wp2_with fail
  refine c1.out.mono ?_
  rintro e w2 ⟨R1, k1, rfl, I1, B2⟩
  have c2 := Lib.hid (few_any B m d ys w2 (H2'.out.below B2) (by omega))
  have H3 := Lib.hid (H3'.out.below B2); have HI1 := Lib.hid I1; have HB2 := Lib.hid (HB1.out.trans (B2.mono HB1.out.size))
  clear I1 B2 c1 H2' H3' HB1
  go_wp2_with fail
  refine c2.out.mono ?_
  rintro e w3 ⟨R2, k2, rfl, I2, B3⟩
  have c3 := Lib.hid (few_any C m ec zs w3 (H3.out.below B3) (by omega))
  have HJ1 := Lib.hid (HI1.out.below B3); have HI2 := Lib.hid I2; have HB3 := Lib.hid (HB2.out.trans (B3.mono HB2.out.size))
  clear I2 B3 c2 H3 HI1 HB2
  go_wp2_with fail
  refine c3.out.mono ?_
  rintro e w4 ⟨R3, k3, rfl, I3, B4⟩
  have X1 := Lib.hid (HJ1.out.below B4); have X2 := Lib.hid (HI2.out.below B4); have X3 := Lib.hid I3; have HB4 := Lib.hid (HB3.out.trans (B4.mono HB3.out.size))
  clear I3 B4 c3 HJ1 HI2 HB3
  go_wp2_with fail
  go_loopw [10, 11] (fun v10 v11 wr => AddAt w4 (fewL ys) (fewL zs) v10 v11 wr) (fun _ v11 _ => m - (intOf v11).toNat)
  case atStart => exact ⟨0, none, 0, by omega, rfl, rfl, World.ownsRow_nil _ _ _ _, Below.refl _ _⟩
  case round =>
    obtain ⟨i, R, k, hi, rfl, rfl, hO, Br⟩ := hrel
    rw [fewL_length, ny.out] at hi
    have HO := Lib.hid hO; have HBr := Lib.hid Br
    clear hO
    by_cases hlt : i < m
    · have t1 : decide ((i : Int) < (m : Int)) = true := by simp; omega
      have t1n : decide (i < m) = true := by simp; omega
      obtain ⟨b2, o2, rfl, q2, hc2⟩ := X2.out.2 (by omega)
      obtain ⟨b3, o3, rfl, q3, hc3⟩ := X3.out.2 (by omega)
      have x2 := (Br.cell (p := ⟨b2, o2 + i, none⟩) q2).trans (hc2 i hlt)
      have x3 := (Br.cell (p := ⟨b3, o3 + i, none⟩) q3).trans (hc3 i hlt)
      have HS := Lib.hid (addL_snoc (fewL ys) (fewL zs) i (by rw [fewL_length, ny.out]; exact hlt))
      have y1 : 0 ≤ (fewL ys).getD i 0 ∧ (fewL ys).getD i 0 ≤ 32767 := by rw [fewL_get]; omega
      have z1 : 0 ≤ (fewL zs).getD i 0 ∧ (fewL zs).getD i 0 ≤ 32767 := by rw [fewL_get]; omega
      generalize (fewL ys).getD i 0 = y at *
      generalize (fewL zs).getD i 0 = z at *
      have s3 : IntKind.i64.wrap (y + z) = y + z := IntWalk.i64_in _ (by omega)
      have s4 : wrap64 (y + z) = y + z := by unfold wrap64; omega
      obtain ⟨s, hs⟩ : ∃ s, s = y + z := ⟨_, rfl⟩
      rw [← hs] at HS s3 s4
      have s5 : y + z = s := hs.symm
      have s6 : wrap64 s = s := s4
      have s7 : IntKind.i64.wrap s = s := s3
      have j0 : (0 : Int) ≤ (i : Int) := by omega
      have jm : (i : Int) < (m : Int) := by omega
      obtain ⟨i0, hi0, hz0, hz1, hz2⟩ := info_parts info_int
      have HZ := Lib.hid hz0; have HI0 := Lib.hid hi0; have H1 := Lib.hid hz1; have H2 := Lib.hid hz2
      have HI := Lib.hid hlt
      clear hz0 hi0 hz1 hz2 hc2 hc3 q2 q3 y1 z1 hs s3 s4 hi
      go_wp2_with fail
      have L2 : i + 1 ≤ maxLen := by simp only [maxLen]; omega
      have L3 : (i + 1) * 8 ≤ 140737488355328 := by omega
      have hsz := Br.size
      go_region_law
        (first
          | (refine step_append_lies _ (by rfl) _ _ _ (by rfl) w4.heap.size 3 i0 _ 1 8 Try.underlying35 HI0.out HZ.out H1.out H2.out rfl (by omega) (.slice R i k) i _ (by rfl) ((HO.out.alloc _).drew)
              ⟨wr.heap.size, 0, none⟩ 1 1 [.int .i64 s] (by rfl) (by rfl) (World.news_of_block (cs := #[.int .i64 s]) (t := 3) (fr := (0, 0)) (heap_alloc_new wr _)) (by simp [Value.oneCell'])
              (by omega) L2 L3 (by simp; omega) (wr.heap.size + 1) (by simp) ?_; intro gg cap w5 hown1 hgrow hat hlt2))
      all_goals
        have B5 : Below w4.heap.size w4 w5 := (Br.alloc hsz _).drew.grown hgrow (by simp; omega) (fun k hk => (HO.out.lt k hk).1)
        have HO5 : Hid (w5.ownsRow w4.heap.size 3 1 (.slice (some ⟨gg, 0, none⟩) (i + 1) cap) (i + 1) (intCells ((addL (fewL ys) (fewL zs)).take (i + 1)))) := by
          rw [HS.out]
          unfold intCells
          rw [List.map_append]
          exact hown1
        clear hown1 hgrow hat hlt2
        go_wp2_with fail
        go_roundw
        case rel => exact ⟨i + 1, _, cap, by rw [fewL_length, ny.out]; exact HI.out, rfl, ret_val (by have := HI.out; omega), HO5.out, B5⟩
        case measure => simp [intOf]; have := HI.out; omega
    · obtain rfl : i = m := by omega
      have t1 : decide ((i : Int) < (i : Int)) = false := by simp
      have hO := HO.out
      rw [List.take_of_length_le (by rw [addL_length, fewL_length, ny.out]; exact Nat.le_refl _)] at hO
      have X4 := own_ints hO
      have Y1 := X1.out.below Br; have Y2 := X2.out.below Br; have Y3 := X3.out.below Br
      have HB5 := Lib.hid (HB4.out.trans (Br.mono HB4.out.size))
      have lx : (fewL xs).length = n := by rw [fewL_length, nx.out]
      have ly : (fewL ys).length = i := by rw [fewL_length, ny.out]
      have lz : (fewL zs).length = i := by rw [fewL_length, nz.out]
      have ls : (addL (fewL ys) (fewL zs)).length = i := by rw [addL_length, ly]
      have gx : Dig (fewL xs) := few_dig xs (by rw [nx.out]; omega)
      have gy : Dig (fewL ys) := few_dig ys (by rw [ny.out]; omega)
      have gz : Dig (fewL zs) := few_dig zs (by rw [nz.out]; omega)
      have gs : Dig (addL (fewL ys) (fewL zs)) := add_dig ys zs (by rw [ly]; omega)
      have nn := N1.out; have mm := M1.out
      have HC := Lib.hid (foldL_comm (fewL xs) (fewL ys))
      have f1 := foldL_length (fewL xs) (fewL ys) (by omega) (by omega)
      have f2 := foldL_length (fewL ys) (fewL xs) (by omega) (by omega)
      have f3 := foldL_length (fewL xs) (fewL zs) (by omega) (by omega)
      have f4 := foldL_length (fewL xs) (addL (fewL ys) (fewL zs)) (by omega) (by omega)
      have HSum : Hid (∀ j, j < n + i - 1 → (foldL (fewL xs) (fewL ys)).getD j 0 + (foldL (fewL xs) (fewL zs)).getD j 0 = (foldL (fewL xs) (addL (fewL ys) (fewL zs))).getD j 0) := fun j hj => by
        rw [foldL_get _ _ (by omega) (by omega) (by omega), foldL_get _ _ (by omega) (by omega) (by omega), foldL_get _ _ (by omega) (by omega) (by omega)]
        exact (conv_add _ _ _ (by omega) j).symm
      have HBd : Hid (∀ j, j < n + i - 1 → (0 ≤ (foldL (fewL xs) (fewL ys)).getD j 0 ∧ (foldL (fewL xs) (fewL ys)).getD j 0 ≤ 281466386841600) ∧ (0 ≤ (foldL (fewL xs) (fewL zs)).getD j 0 ∧ (foldL (fewL xs) (fewL zs)).getD j 0 ≤ 281466386841600)) := fun j hj => by
        rw [foldL_get _ _ (by omega) (by omega) (by omega), foldL_get _ _ (by omega) (by omega) (by omega)]
        exact ⟨fold_bound gx gy j, fold_bound gx gz j⟩
      have c1 := Lib.hid (fold_any R1 n k1 _ R2 i k2 _ wr Y1 Y2 (by omega) (by omega) true ⟨fun _ => ⟨gx, gy⟩, fun _ => rfl⟩)
      have GX := Lib.hid gx; have GY := Lib.hid gy; have GZ := Lib.hid gz; have GS := Lib.hid gs
      have HY1 := Lib.hid Y1; have HY2 := Lib.hid Y2; have HY3 := Lib.hid Y3; have HX4 := Lib.hid X4
      rw [lx, ly] at f1
      rw [lx, ly] at f2
      rw [lx, lz] at f3
      rw [lx, ls] at f4
      have F1 := Lib.hid f1; have F2 := Lib.hid f2; have F3 := Lib.hid f3; have F4 := Lib.hid f4
      clear hO HO HBr Br X1 X2 X3 X4 Y1 Y2 Y3 HB4 gx gy gz gs lx ly lz ls f1 f2 f3 f4 hi hlt nn mm
      generalize fewL xs = px at *
      generalize fewL ys = py at *
      generalize fewL zs = pz at *
      generalize addL py pz = ps at *
      go_wp2_with fail
      refine c1.out.mono ?_
      rintro e v1 ⟨Q1, l1, rfl, J1, B1⟩
      simp only [if_true] at J1
      obtain rfl : l1 = n + i - 1 := by have := J1.1; have := F1.out; omega
      have HX4' := Lib.hid (HX4.out.below B1); have Y1 := HY1.out.below B1; have Y2 := HY2.out.below B1
      have HY3' := Lib.hid (HY3.out.below B1)
      have c2 := Lib.hid (fold_any R2 i k2 _ R1 n k1 _ v1 Y2 Y1 (by omega) (by omega) true ⟨fun _ => ⟨GY.out, GX.out⟩, fun _ => rfl⟩)
      have HJ1 := Lib.hid J1; have HY1' := Lib.hid Y1; have HB6 := Lib.hid (HB5.out.trans (B1.mono HB5.out.size))
      clear J1 B1 Y1 Y2 c1 HX4 HY1 HY2 HY3 HB5
      go_wp2_with fail
      refine c2.out.mono ?_
      rintro e v2 ⟨Q2, l2, rfl, J2, B2⟩
      simp only [if_true] at J2
      obtain rfl : l2 = n + i - 1 := by have := J2.1; have := F2.out; omega
      have HX5 := Lib.hid (HX4'.out.below B2); have Y1 := HY1'.out.below B2; have Y3 := HY3'.out.below B2
      have c3 := Lib.hid (fold_any R1 n k1 _ R3 i k3 _ v2 Y1 Y3 (by omega) (by omega) true ⟨fun _ => ⟨GX.out, GZ.out⟩, fun _ => rfl⟩)
      have HJ1' := Lib.hid (HJ1.out.below B2); have HJ2 := Lib.hid J2; have HY4 := Lib.hid Y1; have HB7 := Lib.hid (HB6.out.trans (B2.mono HB6.out.size))
      clear J2 B2 Y1 Y3 c2 HX4' HY1' HY3' HB6 HJ1
      go_wp2_with fail
      refine c3.out.mono ?_
      rintro e v3 ⟨Q3, l3, rfl, J3, B3⟩
      simp only [if_true] at J3
      obtain rfl : l3 = n + i - 1 := by have := J3.1; have := F3.out; omega
      have c4 := Lib.hid (fold_any R1 n k1 _ R i k _ v3 (HY4.out.below B3) (HX5.out.below B3) (by omega) (by omega) true ⟨fun _ => ⟨GX.out, GS.out⟩, fun _ => rfl⟩)
      have HK1 := Lib.hid (HJ1'.out.below B3); have HK2 := Lib.hid (HJ2.out.below B3); have HK3 := Lib.hid J3; have HB8 := Lib.hid (HB7.out.trans (B3.mono HB7.out.size))
      clear J3 B3 c3 HX5 HY4 HB7 HJ1' HJ2
      go_wp2_with fail
      refine c4.out.mono ?_
      rintro e v4 ⟨Q4, l4, rfl, J4, B4⟩
      simp only [if_true] at J4
      obtain rfl : l4 = n + i - 1 := by have := J4.1; have := F4.out; omega
      have K1 := HK1.out.below B4; have K2 := HK2.out.below B4; have K3 := HK3.out.below B4
      have HB9 := Lib.hid (HB8.out.trans (B4.mono HB8.out.size))
      have cS := Lib.hid (sameInts_any Q1 (n + i - 1) (n + i - 1) _ Q2 (n + i - 1) (n + i - 1) _ v4 K1 K2 (by omega) (by omega))
      rw [decide_eq_true HC.out] at cS
      have HK1' := Lib.hid K1; have HK3' := Lib.hid K3; have HK4 := Lib.hid J4
      have hll : n + i - 1 ≤ 1000 := by omega
      clear K1 K2 K3 J4 B4 c4 HK1 HK2 HK3 HB8 GX GY GZ GS F1 F2 F3 F4 HC
      generalize n + i - 1 = l at *
      have e1 : ((l : Int) != (l : Int)) = false := by simp
      have e1n : (l != l) = false := by simp
      go_wp2_with fail
      refine cS.out.mono ?_
      rintro e v5 ⟨rfl, B5⟩
      have P1 := Lib.hid (HK1'.out.below B5); have P3 := Lib.hid (HK3'.out.below B5); have P4 := Lib.hid (HK4.out.below B5); have HBA := Lib.hid (HB9.out.trans (B5.mono HB9.out.size))
      clear B5 cS HK1' HK3' HK4 HB9
      go_wp2_with fail
      go_loopw [20] (fun v wr => EachAt v5 l v wr) (fun v _ => l - (intOf v).toNat)
      case atStart => exact ⟨0, by omega, rfl, Below.refl _ _⟩
      case round =>
        obtain ⟨j, hj, rfl, Bj⟩ := hrel
        have HBj := Lib.hid Bj
        by_cases hjl : j < l
        · have t2 : decide ((j : Int) < (l : Int)) = true := by simp; omega
          have t2n : decide (j < l) = true := by simp; omega
          obtain ⟨b1, o1, rfl, q1, hc1⟩ := P1.out.2 (by omega)
          obtain ⟨b3, o3, rfl, q3, hc3⟩ := P3.out.2 (by omega)
          obtain ⟨b4, o4, rfl, q4, hc4⟩ := P4.out.2 (by omega)
          have x1 := (Bj.cell (p := ⟨b1, o1 + j, none⟩) q1).trans (hc1 j hjl)
          have x3 := (Bj.cell (p := ⟨b3, o3 + j, none⟩) q3).trans (hc3 j hjl)
          have x4 := (Bj.cell (p := ⟨b4, o4 + j, none⟩) q4).trans (hc4 j hjl)
          have hsm := HSum.out j hjl
          have hbd := HBd.out j hjl
          generalize (foldL px py).getD j 0 = y1 at *
          generalize (foldL px pz).getD j 0 = y3 at *
          generalize (foldL px ps).getD j 0 = y4 at *
          have s1 : wrap64 (y1 + y3) = y4 := by unfold wrap64; omega
          have s2 : wrap64 y4 = y4 := by unfold wrap64; omega
          have s3 : (y4 != y4) = false := by simp
          have HJ := Lib.hid hjl
          clear hc1 hc3 hc4 q1 q3 q4 hbd Bj hj
          go_wp2_with fail
          go_quiet (fail)
          have HBd' := Lib.hid (drawn_below HBj.out nq)
          generalize wr.drewN nq = wd at *
          clear x1 x3 x4 HBj
          go_wp2_with fail
          go_roundw
          case rel => exact ⟨j + 1, HJ.out, ret_val (by have := HJ.out; omega), HBd'.out⟩
          case measure => simp [intOf]; have := HJ.out; omega
        · obtain rfl : j = l := by omega
          have t2 : decide ((j : Int) < (j : Int)) = false := by simp
          have HBe := Lib.hid (HBA.out.trans (Bj.mono HBA.out.size))
          clear Bj HBj hj hjl
          go_wp2_with fail
          go_ret
          exact ⟨rfl, HBe.out⟩

set_option maxHeartbeats 2000000 in
theorem waveLaws_any (A : Option Addr) (n c : Nat) (xs : List Int) (B : Option Addr) (m d : Nat) (ys : List Int) (C : Option Addr) (m2 ec : Nat) (zs : List Int) (w : World)
    (h1 : Ints w (· < w.heap.size) A n xs) (h2 : Ints w (· < w.heap.size) B m ys) (h3 : Ints w (· < w.heap.size) C m2 zs) :
    Calls Try.prog 7 #[.slice A n c, .slice B m d, .slice C m2 ec] w fun e w' => e = .returned (.bool true) ∧ Below w.heap.size w w' := by
  by_cases t0 : n < 1
  · have d0 : decide ((n : Int) < 1) = true := by simp; omega
    clear h1 h2 h3 t0
    go_enter Try.func7, Try.ntmps7
    go_wp2_with fail
    refine (awake_any w).mono ?_
    rintro e w1 ⟨rfl, B1⟩
    have HB1 := Lib.hid B1
    clear B1
    go_wp2_with fail
    go_ret
    exact ⟨rfl, HB1.out⟩
  · have d0 : decide ((n : Int) < 1) = false := by simp; omega
    by_cases t1 : 100 < n
    · have d1 : decide ((100 : Int) < (n : Int)) = true := by simp; omega
      clear h1 h2 h3 t0 t1
      go_enter Try.func7, Try.ntmps7
      go_wp2_with fail
      refine (awake_any w).mono ?_
      rintro e w1 ⟨rfl, B1⟩
      have HB1 := Lib.hid B1
      clear B1
      go_wp2_with fail
      go_ret
      exact ⟨rfl, HB1.out⟩
    · have d1 : decide ((100 : Int) < (n : Int)) = false := by simp; omega
      by_cases t2 : m < 1
      · have d2 : decide ((m : Int) < 1) = true := by simp; omega
        clear h1 h2 h3 t0 t1 t2
        go_enter Try.func7, Try.ntmps7
        go_wp2_with fail
        refine (awake_any w).mono ?_
        rintro e w1 ⟨rfl, B1⟩
        have HB1 := Lib.hid B1
        clear B1
        go_wp2_with fail
        go_ret
        exact ⟨rfl, HB1.out⟩
      · have d2 : decide ((m : Int) < 1) = false := by simp; omega
        by_cases t3 : 100 < m
        · have d3 : decide ((100 : Int) < (m : Int)) = true := by simp; omega
          clear h1 h2 h3 t0 t1 t2 t3
          go_enter Try.func7, Try.ntmps7
          go_wp2_with fail
          refine (awake_any w).mono ?_
          rintro e w1 ⟨rfl, B1⟩
          have HB1 := Lib.hid B1
          clear B1
          go_wp2_with fail
          go_ret
          exact ⟨rfl, HB1.out⟩
        · have d3 : decide ((100 : Int) < (m : Int)) = false := by simp; omega
          by_cases t4 : m2 ≠ m
          · have d4 : ((m2 : Int) != (m : Int)) = true := bne_iff_ne.2 (by omega)
            have d4n : (m2 != m) = true := bne_iff_ne.2 t4
            clear h1 h2 h3 t0 t1 t2 t3 t4
            go_enter Try.func7, Try.ntmps7
            go_wp2_with fail
            refine (awake_any w).mono ?_
            rintro e w1 ⟨rfl, B1⟩
            have HB1 := Lib.hid B1
            clear B1
            go_wp2_with fail
            go_ret
            exact ⟨rfl, HB1.out⟩
          · obtain rfl : m2 = m := by omega
            exact waveLaws_main A n c xs B m2 d ys C ec zs w h1 h2 h3 (by omega) (by omega) (by omega) (by omega)

end Go.Proofs.Ytdclgdpifamomaa
