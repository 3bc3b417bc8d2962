/-
  What when's Parse does with a text of a form.
-/
import Derived.Test.YthkcaogohkgheaaDoorWhenG16
import Derived.BigRegion
import Derived.Deep.RegionHeld3
namespace Go.Proofs.YthkcaogohkgheaaDoor
set_option maxRecDepth 100000
open Go.RowKit

/-- The digits of the forms. -/
def plainL : List UInt8 := [48, 48, 48, 48, 45, 48, 48, 45, 48, 48, 84, 48, 48, 58, 48, 48, 58, 48, 48, 90]
def fineL : List UInt8 := [48, 48, 48, 48, 45, 48, 48, 45, 48, 48, 84, 48, 48, 58, 48, 48, 58, 48, 48, 46, 48, 48, 48, 90]
def Cut16 (w : World) (y m d : Nat) (v : Value) (wx : World) : Prop :=
  ∃ g, v = .pointer (some ⟨g, 0, none⟩) ∧ w.heap.size ≤ g ∧ wx.heap[g]? = some (.cells #[.int .i64 (y : Int), .int .i64 (m : Int), .int .i64 (d : Int)] 31 (0, 0)) ∧ Below w.heap.size w wx
theorem cut_alloc {w wc : World} (hB : Below w.heap.size w wc) (y m d : Nat) :
    Cut16 w y m d (.pointer (some ⟨wc.heap.size, 0, none⟩)) (wc.alloc (.cells #[.int .i64 (y : Int), .int .i64 (m : Int), .int .i64 (d : Int)] 31)).drew :=
  ⟨_, rfl, hB.size, heap_alloc_new wc _, (hB.alloc hB.size _).drew⟩

set_option maxHeartbeats 8000000 in
theorem parse_core (s : List UInt8) (y m d h i c f N : Nat) (p ex : Bool) (T : Value) (w : World) (h20 : 20 ≤ s.length) (bN : N ≤ 3000000) (bh : h ≤ 99) (bi : i ≤ 99) (bc : c ≤ 99) (bf : f ≤ 999)
    (HF : (p = true ∧ s.length = 20) ∨ (p = false ∧ s.length = 24))
    (cP : Hid (∀ w, Calls Tryd.prog 19 #[.string ⟨s.toArray⟩, .string ⟨plainL.toArray⟩] w fun e w' => e = .returned (.bool p) ∧ Below w.heap.size w w'))
    (cQ : Hid (p = false → ∀ w, Calls Tryd.prog 19 #[.string ⟨s.toArray⟩, .string ⟨fineL.toArray⟩] w fun e w' => e = .returned (.bool true) ∧ Below w.heap.size w w'))
    (cY : Hid (∀ w, Calls Tryd.prog 20 #[.string ⟨(fld s 0 4).toArray⟩] w fun e w' => e = .returned (.int .i64 (y : Int)) ∧ w' = w))
    (cM : Hid (∀ w, Calls Tryd.prog 20 #[.string ⟨(fld s 5 7).toArray⟩] w fun e w' => e = .returned (.int .i64 (m : Int)) ∧ w' = w))
    (cD : Hid (∀ w, Calls Tryd.prog 20 #[.string ⟨(fld s 8 10).toArray⟩] w fun e w' => e = .returned (.int .i64 (d : Int)) ∧ w' = w))
    (cH : Hid (∀ w, Calls Tryd.prog 20 #[.string ⟨(fld s 11 13).toArray⟩] w fun e w' => e = .returned (.int .i64 (h : Int)) ∧ w' = w))
    (cI : Hid (∀ w, Calls Tryd.prog 20 #[.string ⟨(fld s 14 16).toArray⟩] w fun e w' => e = .returned (.int .i64 (i : Int)) ∧ w' = w))
    (cC : Hid (∀ w, Calls Tryd.prog 20 #[.string ⟨(fld s 17 19).toArray⟩] w fun e w' => e = .returned (.int .i64 (c : Int)) ∧ w' = w))
    (cF : Hid (p = false → ∀ w, Calls Tryd.prog 20 #[.string ⟨(fld s 20 23).toArray⟩] w fun e w' => e = .returned (.int .i64 (f : Int)) ∧ w' = w))
    (cE : Hid (∀ w, Calls Tryd.prog 21 #[dv y m d] w fun e w' => e = .returned (.bool ex) ∧ Below w.heap.size w w'))
    (cN : Hid (ex = true → ∀ w, Calls Tryd.prog 22 #[dv y m d] w fun e w' => e = .returned (.int .i64 (N : Int)) ∧ Below w.heap.size w w'))
    (HNo : Hid ((ex = false ∨ 23 < h ∨ 59 < i ∨ 59 < c) → T = .tuple #[.int .i64 0, .bool false]))
    (HYes : Hid (ex = true → h ≤ 23 → i ≤ 59 → c ≤ 59 → T = .tuple #[.int .i64 ((N * 86400000 + h * 3600000 + i * 60000 + c * 1000 + (if p = true then 0 else f) : Nat) : Int), .bool true])) :
    Calls Tryd.prog 10 #[.string ⟨s.toArray⟩] w fun e w' => e = .returned T ∧ Below w.heap.size w w' := by
  have f0 := fst16 s 4 4 rfl (by omega)
  have f5 := fld16 s 5 7 5 7 rfl rfl (by decide) (by omega)
  have f8 := fld16 s 8 10 8 10 rfl rfl (by decide) (by omega)
  have f11 := fld16 s 11 13 11 13 rfl rfl (by decide) (by omega)
  have f14 := fld16 s 14 16 14 16 rfl rfl (by decide) (by omega)
  have f17 := fld16 s 17 19 17 19 rfl rfl (by decide) (by omega)
  have HQF : Hid (p = false → ∀ w, (Instr.slice 9 (.string ⟨s.toArray⟩) (some (.int .i64 20)) (some (.int .i64 23)) none).run Tryd.prog w = .ok (.string ⟨(fld s 20 23).toArray⟩) w) := show _ → _ from fun hp => by
    rcases HF with ⟨g, _⟩ | ⟨_, g⟩
    · rw [hp] at g; cases g
    · exact fld16 s 20 23 20 23 rfl rfl (by decide) (by omega)
  have HL : Hid (((s.length : Int) == 24) = !p) := show _ = _ by
    rcases HF with ⟨g1, g2⟩ | ⟨g1, g2⟩
    · rw [g1, g2]; rfl
    · rw [g1, g2]; rfl
  generalize fld s 0 4 = L1 at *
  generalize fld s 5 7 = L2 at *
  generalize fld s 8 10 = L3 at *
  generalize fld s 11 13 = L4 at *
  generalize fld s 14 16 = L5 at *
  generalize fld s 17 19 = L6 at *
  generalize fld s 20 23 = L7 at *
  clear HF h20
  unfold plainL fineL at *
  go_enter Tryd.func10, Tryd.ntmps10
  go_upto_region 1 with fail
  go_cut [16] (fun v wx => v = .bool false ∧ Below w.heap.size w wx)
  case first =>
    cases p
    case true =>
      go_wp2_with fail
      refine (cP.out _).mono ?_
      rintro e w1 ⟨rfl, B1⟩
      have HB1 := Lib.hid B1
      clear B1 cP cQ
      go_wp2_with fail
      go_meet
      exact ⟨rfl, HB1.out⟩
    case false =>
      go_wp2_with fail
      refine (cP.out _).mono ?_
      rintro e w1 ⟨rfl, B1⟩
      have HB1 := Lib.hid B1
      clear B1 cP
      go_wp2_with fail
      refine (cQ.out trivial _).mono ?_
      rintro e w2 ⟨rfl, B2⟩
      have HB2 := Lib.hid (low16 HB1.out B2)
      clear B2 cQ
      go_wp2_with fail
      go_meet
      exact ⟨rfl, HB2.out⟩
  case rest =>
    obtain ⟨rfl, hB⟩ := hcut
    have HB := Lib.hid hB
    clear hB cP cQ
    go_upto_region 3 with fail
    go_cut [4] (fun v wx => Cut16 w y m d v wx)
    case first =>
      have cY := cY.out
      have cM := cM.out
      have cD := cD.out
      clear cH cI cC cF f11 f14 f17 HQF HL
      go_region_held3 (fun _ : World => True) (exact trivial) (first | (go_at_call 20; (with_reducible refine (cY _).mono ?_); rintro e w1 ⟨rfl, rfl⟩) | (go_at_call 20; (with_reducible refine (cM _).mono ?_); rintro e w1 ⟨rfl, rfl⟩) | (go_at_call 20; (with_reducible refine (cD _).mono ?_); rintro e w1 ⟨rfl, rfl⟩))
      all_goals (
        go_wp2_with fail
        go_meet
        exact cut_alloc HB.out y m d)
    case rest =>
      obtain ⟨g, rfl, hg, hG, hB⟩ := hcut
      have HG := Lib.hid hG
      have Hg := Lib.hid hg
      have HB2 := Lib.hid hB
      clear hG hg hB HB cY cM cD f0 f5 f8
      have cH := cH.out
      have cI := cI.out
      have cC := cC.out
      go_upto_region 4 with fail
      go_quiet (first | (go_at_call 20; first | with_reducible exact Calls.quiet_of_same (cH _) | with_reducible exact Calls.quiet_of_same (cI _) | with_reducible exact Calls.quiet_of_same (cC _)))
      have HB3 := Lib.hid (HB2.out.trans ((low_drew16 wc nq).mono HB2.out.size))
      have HG3 := Lib.hid (((low_drew16 wc nq).block _ (block_lt HG.out)).trans HG.out)
      generalize wc.drewN nq = w2 at *
      clear HB2 HG cH cI cC f11 f14 f17
      unfold dv at cE cN
      have j0 : w2.cell? ⟨g, 0, none⟩ = some (.int .i64 (y : Int)) := by rw [block_cell HG3.out]; rfl
      have j1 : w2.cell? ⟨g, 1, none⟩ = some (.int .i64 (m : Int)) := by rw [block_cell HG3.out]; rfl
      have j2 : w2.cell? ⟨g, 2, none⟩ = some (.int .i64 (d : Int)) := by rw [block_cell HG3.out]; rfl
      have HL3 := Lib.hid (block_lt HG3.out)
      go_wp2_with fail
      refine (cE.out _).mono ?_
      rintro e w3 ⟨rfl, B3⟩
      have HB4 := Lib.hid (low16 HB3.out B3)
      have HG4 := Lib.hid ((B3.block _ HL3.out).trans HG3.out)
      clear B3 HB3 HG3 cE j0 j1 j2 HL3
      have j0 : w3.cell? ⟨g, 0, none⟩ = some (.int .i64 (y : Int)) := by rw [block_cell HG4.out]; rfl
      have j1 : w3.cell? ⟨g, 1, none⟩ = some (.int .i64 (m : Int)) := by rw [block_cell HG4.out]; rfl
      have j2 : w3.cell? ⟨g, 2, none⟩ = some (.int .i64 (d : Int)) := by rw [block_cell HG4.out]; rfl
      have HL4 := Lib.hid (block_lt HG4.out)
      have HC : Hid (T = .tuple #[.int .i64 0, .bool false] ∧ (ex = false ∨
          (ex = true ∧ decide (23 < (h : Int)) = true ∧ decide (23 < h) = true) ∨
          (ex = true ∧ (decide (23 < (h : Int)) = false ∧ decide (23 < h) = false) ∧ decide (59 < (i : Int)) = true ∧ decide (59 < i) = true) ∨
          (ex = true ∧ (decide (23 < (h : Int)) = false ∧ decide (23 < h) = false) ∧ (decide (59 < (i : Int)) = false ∧ decide (59 < i) = false) ∧ decide (59 < (c : Int)) = true ∧ decide (59 < c) = true)) ∨
          (ex = true ∧ (decide (23 < (h : Int)) = false ∧ decide (23 < h) = false) ∧ (decide (59 < (i : Int)) = false ∧ decide (59 < i) = false) ∧ (decide (59 < (c : Int)) = false ∧ decide (59 < c) = false) ∧ h ≤ 23 ∧ i ≤ 59 ∧ c ≤ 59)) := by
        show _ ∨ _
        simp only [decide_eq_true_eq, decide_eq_false_iff_not]
        by_cases e1 : ex = true
        · by_cases e2 : 23 < h
          · exact .inl ⟨HNo.out (.inr (.inl e2)), .inr (.inl ⟨e1, by omega, e2⟩)⟩
          · by_cases e3 : 59 < i
            · exact .inl ⟨HNo.out (.inr (.inr (.inl e3))), .inr (.inr (.inl ⟨e1, ⟨by omega, e2⟩, by omega, e3⟩))⟩
            · by_cases e4 : 59 < c
              · exact .inl ⟨HNo.out (.inr (.inr (.inr e4))), .inr (.inr (.inr ⟨e1, ⟨by omega, e2⟩, ⟨by omega, e3⟩, by omega, e4⟩))⟩
              · exact .inr ⟨e1, ⟨by omega, e2⟩, ⟨by omega, e3⟩, ⟨by omega, e4⟩, by omega, by omega, by omega⟩
        · have e1 : ex = false := by cases ex <;> simp_all
          exact .inl ⟨HNo.out (.inl e1), .inl e1⟩
      clear HNo
      rcases HC.out with ⟨hT, hC⟩ | ⟨e1, ⟨e2, e3⟩, ⟨e4, e5⟩, ⟨e6, e7⟩, b1, b2, b3⟩
      · have HT := Lib.hid hT
        clear hT HYes cN HC HQF cF HL
        rcases hC with e1 | ⟨e1, e2, e3⟩ | ⟨e1, ⟨e2, e3⟩, e4, e5⟩ | ⟨e1, ⟨e2, e3⟩, ⟨e4, e5⟩, e6, e7⟩
        all_goals (
          subst e1
          go_wp2_with fail
          go_ret2
          exact ⟨by rw [HT.out]; rfl, HB4.out⟩)
      · have HT := Lib.hid (HYes.out e1 b1 b2 b3)
        have cN2 := Lib.hid (cN.out e1)
        obtain ⟨A, hA⟩ : ∃ A : Nat, A = N * 86400000 := ⟨_, rfl⟩
        obtain ⟨B, hB⟩ : ∃ B : Nat, B = h * 3600000 := ⟨_, rfl⟩
        obtain ⟨C, hC⟩ : ∃ C : Nat, C = i * 60000 := ⟨_, rfl⟩
        obtain ⟨D, hD⟩ : ∃ D : Nat, D = c * 1000 := ⟨_, rfl⟩
        rw [← hA, ← hB, ← hC, ← hD] at HT
        obtain ⟨S1, hS1⟩ : ∃ S : Nat, S = A + B := ⟨_, rfl⟩
        obtain ⟨S2, hS2⟩ : ∃ S : Nat, S = S1 + C := ⟨_, rfl⟩
        obtain ⟨S3, hS3⟩ : ∃ S : Nat, S = S2 + D := ⟨_, rfl⟩
        obtain ⟨S4, hS4⟩ : ∃ S : Nat, S = S3 + f := ⟨_, rfl⟩
        rw [← hS1, ← hS2, ← hS3] at HT
        have g1 : (N : Int) * 86400000 = (A : Int) := by omega
        have g2 : (h : Int) * 3600000 = (B : Int) := by omega
        have g3 : (i : Int) * 60000 = (C : Int) := by omega
        have g4 : (c : Int) * 1000 = (D : Int) := by omega
        have g5 : (A : Int) + (B : Int) = (S1 : Int) := by omega
        have g6 : (S1 : Int) + (C : Int) = (S2 : Int) := by omega
        have g7 : (S2 : Int) + (D : Int) = (S3 : Int) := by omega
        have g8 : (S3 : Int) + (f : Int) = (S4 : Int) := by omega
        have l1 : A ≤ 4000000000000000000 := by omega
        have l2 : B ≤ 4000000000000000000 := by omega
        have l3 : C ≤ 4000000000000000000 := by omega
        have l4 : D ≤ 4000000000000000000 := by omega
        have l5 : S1 ≤ 4000000000000000000 := by omega
        have l6 : S2 ≤ 4000000000000000000 := by omega
        have l7 : S3 ≤ 4000000000000000000 := by omega
        have l8 : S4 ≤ 4000000000000000000 := by omega
        have HS4 := Lib.hid hS4
        clear hA hB hC hD hS1 hS2 hS3 hS4 bN bh bi bc bf b1 b2 b3 HYes cN HC
        have v1 : wrap64 ((N : Int) * 86400000) = (A : Int) := w64 g1 l1
        have v2 : wrap64 ((h : Int) * 3600000) = (B : Int) := w64 g2 l2
        have v3 : wrap64 ((i : Int) * 60000) = (C : Int) := w64 g3 l3
        have v4 : wrap64 ((c : Int) * 1000) = (D : Int) := w64 g4 l4
        have v5 : wrap64 ((A : Int) + (B : Int)) = (S1 : Int) := w64 g5 l5
        have v6 : wrap64 ((S1 : Int) + (C : Int)) = (S2 : Int) := w64 g6 l6
        have v7 : wrap64 ((S2 : Int) + (D : Int)) = (S3 : Int) := w64 g7 l7
        have v8 : wrap64 ((S3 : Int) + (f : Int)) = (S4 : Int) := w64 g8 l8
        clear g1 g2 g3 g4 g5 g6 g7 g8 l1 l2 l3 l4 l5 l6 l7 l8
        subst e1
        go_wp2_with fail
        refine (cN2.out _).mono ?_
        rintro e w4 ⟨rfl, B4⟩
        have HB5 := Lib.hid (low16 HB4.out B4)
        clear B4 HB4 HG4 cN2 j0 j1 j2 HL4 e2 e3 e4 e5 e6 e7
        have d1 := HL.out
        clear HL
        cases p
        case true =>
          have d1 : ((s.length : Int) == 24) = false := d1
          have HT2 : Hid (T = .tuple #[.int .i64 (S3 : Int), .bool true]) := show _ = _ from HT.out
          clear HT HQF cF v8
          go_wp2_with fail
          go_ret2
          exact ⟨by rw [HT2.out]; first | rfl | (rw [← v7]; rfl), HB5.out⟩
        case false =>
          have d1 : ((s.length : Int) == 24) = true := d1
          have HT2 : Hid (T = .tuple #[.int .i64 (S4 : Int), .bool true]) := show _ = _ from by rw [HT.out, HS4.out]; rfl
          have x20 := HQF.out rfl
          have cF2 := Lib.hid (fun w => cF.out rfl w)
          clear HT HQF HS4 cF
          go_wp2_with fail
          refine (cF2.out _).mono ?_
          rintro e w5 ⟨rfl, hw⟩; subst w5
          go_wp2_with fail
          go_ret2
          exact ⟨by rw [HT2.out]; first | rfl | (rw [← v8]; rfl), HB5.out⟩
end Go.Proofs.YthkcaogohkgheaaDoor
