/-
  What the document's Parse does with a text of one of the two lengths (chapter 16): the great test, and the days behind it.
-/
import Derived.Test.YthkcaogohkgheaaDoorWhenA16
import Derived.Test.YthkcaogohkgheaaDoorRefP16
import Derived.Test.YthkcaogohkgheaaDoorChain16
import Derived.Deep.Cut
import Derived.Deep.DeepCutAuto
import Derived.Deep.CutBlock
namespace Go.Proofs.YthkcaogohkgheaaDoor
set_option maxRecDepth 100000
open Go.RowKit

def vOf16 : Value → Nat
  | .int _ x => x.toNat
  | _ => 0
theorem ys_le (k : Nat) : ys k ≤ 366 * k := by
  induction k with
  | zero => exact Nat.le_refl _
  | succ k ih => have := yd_bounds (1970 + k); rw [ys_step]; omega
theorem or9 {p1 p2 p3 p4 p5 p6 p7 p8 p9 : Bool} (h : (p1 || p2 || p3 || p4 || p5 || p6 || p7 || p8 || p9) = false) : p6 = false ∧ p7 = false ∧ p8 = false := by
  simp only [Bool.or_eq_false_iff] at h
  exact ⟨h.1.1.1.2, h.1.1.2, h.1.2⟩
theorem first_true {b : Bool} {x : Bool} (h : b = x) (hx : x = true) : b = true := h.trans hx
/-- What the numbers of a good text are. -/
def Good16 (Y M D H I C F : Int) (T : Value) : Prop := ∃ k j d h i c f : Nat, Y = ((1970 + k : Nat) : Int) ∧ M = ((j + 1 : Nat) : Int) ∧ D = ((d + 1 : Nat) : Int) ∧ H = (h : Int) ∧ I = (i : Int) ∧ C = (c : Int) ∧ F = (f : Int) ∧ VDate k j d ∧ k ≤ 9000 ∧ h ≤ 23 ∧ i ≤ 59 ∧ c ≤ 59 ∧ f ≤ 999 ∧
  T = .tuple #[.int .i64 (((((dnum k j d * 24 + h) * 60 + i) * 60 + c) * 1000 + f : Nat) : Int), .bool true]

set_option maxHeartbeats 40000000 in
theorem parse16_test (s : List UInt8) (F : Int) (w : World) (h20 : 20 ≤ s.length) (Y M D H I C q : Int) (b4 b7 b10 b13 b16 : UInt8) (p1 p2 p3 p4 p5 p6 p7 p8 p9 p10 p11 p12 p13 p14 p15 p16 p17 b : Bool) (T : Value)
    (cY : Hid (∀ w, Calls Tryd.prog 23 #[.string ⟨(fld s 0 4).toArray⟩] w fun e w' => e = .returned (.int .i64 Y) ∧ w' = w))
    (cM : Hid (∀ w, Calls Tryd.prog 23 #[.string ⟨(fld s 5 7).toArray⟩] w fun e w' => e = .returned (.int .i64 M) ∧ w' = w))
    (cD : Hid (∀ w, Calls Tryd.prog 23 #[.string ⟨(fld s 8 10).toArray⟩] w fun e w' => e = .returned (.int .i64 D) ∧ w' = w))
    (cH : Hid (∀ w, Calls Tryd.prog 23 #[.string ⟨(fld s 11 13).toArray⟩] w fun e w' => e = .returned (.int .i64 H) ∧ w' = w))
    (cI : Hid (∀ w, Calls Tryd.prog 23 #[.string ⟨(fld s 14 16).toArray⟩] w fun e w' => e = .returned (.int .i64 I) ∧ w' = w))
    (cC : Hid (∀ w, Calls Tryd.prog 23 #[.string ⟨(fld s 17 19).toArray⟩] w fun e w' => e = .returned (.int .i64 C) ∧ w' = w))
    (y4 : byteW s 4 = b4)
    (y7 : byteW s 7 = b7)
    (y10 : byteW s 10 = b10)
    (y13 : byteW s 13 = b13)
    (y16 : byteW s 16 = b16)
    (hp1 : ((b4.toNat : Int) != 45) = p1)
    (hp2 : ((b7.toNat : Int) != 45) = p2)
    (hp3 : ((b10.toNat : Int) != 84) = p3)
    (hp4 : ((b13.toNat : Int) != 58) = p4)
    (hp5 : ((b16.toNat : Int) != 58) = p5)
    (hp6 : decide (Y < 1970) = p6)
    (hp7 : decide (M < 1) = p7)
    (hp8 : decide (12 < M) = p8)
    (hp9 : decide (D < 1) = p9)
    (hp10 : decide (q < D) = p10)
    (hp11 : decide (H < 0) = p11)
    (hp12 : decide (23 < H) = p12)
    (hp13 : decide (I < 0) = p13)
    (hp14 : decide (59 < I) = p14)
    (hp15 : decide (C < 0) = p15)
    (hp16 : decide (59 < C) = p16)
    (hp17 : decide (F < 0) = p17)
    (cQ : Hid (p6 = false → p7 = false → p8 = false → ∀ w, Calls Tryd.prog 17 #[.int .i64 Y, .int .i64 M] w fun e w' => e = .returned (.int .i64 q) ∧ w' = w))
    (hsh : (s.length = 24 ∧ byteW s 19 = 46 ∧ byteW s 23 = 90 ∧ Hid (∀ w, Calls Tryd.prog 23 #[.string ⟨(fld s 20 23).toArray⟩] w fun e w' => e = .returned (.int .i64 F) ∧ w' = w)) ∨ (s.length = 20 ∧ byteW s 19 = 90 ∧ F = 0))
    (HB : Hid (b = (p1 || p2 || p3 || p4 || p5 || p6 || p7 || p8 || p9 || p10 || p11 || p12 || p13 || p14 || p15 || p16 || p17)))
    (hbad : Hid (b = true → T = .tuple #[.int .i64 0, .bool false])) (hgood : Hid (b = false → Good16 Y M D H I C F T)) :
    Calls Tryd.prog 11 #[.string ⟨s.toArray⟩] w fun e w' => e = .returned T ∧ Below w.heap.size w w' := by
  have x4 := at16 s 4 4 rfl (by omega)
  rw [y4] at x4
  have x7 := at16 s 7 7 rfl (by omega)
  rw [y7] at x7
  have x10 := at16 s 10 10 rfl (by omega)
  rw [y10] at x10
  have x13 := at16 s 13 13 rfl (by omega)
  rw [y13] at x13
  have x16 := at16 s 16 16 rfl (by omega)
  rw [y16] at x16
  have f0 := fst16 s 4 4 rfl (by omega)
  have f5 := fld16 s 5 7 5 7 rfl rfl (by decide) (by omega)
  have f8 := fld16 s 8 10 8 10 rfl rfl (by decide) (by omega)
  have f11 := fld16 s 11 13 11 13 rfl rfl (by decide) (by omega)
  have f14 := fld16 s 14 16 14 16 rfl rfl (by decide) (by omega)
  have f17 := fld16 s 17 19 17 19 rfl rfl (by decide) (by omega)
  go_enter Tryd.func11, Tryd.ntmps11
  go_upto_block 0 with fail
  go_cut [4] (fun v4 wx => v4 = .int .i64 F ∧ wx = w)
  case first =>
    rcases hsh with ⟨a, b, c, cF⟩ | ⟨a, b, c⟩
    · have d1 : ((s.length : Int) == 24) = true := by rw [a]; rfl
      have x19 := at16 s 19 19 rfl (by omega)
      have x23 := at16 s 23 23 rfl (by omega)
      have f20 := fld16 s 20 23 20 23 rfl rfl (by decide) (by omega)
      rw [b] at x19
      rw [c] at x23
      have e1 : (((46 : UInt8).toNat : Int) == 46) = true := rfl
      have e2 : (((90 : UInt8).toNat : Int) == 90) = true := rfl
      generalize fld s 20 23 = L7 at *
      clear a b c
      go_wp2_with fail
      refine (cF.out _).mono ?_
      rintro e w5 ⟨rfl, hw⟩; subst w5
      go_wp2_with fail
      go_meet
      exact ⟨rfl, rfl⟩
    · have d1 : ((s.length : Int) == 24) = false := by rw [a]; rfl
      have d2 : ((s.length : Int) == 20) = true := by rw [a]; rfl
      have d3 : ((s.length : Int) != 20) = false := by rw [a]; rfl
      have x19 := at16 s 19 19 rfl (by omega)
      rw [b] at x19
      have e2 : (((90 : UInt8).toNat : Int) == 90) = true := rfl
      have e3 : (((90 : UInt8).toNat : Int) != 90) = false := rfl
      subst c
      clear a b
      go_wp2_with fail
      go_meet
      exact ⟨rfl, rfl⟩
  case rest =>
    obtain ⟨rfl, rfl⟩ := hcut
    clear hsh
    generalize fld s 0 4 = L1 at *
    generalize fld s 5 7 = L2 at *
    generalize fld s 8 10 = L3 at *
    generalize fld s 11 13 = L4 at *
    generalize fld s 14 16 = L5 at *
    generalize fld s 17 19 = L6 at *
    clear y4 y7 y10 y13 y16 h20
    go_upto_region 6 with fail
    go_cut [5, 6, 7, 8, 9, 10] (fun v5 v6 v7 v8 v9 v10 wx => v5 = .int .i64 Y ∧ v6 = .int .i64 M ∧ v7 = .int .i64 D ∧ v8 = .int .i64 H ∧ v9 = .int .i64 I ∧ v10 = .int .i64 C ∧ Below wc.heap.size wc wx)
    case first =>
      refine wp_region_still_lit (by kernel_rfl) (by kernel_rfl) ?_
      change wpStill _ _ wc.drew _ _ _
      have hdr : Below wc.heap.size wc wc.drew := (Below.refl _ _).drew
      generalize wc.drew = wd at *
      repeat still_step
      still_call (cY.out _)
      repeat still_step
      still_call (cM.out _)
      repeat still_step
      still_call (cD.out _)
      repeat still_step
      still_call (cH.out _)
      repeat still_step
      still_call (cI.out _)
      repeat still_step
      still_call (cC.out _)
      repeat still_step
      refine wpStill_nil ?_
      go_wp2_with fail
      go_meet
      exact ⟨rfl, rfl, rfl, rfl, rfl, rfl, (Below.refl _ _).drew⟩
    case rest =>
      obtain ⟨rfl, rfl, rfl, rfl, rfl, rfl, hB⟩ := hcut
      have HBZ := Lib.hid hB
      clear hB f0 f5 f8 f11 f14 f17 cY cM cD cH cI cC
      go_upto_region 7 with fail
      go_cut [131] (fun v wx => v = .bool b ∧ wx = wc)
      case first =>
        clear hbad hgood
        refine wp_region_lit ?_
        simp only [List.append_eq, List.cons_append, List.nil_append]
        refine name_frame fun A hA => ?_
        refine name_ops fun O hO => ?_
        have es : A.tmps.size = 168 := by rw [hA]; rfl
        have a0 : A.eval (.tmp 0) = .string ⟨s.toArray⟩ := by rw [hA]; rfl
        have a4 : A.eval (.tmp 4) = .int .i64 F := by rw [hA]; rfl
        have a5 : A.eval (.tmp 5) = .int .i64 Y := by rw [hA]; rfl
        have a6 : A.eval (.tmp 6) = .int .i64 M := by rw [hA]; rfl
        have a7 : A.eval (.tmp 7) = .int .i64 D := by rw [hA]; rfl
        have a8 : A.eval (.tmp 8) = .int .i64 H := by rw [hA]; rfl
        have a9 : A.eval (.tmp 9) = .int .i64 I := by rw [hA]; rfl
        have a10 : A.eval (.tmp 10) = .int .i64 C := by rw [hA]; rfl
        have m3 : (O[3]?).bind (·.dst) = some 61 := by rw [hO]; rfl
        have m8 : (O[8]?).bind (·.dst) = some 66 := by rw [hO]; rfl
        have m13 : (O[13]?).bind (·.dst) = some 71 := by rw [hO]; rfl
        have m18 : (O[18]?).bind (·.dst) = some 76 := by rw [hO]; rfl
        have m23 : (O[23]?).bind (·.dst) = some 81 := by rw [hO]; rfl
        have m27 : (O[27]?).bind (·.dst) = some 85 := by rw [hO]; rfl
        have m31 : (O[31]?).bind (·.dst) = some 89 := by rw [hO]; rfl
        have m35 : (O[35]?).bind (·.dst) = some 93 := by rw [hO]; rfl
        have m39 : (O[39]?).bind (·.dst) = some 97 := by rw [hO]; rfl
        have m46 : (O[46]?).bind (·.dst) = some 104 := by rw [hO]; rfl
        have m50 : (O[50]?).bind (·.dst) = some 108 := by rw [hO]; rfl
        have m54 : (O[54]?).bind (·.dst) = some 112 := by rw [hO]; rfl
        have m58 : (O[58]?).bind (·.dst) = some 116 := by rw [hO]; rfl
        have m62 : (O[62]?).bind (·.dst) = some 120 := by rw [hO]; rfl
        have m66 : (O[66]?).bind (·.dst) = some 124 := by rw [hO]; rfl
        have m70 : (O[70]?).bind (·.dst) = some 128 := by rw [hO]; rfl
        clear hO
        refine chain3 (n := 58) (p := 58) (x := 0) (y := .int .u8 (b4.toNat : Int)) (r := p1) (by decide) (by rw [es]; decide) rfl rfl rfl rfl rfl rfl rfl (fun f h => ?_) (fun f h => ?_) (fun A1 K1 h1 => ?_)
        · rw [a0] at h; unfold execOp; have hc : ∀ v, f.eval (.const v) = v := fun _ => rfl; generalize f.eval = ρ at *; simp [go_sem, hc, h, x4]
        · unfold execOp; have hc : ∀ v, f.eval (.const v) = v := fun _ => rfl; generalize f.eval = ρ at *; simp [go_sem, hc, h, hp1]
        refine chain5 K1 (p := 60) (g := 3) (x := 0) (y := .int .u8 (b7.toNat : Int)) (r := p2) (by decide) (by decide) (by rw [es]; decide) h1 rfl rfl rfl rfl rfl rfl rfl rfl rfl rfl rfl rfl rfl m3 (fun f h => ?_) (fun f h => ?_) (fun A2 K2 h2 => ?_)
        · rw [a0] at h; unfold execOp; have hc : ∀ v, f.eval (.const v) = v := fun _ => rfl; generalize f.eval = ρ at *; simp [go_sem, hc, h, x7]
        · unfold execOp; have hc : ∀ v, f.eval (.const v) = v := fun _ => rfl; generalize f.eval = ρ at *; simp [go_sem, hc, h, hp2]
        refine chain5 K2 (p := 65) (g := 8) (x := 0) (y := .int .u8 (b10.toNat : Int)) (r := p3) (by decide) (by decide) (by rw [es]; decide) h2 rfl rfl rfl rfl rfl rfl rfl rfl rfl rfl rfl rfl rfl m8 (fun f h => ?_) (fun f h => ?_) (fun A3 K3 h3 => ?_)
        · rw [a0] at h; unfold execOp; have hc : ∀ v, f.eval (.const v) = v := fun _ => rfl; generalize f.eval = ρ at *; simp [go_sem, hc, h, x10]
        · unfold execOp; have hc : ∀ v, f.eval (.const v) = v := fun _ => rfl; generalize f.eval = ρ at *; simp [go_sem, hc, h, hp3]
        refine chain5 K3 (p := 70) (g := 13) (x := 0) (y := .int .u8 (b13.toNat : Int)) (r := p4) (by decide) (by decide) (by rw [es]; decide) h3 rfl rfl rfl rfl rfl rfl rfl rfl rfl rfl rfl rfl rfl m13 (fun f h => ?_) (fun f h => ?_) (fun A4 K4 h4 => ?_)
        · rw [a0] at h; unfold execOp; have hc : ∀ v, f.eval (.const v) = v := fun _ => rfl; generalize f.eval = ρ at *; simp [go_sem, hc, h, x13]
        · unfold execOp; have hc : ∀ v, f.eval (.const v) = v := fun _ => rfl; generalize f.eval = ρ at *; simp [go_sem, hc, h, hp4]
        refine chain5 K4 (p := 75) (g := 18) (x := 0) (y := .int .u8 (b16.toNat : Int)) (r := p5) (by decide) (by decide) (by rw [es]; decide) h4 rfl rfl rfl rfl rfl rfl rfl rfl rfl rfl rfl rfl rfl m18 (fun f h => ?_) (fun f h => ?_) (fun A5 K5 h5 => ?_)
        · rw [a0] at h; unfold execOp; have hc : ∀ v, f.eval (.const v) = v := fun _ => rfl; generalize f.eval = ρ at *; simp [go_sem, hc, h, x16]
        · unfold execOp; have hc : ∀ v, f.eval (.const v) = v := fun _ => rfl; generalize f.eval = ρ at *; simp [go_sem, hc, h, hp5]
        refine chain4 K5 (p := 80) (g := 23) (x := 5) (r := p6) (by decide) (by decide) (by rw [es]; decide) h5 rfl rfl rfl rfl rfl rfl rfl rfl rfl rfl rfl m23 (fun f h => ?_) (fun A6 K6 h6 => ?_)
        · rw [a5] at h; unfold execOp; have hc : ∀ v, f.eval (.const v) = v := fun _ => rfl; generalize f.eval = ρ at *; simp [go_sem, hc, h, hp6]
        refine chain4 K6 (p := 84) (g := 27) (x := 6) (r := p7) (by decide) (by decide) (by rw [es]; decide) h6 rfl rfl rfl rfl rfl rfl rfl rfl rfl rfl rfl m27 (fun f h => ?_) (fun A7 K7 h7 => ?_)
        · rw [a6] at h; unfold execOp; have hc : ∀ v, f.eval (.const v) = v := fun _ => rfl; generalize f.eval = ρ at *; simp [go_sem, hc, h, hp7]
        refine chain4 K7 (p := 88) (g := 31) (x := 6) (r := p8) (by decide) (by decide) (by rw [es]; decide) h7 rfl rfl rfl rfl rfl rfl rfl rfl rfl rfl rfl m31 (fun f h => ?_) (fun A8 K8 h8 => ?_)
        · rw [a6] at h; unfold execOp; have hc : ∀ v, f.eval (.const v) = v := fun _ => rfl; generalize f.eval = ρ at *; simp [go_sem, hc, h, hp8]
        refine chain4 K8 (p := 92) (g := 35) (x := 7) (r := p9) (by decide) (by decide) (by rw [es]; decide) h8 rfl rfl rfl rfl rfl rfl rfl rfl rfl rfl rfl m35 (fun f h => ?_) (fun A9 K9 h9 => ?_)
        · rw [a7] at h; unfold execOp; have hc : ∀ v, f.eval (.const v) = v := fun _ => rfl; generalize f.eval = ρ at *; simp [go_sem, hc, h, hp9]
        refine chain7 K9 (p := 96) (g := 39) (x1 := 7) (x2 := 5) (x3 := 6) (r := p10) (f := 17) (args := #[.int .i64 Y, .int .i64 M]) (y := .int .i64 q) (by decide) (by decide) (by decide) (by decide) (by rw [es]; decide) h9 rfl rfl rfl rfl rfl rfl rfl rfl rfl rfl rfl rfl rfl rfl rfl rfl rfl rfl rfl m39 (fun f h h' => ?_) (fun h => ?_) (fun f h h' => ?_) (fun A10 K10 h10 => ?_)
        · rw [a5] at h; rw [a6] at h'; unfold execOp; have hc : ∀ g, f.eval (.func g) = .func (.func g) #[] #[] := fun _ => rfl; generalize f.eval = ρ at *; simp [go_sem, hc, h, h']
        · obtain ⟨n6, n7, n8⟩ := or9 h; exact cQ.out n6 n7 n8 _
        · rw [a7] at h; unfold execOp; generalize f.eval = ρ at *; simp [go_sem, h, h', hp10]
        refine chain4 K10 (p := 103) (g := 46) (x := 8) (r := p11) (by decide) (by decide) (by rw [es]; decide) h10 rfl rfl rfl rfl rfl rfl rfl rfl rfl rfl rfl m46 (fun f h => ?_) (fun A11 K11 h11 => ?_)
        · rw [a8] at h; unfold execOp; have hc : ∀ v, f.eval (.const v) = v := fun _ => rfl; generalize f.eval = ρ at *; simp [go_sem, hc, h, hp11]
        refine chain4 K11 (p := 107) (g := 50) (x := 8) (r := p12) (by decide) (by decide) (by rw [es]; decide) h11 rfl rfl rfl rfl rfl rfl rfl rfl rfl rfl rfl m50 (fun f h => ?_) (fun A12 K12 h12 => ?_)
        · rw [a8] at h; unfold execOp; have hc : ∀ v, f.eval (.const v) = v := fun _ => rfl; generalize f.eval = ρ at *; simp [go_sem, hc, h, hp12]
        refine chain4 K12 (p := 111) (g := 54) (x := 9) (r := p13) (by decide) (by decide) (by rw [es]; decide) h12 rfl rfl rfl rfl rfl rfl rfl rfl rfl rfl rfl m54 (fun f h => ?_) (fun A13 K13 h13 => ?_)
        · rw [a9] at h; unfold execOp; have hc : ∀ v, f.eval (.const v) = v := fun _ => rfl; generalize f.eval = ρ at *; simp [go_sem, hc, h, hp13]
        refine chain4 K13 (p := 115) (g := 58) (x := 9) (r := p14) (by decide) (by decide) (by rw [es]; decide) h13 rfl rfl rfl rfl rfl rfl rfl rfl rfl rfl rfl m58 (fun f h => ?_) (fun A14 K14 h14 => ?_)
        · rw [a9] at h; unfold execOp; have hc : ∀ v, f.eval (.const v) = v := fun _ => rfl; generalize f.eval = ρ at *; simp [go_sem, hc, h, hp14]
        refine chain4 K14 (p := 119) (g := 62) (x := 10) (r := p15) (by decide) (by decide) (by rw [es]; decide) h14 rfl rfl rfl rfl rfl rfl rfl rfl rfl rfl rfl m62 (fun f h => ?_) (fun A15 K15 h15 => ?_)
        · rw [a10] at h; unfold execOp; have hc : ∀ v, f.eval (.const v) = v := fun _ => rfl; generalize f.eval = ρ at *; simp [go_sem, hc, h, hp15]
        refine chain4 K15 (p := 123) (g := 66) (x := 10) (r := p16) (by decide) (by decide) (by rw [es]; decide) h15 rfl rfl rfl rfl rfl rfl rfl rfl rfl rfl rfl m66 (fun f h => ?_) (fun A16 K16 h16 => ?_)
        · rw [a10] at h; unfold execOp; have hc : ∀ v, f.eval (.const v) = v := fun _ => rfl; generalize f.eval = ρ at *; simp [go_sem, hc, h, hp16]
        refine chain4 K16 (p := 127) (g := 70) (x := 4) (r := p17) (by decide) (by decide) (by rw [es]; decide) h16 rfl rfl rfl rfl rfl rfl rfl rfl rfl rfl rfl m70 (fun f h => ?_) (fun A17 K17 h17 => ?_)
        · rw [a4] at h; unfold execOp; have hc : ∀ v, f.eval (.const v) = v := fun _ => rfl; generalize f.eval = ρ at *; simp [go_sem, hc, h, hp17]
        refine wpList_nil ?_
        have E := frame_split (k := 110) K17 es
        rw [show List.range' 58 110 = [58, 59, 60, 61, 62, 63, 64, 65, 66, 67, 68, 69, 70, 71, 72, 73, 74, 75, 76, 77, 78, 79, 80, 81, 82, 83, 84, 85, 86, 87, 88, 89, 90, 91, 92, 93, 94, 95, 96, 97, 98, 99, 100, 101, 102, 103, 104, 105, 106, 107, 108, 109, 110, 111, 112, 113, 114, 115, 116, 117, 118, 119, 120, 121, 122, 123, 124, 125, 126, 127, 128, 129, 130, 131, 132, 133, 134, 135, 136, 137, 138, 139, 140, 141, 142, 143, 144, 145, 146, 147, 148, 149, 150, 151, 152, 153, 154, 155, 156, 157, 158, 159, 160, 161, 162, 163, 164, 165, 166, 167] from rfl, hA] at E
        simp only [List.take_succ_cons, List.take_zero, List.cons_append, List.nil_append, List.map_cons, List.map_nil, h17] at E
        rw [E]
        go_wp2_with fail
        go_meet
        exact ⟨by rw [HB.out], rfl⟩
      case rest =>
        obtain ⟨rfl, rfl⟩ := hcut
        clear HB cQ hp1 hp2 hp3 hp4 hp5 hp6 hp7 hp8 hp9 hp10 hp11 hp12 hp13 hp14 hp15 hp16 hp17 x4 x7 x10 x13 x16
        cases b
        case true =>
          have HT := Lib.hid (hbad.out rfl)
          clear hbad hgood
          go_wp2_with fail
          go_ret2
          exact ⟨by rw [HT.out]; rfl, HBZ.out⟩
        case false =>
          obtain ⟨k, j, d, h, i, c, f, rfl, rfl, rfl, rfl, rfl, rfl, rfl, hv, hk, hh, hi, hc, hf, hT⟩ := hgood.out rfl
          clear hbad hgood
          have hj := hv.1
          have hd := hv.2
          have hmd := mdy_bounds (1970 + k) (j + 1)
          have hys := ys_le k
          have hms : ∀ y i, msum y i ≤ 31 * i := fun y i => by
            induction i with
            | zero => exact Nat.le_refl _
            | succ i ih => have := mdy_bounds y (i + 1); rw [msum_step]; omega
          have HMS := Lib.hid hms
          have HT := Lib.hid hT
          obtain ⟨y, hy⟩ : ∃ y, y = 1970 + k := ⟨_, rfl⟩
          have HY := Lib.hid hy
          have HK := Lib.hid hk
          have HJ := Lib.hid hj
          have hd31 : d ≤ 31 := by omega
          have HD := Lib.hid hd31
          have HS : Hid (h ≤ 23 ∧ i ≤ 59 ∧ c ≤ 59 ∧ f ≤ 999) := ⟨hh, hi, hc, hf⟩
          have cL := Lib.hid fun n (hn : n ≤ 1000000) w => refLeap_any n hn w
          have cM := Lib.hid fun n (hn : n ≤ 100) w => refDays_any y n (by omega) (by omega) w
          obtain ⟨e, he⟩ : ∃ e, e = d + 1 := ⟨_, rfl⟩
          have HW0 : Hid (wrap64 ((e : Int) - 1) = ((d + ys 0 : Nat) : Int)) := show _ = _ from w64 (by show (e : Int) - 1 = ((d + 0 : Nat) : Int); omega) (by show d + 0 ≤ _; omega)
          obtain ⟨m1, hm1⟩ : ∃ z, z = j + 1 := ⟨_, rfl⟩
          have HM1 := Lib.hid hm1
          rw [← hy, ← he, ← hm1]
          clear hv hh hi hc hf hj hd hmd hys hms hT hk hd31 hy he hm1
          go_wp2_with fail
          go_loopw [11, 12] (fun n v wr => wr = wc ∧ ∃ i : Nat, i ≤ k ∧ v = .int .i64 ((1970 + i : Nat) : Int) ∧ n = .int .i64 ((d + ys i : Nat) : Int)) (fun _ v _ => 1970 + k - vOf16 v)
          case atStart => exact ⟨rfl, 0, Nat.zero_le _, rfl, by rw [HW0.out]⟩
          case round =>
            obtain ⟨rfl, i1, hi1, rfl, rfl⟩ := hrel
            have hyy := HY.out
            have hkk := HK.out
            have hdd := HD.out
            have hyi := ys_le i1
            obtain ⟨z, hz⟩ : ∃ z, z = 1970 + i1 := ⟨_, rfl⟩
            rw [← hz]
            by_cases hlt : i1 < k
            · have e1 : decide ((z : Int) < (y : Int)) = true := decide_eq_true (by omega)
              have e1n : decide (z < y) = true := decide_eq_true (by omega)
              have hst := ys_step i1
              have cN := Lib.hid (cL.out z (by omega))
              obtain ⟨n0, hn0⟩ : ∃ n0, n0 = d + ys i1 := ⟨_, rfl⟩
              rw [← hn0]
              have f1 : (n0 : Int) + 365 = ((n0 + 365 : Nat) : Int) := by omega
              have f2 : ((n0 + 365 : Nat) : Int) + 1 = ((n0 + 366 : Nat) : Int) := by omega
              have f3 : (z : Int) + 1 = ((1970 + (i1 + 1) : Nat) : Int) := by omega
              have b1 : n0 + 365 ≤ 4000000000000000000 := by omega
              have b2 : n0 + 366 ≤ 4000000000000000000 := by omega
              have b3 : 1970 + (i1 + 1) ≤ 4000000000000000000 := by omega
              have HI : Hid (i1 + 1 ≤ k) := hlt
              have HM : Hid (1970 + k - (1970 + (i1 + 1)) < 1970 + k - z) := show _ < _ by omega
              have HZ := Lib.hid hz
              have HN0 := Lib.hid hn0
              have HSt := Lib.hid hst
              clear hi1 hyy hkk hdd hyi hz hlt hst hn0
              obtain ⟨m, hm⟩ : ∃ m, m = n0 + 365 := ⟨_, rfl⟩
              rw [← hm] at f1 f2 b1
              have HMm := Lib.hid hm
              have u1 : wrap64 ((n0 : Int) + 365) = (m : Int) := w64 f1 b1
              have u2 : Hid (wrap64 ((m : Int) + 1) = ((n0 + 366 : Nat) : Int)) := w64 f2 b2
              have u3 : Hid (wrap64 ((z : Int) + 1) = ((1970 + (i1 + 1) : Nat) : Int)) := w64 f3 b3
              clear f1 f2 f3 b1 b2 b3 hm
              cases hl : leapB z with
              | true =>
                rw [hl] at cN
                have HV : Hid (n0 + 366 = d + ys (i1 + 1)) := show _ = _ by
                  have q1 := HN0.out
                  have q2 := HSt.out
                  rw [← HZ.out] at q2
                  unfold yd at q2
                  rw [if_pos hl] at q2
                  omega
                clear hl
                go_wp2_with fail
                refine (cN.out _).mono ?_
                rintro e w5 ⟨rfl, hw⟩; subst w5
                go_wp2_with fail
                go_roundw
                case rel => exact ⟨trivial, i1 + 1, HI.out, by rw [u3.out], by rw [u2.out, HV.out]⟩
                case measure => rw [u3.out]; exact HM.out
              | false =>
                rw [hl] at cN
                have HV : Hid (m = d + ys (i1 + 1)) := show _ = _ by
                  have q1 := HN0.out
                  have q2 := HSt.out
                  have q3 := HMm.out
                  rw [← HZ.out] at q2
                  unfold yd at q2
                  rw [if_neg (by rw [hl]; decide)] at q2
                  omega
                clear hl
                go_wp2_with fail
                refine (cN.out _).mono ?_
                rintro e w5 ⟨rfl, hw⟩; subst w5
                go_wp2_with fail
                go_roundw
                case rel => exact ⟨trivial, i1 + 1, HI.out, by rw [u3.out], by first | rw [u1, HV.out] | rw [HV.out]⟩
                case measure => rw [u3.out]; exact HM.out
            · have e1 : decide ((z : Int) < (y : Int)) = false := decide_eq_false (by omega)
              have e1n : decide (z < y) = false := decide_eq_false (by omega)
              obtain rfl : i1 = k := by omega
              obtain ⟨n0, hn0⟩ : ∃ n0, n0 = d + ys i1 := ⟨_, rfl⟩
              rw [← hn0]
              have HN0 := Lib.hid hn0
              have HNB : Hid (n0 ≤ 4000000) := show _ ≤ _ by omega
              clear hi1 hyy hkk hdd hyi hz hlt hn0 cL
              go_wp2_with fail
              clear e1 e1n
              go_loopw [11, 13] (fun n v wx => wx = wr ∧ ∃ i : Nat, i ≤ j ∧ v = .int .i64 ((i + 1 : Nat) : Int) ∧ n = .int .i64 ((n0 + msum y i : Nat) : Int)) (fun _ v _ => m1 - vOf16 v)
              case atStart => exact ⟨rfl, 0, Nat.zero_le _, rfl, rfl⟩
              case round =>
                obtain ⟨rfl, i2, hi2, rfl, rfl⟩ := hrel
                have hjj := HJ.out
                have hms := HMS.out y i2
                have hnb := HNB.out
                obtain ⟨z2, hz2⟩ : ∃ z, z = i2 + 1 := ⟨_, rfl⟩
                have hm1 := HM1.out
                rw [← hz2]
                by_cases hlt : i2 < j
                · have e1 : decide ((z2 : Int) < (m1 : Int)) = true := decide_eq_true (by omega)
                  have e1n : decide (z2 < m1) = true := decide_eq_true (by omega)
                  have hst := msum_step y i2
                  have hmd := mdy_bounds y (i2 + 1)
                  rw [← hz2] at hst hmd
                  have cN := Lib.hid (cM.out z2 (by omega))
                  obtain ⟨q, hq⟩ : ∃ q, q = mdy y z2 := ⟨_, rfl⟩
                  rw [← hq] at cN hst hmd
                  obtain ⟨n2, hn2⟩ : ∃ n2, n2 = n0 + msum y i2 := ⟨_, rfl⟩
                  rw [← hn2]
                  rw [hz2] at hst
                  have f1 : (n2 : Int) + (q : Int) = ((n0 + msum y (i2 + 1) : Nat) : Int) := by omega
                  have f3 : (z2 : Int) + 1 = ((i2 + 1 + 1 : Nat) : Int) := by omega
                  have b1 : n0 + msum y (i2 + 1) ≤ 4000000000000000000 := by omega
                  have b3 : i2 + 1 + 1 ≤ 4000000000000000000 := by omega
                  have HI : Hid (i2 + 1 ≤ j) := hlt
                  have HM : Hid (m1 - (i2 + 1 + 1) < m1 - z2) := show _ < _ by omega
                  clear hi2 hjj hms hnb hz2 hm1 hlt hst hmd hq hn2
                  have u1 : Hid (wrap64 ((n2 : Int) + (q : Int)) = ((n0 + msum y (i2 + 1) : Nat) : Int)) := w64 f1 b1
                  have u3 : Hid (wrap64 ((z2 : Int) + 1) = ((i2 + 1 + 1 : Nat) : Int)) := w64 f3 b3
                  clear f1 f3 b1 b3
                  go_wp2_with fail
                  refine (cN.out _).mono ?_
                  rintro e w5 ⟨rfl, hw⟩; subst w5
                  go_wp2_with fail
                  go_roundw
                  case rel => exact ⟨trivial, i2 + 1, HI.out, by rw [u3.out], by rw [u1.out]⟩
                  case measure => rw [u3.out]; exact HM.out
                · have e1 : decide ((z2 : Int) < (m1 : Int)) = false := decide_eq_false (by omega)
                  have e1n : decide (z2 < m1) = false := decide_eq_false (by omega)
                  obtain rfl : i2 = j := by omega
                  obtain ⟨h1, h2, h3, h4⟩ := HS.out
                  obtain ⟨S0, hS0⟩ : ∃ S, S = n0 + msum y i2 := ⟨_, rfl⟩
                  rw [← hS0]
                  obtain ⟨S1, hS1⟩ : ∃ S, S = S0 * 24 := ⟨_, rfl⟩
                  obtain ⟨S2, hS2⟩ : ∃ S, S = S1 + h := ⟨_, rfl⟩
                  obtain ⟨S3, hS3⟩ : ∃ S, S = S2 * 60 := ⟨_, rfl⟩
                  obtain ⟨S4, hS4⟩ : ∃ S, S = S3 + i := ⟨_, rfl⟩
                  obtain ⟨S5, hS5⟩ : ∃ S, S = S4 * 60 := ⟨_, rfl⟩
                  obtain ⟨S6, hS6⟩ : ∃ S, S = S5 + c := ⟨_, rfl⟩
                  obtain ⟨S7, hS7⟩ : ∃ S, S = S6 * 1000 := ⟨_, rfl⟩
                  obtain ⟨S8, hS8⟩ : ∃ S, S = S7 + f := ⟨_, rfl⟩
                  have HD0 : dnum i1 i2 d = S0 := by rw [hS0, HN0.out, HY.out]; unfold dnum; omega
                  have HT2 : Hid (T = .tuple #[.int .i64 (S8 : Int), .bool true]) := show _ = _ from HT.out.trans (by rw [HD0, ← hS1, ← hS2, ← hS3, ← hS4, ← hS5, ← hS6, ← hS7, ← hS8])
                  have g1 : (S0 : Int) * 24 = (S1 : Int) := by omega
                  have g2 : (S1 : Int) + (h : Int) = (S2 : Int) := by omega
                  have g3 : (S2 : Int) * 60 = (S3 : Int) := by omega
                  have g4 : (S3 : Int) + (i : Int) = (S4 : Int) := by omega
                  have g5 : (S4 : Int) * 60 = (S5 : Int) := by omega
                  have g6 : (S5 : Int) + (c : Int) = (S6 : Int) := by omega
                  have g7 : (S6 : Int) * 1000 = (S7 : Int) := by omega
                  have g8 : (S7 : Int) + (f : Int) = (S8 : Int) := by omega
                  have l1 : S1 ≤ 4000000000000000000 := by omega
                  have l2 : S2 ≤ 4000000000000000000 := by omega
                  have l3 : S3 ≤ 4000000000000000000 := by omega
                  have l4 : S4 ≤ 4000000000000000000 := by omega
                  have l5 : S5 ≤ 4000000000000000000 := by omega
                  have l6 : S6 ≤ 4000000000000000000 := by omega
                  have l7 : S7 ≤ 4000000000000000000 := by omega
                  have l8 : S8 ≤ 4000000000000000000 := by omega
                  clear hi2 hjj hms hnb hz2 hm1 hlt hS0 hS1 hS2 hS3 hS4 hS5 hS6 hS7 hS8 HD0 h1 h2 h3 h4 HT
                  have v1 : wrap64 ((S0 : Int) * 24) = (S1 : Int) := w64 g1 l1
                  have v2 : wrap64 ((S1 : Int) + (h : Int)) = (S2 : Int) := w64 g2 l2
                  have v3 : wrap64 ((S2 : Int) * 60) = (S3 : Int) := w64 g3 l3
                  have v4 : wrap64 ((S3 : Int) + (i : Int)) = (S4 : Int) := w64 g4 l4
                  have v5 : wrap64 ((S4 : Int) * 60) = (S5 : Int) := w64 g5 l5
                  have v6 : wrap64 ((S5 : Int) + (c : Int)) = (S6 : Int) := w64 g6 l6
                  have v7 : wrap64 ((S6 : Int) * 1000) = (S7 : Int) := w64 g7 l7
                  have v8 : wrap64 ((S7 : Int) + (f : Int)) = (S8 : Int) := w64 g8 l8
                  have o1 : wrap64 (S0 : Int) = (S0 : Int) := w64 rfl (by omega)
                  clear g1 g2 g3 g4 g5 g6 g7 g8 l1 l2 l3 l4 l5 l6 l7 l8
                  go_wp2_with fail
                  go_ret2
                  exact ⟨by rw [HT2.out]; first | rfl | (rw [← v8]; rfl), HBZ.out⟩
end Go.Proofs.YthkcaogohkgheaaDoor
