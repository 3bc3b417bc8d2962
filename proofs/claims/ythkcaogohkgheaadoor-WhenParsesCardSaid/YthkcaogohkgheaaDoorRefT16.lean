/-
  What the document's Text does (chapter 16); for every time.
-/
import Derived.Test.YthkcaogohkgheaaDoorRefA16
import Derived.Deep.Cut
import Derived.Deep.DeepCutAuto
import Derived.Deep.CutBlock
namespace Go.Proofs.YthkcaogohkgheaaDoor
set_option maxRecDepth 100000
open Go.RowKit
open Go.Lib (decDigits itoa)

theorem low16 {w V w' : World} (h : Below w.heap.size w V) (B : Below V.heap.size V w') : Below w.heap.size w w' := h.trans (B.mono h.size)
/-- The parts of a day, by the milliseconds that are left. -/
structure Left16 (ms L h a1 i a2 c f : Nat) : Prop where
  h1 : ms / 3600000 % 24 = h
  i1 : ms / 60000 % 60 = i
  c1 : ms / 1000 % 60 = c
  f1 : ms % 1000 = f
  h2 : h < 24
  i2 : i < 60
  c2 : c < 60
  f2 : f < 1000
  h3 : (L : Int).tdiv 3600000 = (h : Int)
  a3 : (L : Int).tdiv 60000 = (a1 : Int)
  i3 : (a1 : Int).tmod 60 = (i : Int)
  b3 : (L : Int).tdiv 1000 = (a2 : Int)
  c3 : (a2 : Int).tmod 60 = (c : Int)
  f3 : (L : Int).tmod 1000 = (f : Int)
  h4 : (L : Int) / 3600000 = (h : Int)
  a4 : (L : Int) / 60000 = (a1 : Int)
  i4 : (a1 : Int) % 60 = (i : Int)
  b4 : (L : Int) / 1000 = (a2 : Int)
  c4 : (a2 : Int) % 60 = (c : Int)
  f4 : (L : Int) % 1000 = (f : Int)
  h5 : wrap64 (h : Int) = (h : Int)
  a5 : wrap64 (a1 : Int) = (a1 : Int)
  i5 : wrap64 (i : Int) = (i : Int)
  b5 : wrap64 (a2 : Int) = (a2 : Int)
  c5 : wrap64 (c : Int) = (c : Int)
  f5 : wrap64 (f : Int) = (f : Int)
theorem wr16 {x : Nat} (h : x < 100000000) : wrap64 (x : Int) = (x : Int) := by unfold wrap64; omega
theorem left16 {ms L : Nat} (hL : L = ms % 86400000) : Left16 ms L (L / 3600000) (L / 60000) (L / 60000 % 60) (L / 1000) (L / 1000 % 60) (L % 1000) where
  h1 := by omega
  i1 := by omega
  c1 := by omega
  f1 := by omega
  h2 := by omega
  i2 := by omega
  c2 := by omega
  f2 := by omega
  h3 := rfl
  a3 := rfl
  i3 := rfl
  b3 := rfl
  c3 := rfl
  f3 := rfl
  h4 := rfl
  a4 := rfl
  i4 := rfl
  b4 := rfl
  c4 := rfl
  f4 := rfl
  h5 := wr16 (by omega)
  a5 := wr16 (by omega)
  i5 := wr16 (by omega)
  b5 := wr16 (by omega)
  c5 := wr16 (by omega)
  f5 := wr16 (by omega)
/-- The text's parts, one behind the other. -/
structure Rows16 (P1 P2 P3 P4 P5 P6 P7 s1 s2 s3 s4 s5 s6 s7 s8 s9 s10 s11 s12 s13 s14 : List UInt8) : Prop where
  ks1 : ∀ w : World, (Op.stringOp .add ⟨P1.toArray⟩ ⟨#[45]⟩).run Tryd.prog w = .ok (.string ⟨s1.toArray⟩) w
  ks2 : ∀ w : World, (Op.stringOp .add ⟨s1.toArray⟩ ⟨P2.toArray⟩).run Tryd.prog w = .ok (.string ⟨s2.toArray⟩) w
  ks3 : ∀ w : World, (Op.stringOp .add ⟨s2.toArray⟩ ⟨#[45]⟩).run Tryd.prog w = .ok (.string ⟨s3.toArray⟩) w
  ks4 : ∀ w : World, (Op.stringOp .add ⟨s3.toArray⟩ ⟨P3.toArray⟩).run Tryd.prog w = .ok (.string ⟨s4.toArray⟩) w
  ks5 : ∀ w : World, (Op.stringOp .add ⟨s4.toArray⟩ ⟨#[84]⟩).run Tryd.prog w = .ok (.string ⟨s5.toArray⟩) w
  ks6 : ∀ w : World, (Op.stringOp .add ⟨s5.toArray⟩ ⟨P4.toArray⟩).run Tryd.prog w = .ok (.string ⟨s6.toArray⟩) w
  ks7 : ∀ w : World, (Op.stringOp .add ⟨s6.toArray⟩ ⟨#[58]⟩).run Tryd.prog w = .ok (.string ⟨s7.toArray⟩) w
  ks8 : ∀ w : World, (Op.stringOp .add ⟨s7.toArray⟩ ⟨P5.toArray⟩).run Tryd.prog w = .ok (.string ⟨s8.toArray⟩) w
  ks9 : ∀ w : World, (Op.stringOp .add ⟨s8.toArray⟩ ⟨#[58]⟩).run Tryd.prog w = .ok (.string ⟨s9.toArray⟩) w
  ks10 : ∀ w : World, (Op.stringOp .add ⟨s9.toArray⟩ ⟨P6.toArray⟩).run Tryd.prog w = .ok (.string ⟨s10.toArray⟩) w
  ks11 : ∀ w : World, (Op.stringOp .add ⟨s10.toArray⟩ ⟨#[46]⟩).run Tryd.prog w = .ok (.string ⟨s11.toArray⟩) w
  ks12 : ∀ w : World, (Op.stringOp .add ⟨s11.toArray⟩ ⟨P7.toArray⟩).run Tryd.prog w = .ok (.string ⟨s12.toArray⟩) w
  ks13 : ∀ w : World, (Op.stringOp .add ⟨s12.toArray⟩ ⟨#[90]⟩).run Tryd.prog w = .ok (.string ⟨s13.toArray⟩) w
  ks14 : ∀ w : World, (Op.stringOp .add ⟨s10.toArray⟩ ⟨#[90]⟩).run Tryd.prog w = .ok (.string ⟨s14.toArray⟩) w
theorem rows16 (P1 P2 P3 P4 P5 P6 P7 : List UInt8) (l1 : P1.length ≤ 10) (l2 : P2.length ≤ 10) (l3 : P3.length ≤ 10) (l4 : P4.length ≤ 10) (l5 : P5.length ≤ 10) (l6 : P6.length ≤ 10) (l7 : P7.length ≤ 10) :
    Rows16 P1 P2 P3 P4 P5 P6 P7 (P1 ++ [45]) ((P1 ++ [45]) ++ P2) (((P1 ++ [45]) ++ P2) ++ [45]) ((((P1 ++ [45]) ++ P2) ++ [45]) ++ P3) (((((P1 ++ [45]) ++ P2) ++ [45]) ++ P3) ++ [84]) ((((((P1 ++ [45]) ++ P2) ++ [45]) ++ P3) ++ [84]) ++ P4) (((((((P1 ++ [45]) ++ P2) ++ [45]) ++ P3) ++ [84]) ++ P4) ++ [58]) ((((((((P1 ++ [45]) ++ P2) ++ [45]) ++ P3) ++ [84]) ++ P4) ++ [58]) ++ P5) (((((((((P1 ++ [45]) ++ P2) ++ [45]) ++ P3) ++ [84]) ++ P4) ++ [58]) ++ P5) ++ [58]) ((((((((((P1 ++ [45]) ++ P2) ++ [45]) ++ P3) ++ [84]) ++ P4) ++ [58]) ++ P5) ++ [58]) ++ P6) (((((((((((P1 ++ [45]) ++ P2) ++ [45]) ++ P3) ++ [84]) ++ P4) ++ [58]) ++ P5) ++ [58]) ++ P6) ++ [46]) ((((((((((((P1 ++ [45]) ++ P2) ++ [45]) ++ P3) ++ [84]) ++ P4) ++ [58]) ++ P5) ++ [58]) ++ P6) ++ [46]) ++ P7) (((((((((((((P1 ++ [45]) ++ P2) ++ [45]) ++ P3) ++ [84]) ++ P4) ++ [58]) ++ P5) ++ [58]) ++ P6) ++ [46]) ++ P7) ++ [90]) (((((((((((P1 ++ [45]) ++ P2) ++ [45]) ++ P3) ++ [84]) ++ P4) ++ [58]) ++ P5) ++ [58]) ++ P6) ++ [90]) where
  ks1 := wcat _ _ _ _ rfl rfl (by simp; omega)
  ks2 := wcat _ _ _ _ rfl rfl (by simp; omega)
  ks3 := wcat _ _ _ _ rfl rfl (by simp; omega)
  ks4 := wcat _ _ _ _ rfl rfl (by simp; omega)
  ks5 := wcat _ _ _ _ rfl rfl (by simp; omega)
  ks6 := wcat _ _ _ _ rfl rfl (by simp; omega)
  ks7 := wcat _ _ _ _ rfl rfl (by simp; omega)
  ks8 := wcat _ _ _ _ rfl rfl (by simp; omega)
  ks9 := wcat _ _ _ _ rfl rfl (by simp; omega)
  ks10 := wcat _ _ _ _ rfl rfl (by simp; omega)
  ks11 := wcat _ _ _ _ rfl rfl (by simp; omega)
  ks12 := wcat _ _ _ _ rfl rfl (by simp; omega)
  ks13 := wcat _ _ _ _ rfl rfl (by simp; omega)
  ks14 := wcat _ _ _ _ rfl rfl (by simp; omega)
set_option maxHeartbeats 1000000 in
theorem text_out (x : Int) (h : x < 0 ∨ 253402300799999 < x) (w : World) :
    Calls Tryd.prog 9 #[.int .i64 x] w fun e w' => e = .returned (.tuple #[.string ⟨#[]⟩, .bool false]) ∧ w' = w := by
  have d : decide (x < 0) = true ∨ (decide (x < 0) = false ∧ decide (253402300799999 < x) = true) := by
    by_cases q : x < 0
    · exact .inl (decide_eq_true q)
    · exact .inr ⟨decide_eq_false q, decide_eq_true (by omega)⟩
  clear h
  rcases d with d1 | ⟨d1, d2⟩
  all_goals (
    go_enter Tryd.func9, Tryd.ntmps9
    go_wp2_with fail
    go_ret2
    exact ⟨rfl, rfl⟩)

set_option maxHeartbeats 4000000 in
theorem text_in (ms D : Nat) (hm : ms ≤ 253402300799999) (hD : D = ms / 86400000) (w : World) :
    Calls Tryd.prog 9 #[.int .i64 (ms : Int)] w fun e w' => (∃ t, e = .returned (.tuple #[.string ⟨t.toArray⟩, .bool true]) ∧ TextW ms t) ∧ Below w.heap.size w w' := by
  have d1 : decide ((ms : Int) < 0) = false := decide_eq_false (by omega)
  have d2 : decide (253402300799999 < (ms : Int)) = false := decide_eq_false (by omega)
  obtain ⟨L, hL⟩ : ∃ L, L = ms % 86400000 := ⟨_, rfl⟩
  have q1 : (ms : Int).tdiv 86400000 = (D : Int) := by rw [hD]; rfl
  have q2 : (ms : Int).tmod 86400000 = (L : Int) := by rw [hL]; rfl
  have q3 : (ms : Int) / 86400000 = (D : Int) := by omega
  have q4 : (ms : Int) % 86400000 = (L : Int) := by omega
  have e1 : wrap64 (D : Int) = (D : Int) := by unfold wrap64; omega
  have e2 : wrap64 (L : Int) = (L : Int) := by unfold wrap64; omega
  have HD : Hid (D < 2932897) := show _ < _ by omega
  have HML : Hid (D = ms / 86400000 ∧ L = ms % 86400000 ∧ ms ≤ 253402300799999) := ⟨hD, hL, hm⟩
  have HLF := Lib.hid (left16 hL)
  clear hD hL hm
  go_enter Tryd.func9, Tryd.ntmps9
  go_upto_block 0 with fail
  have HE1 := Lib.hid e1
  clear d1 d2 q1 q2 q3 q4 e1
  go_cut [4, 6, 8] (fun v4 v6 _ wx => wx = w ∧ ∃ k d : Nat, v4 = .int .i64 (d : Int) ∧ v6 = .int .i64 ((1970 + k : Nat) : Int) ∧ ys k + d = D ∧ d < yd (1970 + k))
  case first =>
    clear HML
    go_wp2_with fail
    go_loopw [4, 6, 8] (fun v4 v6 _ wr => wr = w ∧ ∃ k d : Nat, v4 = .int .i64 (d : Int) ∧ v6 = .int .i64 ((1970 + k : Nat) : Int) ∧ ys k + d = D) (fun v4 _ _ _ => (intOf v4).toNat)
    case atStart => exact ⟨rfl, 0, D, by rw [HE1.out], rfl, Nat.zero_add _⟩
    case round =>
      obtain ⟨rfl, k, d, rfl, rfl, hk⟩ := hrel
      have hd := HD.out
      have hk8 := year_of hk hd
      have HK := Lib.hid hk
      obtain ⟨y, hy⟩ : ∃ y, y = 1970 + k := ⟨_, rfl⟩
      have HY := Lib.hid hy
      rw [← hy]
      have hyb : y ≤ 10000 := by omega
      by_cases h365 : d < 365
      · have d1 : decide (365 ≤ (d : Int)) = false := decide_eq_false (by omega)
        have HE : Hid (ys k + d = D ∧ d < yd (1970 + k)) := ⟨hk, by have := (yd_bounds (1970 + k)).1; omega⟩
        clear hk hd hk8 hy hyb h365
        go_wp2_with fail
        go_meet
        exact ⟨rfl, k, d, rfl, by rw [HY.out], HE.out.1, HE.out.2⟩
      · have d1 : decide (365 ≤ (d : Int)) = true := decide_eq_true (by omega)
        have cL := Lib.hid fun w => refLeap_any y (by omega) w
        have hyd : yd y = if leapB y = true then 366 else 365 := rfl
        have hw1 : wrap64 ((y : Int) + 1) = (y : Int) + 1 := by unfold wrap64; omega
        have HW1 : Hid (wrap64 ((y : Int) + 1) = ((1970 + (k + 1) : Nat) : Int)) := show _ = _ by rw [hw1]; omega
        cases hl : leapB y with
        | true =>
          rw [hl] at cL
          rw [hl, if_pos rfl] at hyd
          by_cases h366 : d < 366
          · have d2 : decide ((d : Int) < 366) = true := decide_eq_true (by omega)
            have HE : Hid (ys k + d = D ∧ d < yd (1970 + k)) := ⟨hk, by rw [← hy, hyd]; exact h366⟩
            clear hk hd hk8 hy hyb h365 h366 hyd hl hw1
            go_wp2_with fail
            refine (cL.out _).mono ?_
            rintro e w5 ⟨rfl, hw⟩; subst w5
            clear cL
            go_wp2_with fail
            go_meet
            exact ⟨rfl, k, d, rfl, by rw [HY.out], HE.out.1, HE.out.2⟩
          · have d2 : decide ((d : Int) < 366) = false := decide_eq_false (by omega)
            have w2 : wrap64 ((d : Int) - 366) = ((d - 366 : Nat) : Int) := by unfold wrap64; omega
            have HE : Hid (ys (k + 1) + (d - 366) = D) := show _ = _ by rw [ys_step, ← hy, hyd]; omega
            have HM : Hid ((((d - 366 : Nat) : Int)).toNat < ((d : Int)).toNat) := show _ < _ by omega
            clear hk hd hk8 hy hyb h365 h366 hyd hl hw1
            go_wp2_with fail
            refine (cL.out _).mono ?_
            rintro e w5 ⟨rfl, hw⟩; subst w5
            clear cL
            go_wp2_with fail
            go_roundw
            case rel => exact ⟨trivial, k + 1, d - 366, by first | rfl | rw [w2], by rw [HW1.out], HE.out⟩
            case measure => first | exact HM.out | (simp only [intOf]; rw [w2]; exact HM.out)
        | false =>
          rw [hl] at cL
          rw [hl, if_neg (by decide)] at hyd
          have d2 : decide ((d : Int) < 365) = false := decide_eq_false (by omega)
          have w2 : wrap64 ((d : Int) - 365) = ((d - 365 : Nat) : Int) := by unfold wrap64; omega
          have HE : Hid (ys (k + 1) + (d - 365) = D) := show _ = _ by rw [ys_step, ← hy, hyd]; omega
          have HM : Hid ((((d - 365 : Nat) : Int)).toNat < ((d : Int)).toNat) := show _ < _ by omega
          clear hk hd hk8 hy hyb h365 hyd hl hw1
          go_wp2_with fail
          refine (cL.out _).mono ?_
          rintro e w5 ⟨rfl, hw⟩; subst w5
          clear cL
          go_wp2_with fail
          go_roundw
          case rel => exact ⟨trivial, k + 1, d - 365, by first | rfl | rw [w2], by rw [HW1.out], HE.out⟩
          case measure => first | exact HM.out | (simp only [intOf]; rw [w2]; exact HM.out)
  case rest =>
    obtain ⟨rfl, k, d0, rfl, rfl, hk, hdy⟩ := hcut
    have hk8 := year_of hk HD.out
    obtain ⟨y, hy⟩ : ∃ y, y = 1970 + k := ⟨_, rfl⟩
    have HY := Lib.hid hy
    rw [← hy] at hdy ⊢
    have HYB : Hid (1970 ≤ y ∧ y < 10000) := show _ ∧ _ by omega
    have HK := Lib.hid hk
    have HDY := Lib.hid hdy
    clear hk hk8 hy
    go_wp2_with fail
    go_loopw [4, 7] (fun v4 v7 wr => wr = wc ∧ ∃ j d : Nat, v4 = .int .i64 (d : Int) ∧ v7 = .int .i64 ((j + 1 : Nat) : Int) ∧ msum y j + d = d0) (fun v4 _ _ => (intOf v4).toNat)
    case atStart => exact ⟨rfl, 0, d0, rfl, rfl, Nat.zero_add _⟩
    case round =>
      obtain ⟨rfl, j, d, rfl, rfl, hj⟩ := hrel
      have hyb := HYB.out
      have hj12 : j < 12 := by
        rcases Nat.lt_or_ge j 12 with q | q
        · exact q
        · exfalso
          have h1 := msum_mono (y := y) q
          rw [msum_year] at h1
          have h2 := HDY.out
          omega
      have cM := Lib.hid fun w => refDays_any y (j + 1) (by omega) (by omega) w
      have hb := mdy_bounds y (j + 1)
      have hdb : d ≤ 366 := by have := HDY.out; have := (yd_bounds y).2; omega
      obtain ⟨q, hq⟩ : ∃ q, q = mdy y (j + 1) := ⟨_, rfl⟩
      have hst := msum_step y j
      rw [← hq] at cM hb hst
      have HQ := Lib.hid hq
      obtain ⟨m, hmm⟩ : ∃ m, m = j + 1 := ⟨_, rfl⟩
      rw [← hmm] at cM ⊢
      have HMM := Lib.hid hmm
      by_cases hlt : d < q
      · have d1 : decide ((q : Int) ≤ (d : Int)) = false := decide_eq_false (by omega)
        have d1n : decide (q ≤ d) = false := decide_eq_false (by omega)
        have d1p : ¬ q ≤ d := by omega
        have HV : Hid (VDate k j d ∧ dnum k j d = D) := show _ ∧ _ by
          refine ⟨⟨hj12, ?_⟩, ?_⟩
          · rw [← HY.out, ← hq]; exact hlt
          · unfold dnum
            rw [← HY.out]
            have := HK.out
            omega
        have hd31 : d < 31 := by omega
        have hm12 : 1 ≤ m ∧ m ≤ 12 := by omega
        have v1 : wrap64 ((d : Int) + 1) = ((d + 1 : Nat) : Int) := by unfold wrap64; omega
        clear hb hq hst hmm hj12 hdb hlt hj
        obtain ⟨dd, hdd⟩ : ∃ dd, dd = d + 1 := ⟨_, rfl⟩
        rw [← hdd] at v1
        have hdd31 : dd ≤ 31 := by omega
        have hlf := HLF.out
        have HT : Hid (∀ t, t = whenL y m dd (L / 3600000) (L / 60000 % 60) (L / 1000 % 60) (L % 1000) → TextW ms t) := fun t ht => ⟨k, j, d, HV.out.1, HV.out.2.trans HML.out.1, by rw [ht, ← HY.out, ← HMM.out, ← hdd, hlf.h1, hlf.i1, hlf.c1, hlf.f1]⟩
        clear hdd hd31 HML HV HK HDY HD HQ HMM HY hdy HE1 HLF
        generalize L / 3600000 = h at *
        generalize L / 60000 % 60 = i at *
        generalize L / 60000 = a1 at *
        generalize L / 1000 % 60 = c at *
        generalize L / 1000 = a2 at *
        generalize L % 1000 = f at *
        have c1 := Lib.hid fun w => refPad_any y 4 (by omega) (by decide) w
        rw [pad_four (v := y) (Nat.le_trans (by decide) hyb.1) hyb.2] at c1
        have c2 := Lib.hid fun w => refPad_any m 2 (by omega) (by decide) w
        rw [pad_two (v := m) (by omega)] at c2
        have c3 := Lib.hid fun w => refPad_any dd 2 (by omega) (by decide) w
        rw [pad_two (v := dd) (by omega)] at c3
        have c4 := Lib.hid fun w => refPad_any h 2 (Nat.le_of_lt (Nat.lt_trans hlf.h2 (by decide))) (by decide) w
        rw [pad_two (v := h) (Nat.lt_trans hlf.h2 (by decide))] at c4
        have c5 := Lib.hid fun w => refPad_any i 2 (Nat.le_of_lt (Nat.lt_trans hlf.i2 (by decide))) (by decide) w
        rw [pad_two (v := i) (Nat.lt_trans hlf.i2 (by decide))] at c5
        have c6 := Lib.hid fun w => refPad_any c 2 (Nat.le_of_lt (Nat.lt_trans hlf.c2 (by decide))) (by decide) w
        rw [pad_two (v := c) (Nat.lt_trans hlf.c2 (by decide))] at c6
        have c7 := Lib.hid fun w => refPad_any f 3 (Nat.le_of_lt (Nat.lt_trans hlf.f2 (by decide))) (by decide) w
        rw [pad_three (v := f) hlf.f2] at c7
        have hr := rows16 (d4 y) (d2 m) (d2 dd) (d2 h) (d2 i) (d2 c) (d3 f) (by show 4 ≤ 10; decide) (by show 2 ≤ 10; decide) (by show 2 ≤ 10; decide) (by show 2 ≤ 10; decide) (by show 2 ≤ 10; decide) (by show 2 ≤ 10; decide) (by show 3 ≤ 10; decide)
        have HS13 : Hid (f ≠ 0 → ((((((((((((d4 y ++ [45]) ++ d2 m) ++ [45]) ++ d2 dd) ++ [84]) ++ d2 h) ++ [58]) ++ d2 i) ++ [58]) ++ d2 c) ++ [46]) ++ d3 f) ++ [90] = whenL y m dd h i c f) := fun q => by unfold whenL tailW headW; rw [if_neg q]; simp
        have HS14 : Hid (f = 0 → ((((((((((d4 y ++ [45]) ++ d2 m) ++ [45]) ++ d2 dd) ++ [84]) ++ d2 h) ++ [58]) ++ d2 i) ++ [58]) ++ d2 c) ++ [90] = whenL y m dd h i c f) := fun q => by unfold whenL tailW headW; rw [if_pos q]; simp
        generalize ((((((((((((d4 y ++ [45]) ++ d2 m) ++ [45]) ++ d2 dd) ++ [84]) ++ d2 h) ++ [58]) ++ d2 i) ++ [58]) ++ d2 c) ++ [46]) ++ d3 f) ++ [90] = s13 at *
        generalize (((((((((((d4 y ++ [45]) ++ d2 m) ++ [45]) ++ d2 dd) ++ [84]) ++ d2 h) ++ [58]) ++ d2 i) ++ [58]) ++ d2 c) ++ [46]) ++ d3 f = s12 at *
        generalize ((((((((((d4 y ++ [45]) ++ d2 m) ++ [45]) ++ d2 dd) ++ [84]) ++ d2 h) ++ [58]) ++ d2 i) ++ [58]) ++ d2 c) ++ [46] = s11 at *
        generalize ((((((((((d4 y ++ [45]) ++ d2 m) ++ [45]) ++ d2 dd) ++ [84]) ++ d2 h) ++ [58]) ++ d2 i) ++ [58]) ++ d2 c) ++ [90] = s14 at *
        generalize d4 y ++ [45] = s1 at *
        generalize s1 ++ d2 m = s2 at *
        generalize s2 ++ [45] = s3 at *
        generalize s3 ++ d2 dd = s4 at *
        generalize s4 ++ [84] = s5 at *
        generalize s5 ++ d2 h = s6 at *
        generalize s6 ++ [58] = s7 at *
        generalize s7 ++ d2 i = s8 at *
        generalize s8 ++ [58] = s9 at *
        generalize s9 ++ d2 c = s10 at *
        generalize d4 y = P1 at *
        generalize d2 m = P2 at *
        generalize d2 dd = P3 at *
        generalize d2 h = P4 at *
        generalize d2 i = P5 at *
        generalize d2 c = P6 at *
        generalize d3 f = P7 at *
        obtain ⟨ks1, ks2, ks3, ks4, ks5, ks6, ks7, ks8, ks9, ks10, ks11, ks12, ks13, ks14⟩ := hr
        have HLF := Lib.hid hlf
        clear hlf
        clear hyb hm12 hdd31
        go_wp2_with fail
        refine (cM.out _).mono ?_
        rintro e w5 ⟨rfl, hw⟩; subst w5
        go_wp2_with fail
        clear cM d1 d1n d1p
        refine (c1.out _).mono ?_
        rintro e w11 ⟨rfl, B1⟩
        have HB1 := Lib.hid (B1)
        clear B1 c1
        go_wp2_with fail
        refine (c2.out _).mono ?_
        rintro e w12 ⟨rfl, B2⟩
        have HB2 := Lib.hid (low16 HB1.out B2)
        clear B2 c2
        go_wp2_with fail
        refine (c3.out _).mono ?_
        rintro e w13 ⟨rfl, B3⟩
        have HB3 := Lib.hid (low16 HB2.out B3)
        clear B3 c3
        have x1 := HLF.out.h3; have x2 := HLF.out.h4; have x3 := HLF.out.h5
        go_wp2_with fail
        refine (c4.out _).mono ?_
        rintro e w14 ⟨rfl, B4⟩
        have HB4 := Lib.hid (low16 HB3.out B4)
        clear B4 c4
        clear x1 x2 x3
        have x1 := HLF.out.a3; have x2 := HLF.out.a4; have x3 := HLF.out.a5; have x4 := HLF.out.i3; have x5 := HLF.out.i4; have x6 := HLF.out.i5
        go_wp2_with fail
        refine (c5.out _).mono ?_
        rintro e w15 ⟨rfl, B5⟩
        have HB5 := Lib.hid (low16 HB4.out B5)
        clear B5 c5
        clear x1 x2 x3 x4 x5 x6
        have x1 := HLF.out.b3; have x2 := HLF.out.b4; have x3 := HLF.out.b5; have x4 := HLF.out.c3; have x5 := HLF.out.c4; have x6 := HLF.out.c5
        go_wp2_with fail
        refine (c6.out _).mono ?_
        rintro e w16 ⟨rfl, B6⟩
        have HB6 := Lib.hid (low16 HB5.out B6)
        clear B6 c6
        clear x1 x2 x3 x4 x5 x6
        have x1 := HLF.out.f3; have x2 := HLF.out.f4; have x3 := HLF.out.f5
        by_cases hf0 : f = 0
        · have HE := Lib.hid (HT.out _ (HS14.out hf0))
          subst hf0
          clear HT HS13 HS14
          go_wp2_with fail
          go_ret2
          exact ⟨⟨_, rfl, HE.out⟩, HB6.out⟩
        · have HE := Lib.hid (HT.out _ (HS13.out hf0))
          have n0 : ((f : Int) == 0) = false := beq_eq_false_iff_ne.2 (by omega)
          have n1 : ((f : Int) != 0) = true := by rw [bne, n0]; rfl
          clear HT HS13 HS14
          go_wp2_with fail
          refine (c7.out _).mono ?_
          rintro e w17 ⟨rfl, B7⟩
          have HB7 := Lib.hid (low16 HB6.out B7)
          clear B7 c7
          go_wp2_with fail
          go_ret2
          exact ⟨⟨_, rfl, HE.out⟩, HB7.out⟩
      · have d1 : decide ((q : Int) ≤ (d : Int)) = true := decide_eq_true (by omega)
        have d1n : decide (q ≤ d) = true := decide_eq_true (by omega)
        have d1p : q ≤ d := by omega
        have w2 : wrap64 ((d : Int) - (q : Int)) = ((d - q : Nat) : Int) := by unfold wrap64; omega
        have HW1 : Hid (wrap64 ((m : Int) + 1) = ((j + 1 + 1 : Nat) : Int)) := show _ = _ by unfold wrap64; omega
        have HE : Hid (msum y (j + 1) + (d - q) = d0) := show _ = _ by omega
        have HM : Hid ((((d - q : Nat) : Int)).toNat < ((d : Int)).toNat) := show _ < _ by omega
        clear hyb hb hq hst hmm hj12 hdb hlt hj
        go_wp2_with fail
        refine (cM.out _).mono ?_
        rintro e w5 ⟨rfl, hw⟩; subst w5
        go_wp2_with fail
        refine (cM.out _).mono ?_
        rintro e w5 ⟨rfl, hw⟩; subst w5
        clear cM
        go_wp2_with fail
        go_roundw
        case rel => exact ⟨trivial, j + 1, d - q, by first | rfl | rw [w2], by rw [HW1.out], HE.out⟩
        case measure => first | exact HM.out | (simp only [intOf]; rw [w2]; exact HM.out)
end Go.Proofs.YthkcaogohkgheaaDoor
