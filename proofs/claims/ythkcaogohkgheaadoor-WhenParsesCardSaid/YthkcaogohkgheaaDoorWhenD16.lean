/-
  What when's Text does.
-/
import Derived.Test.YthkcaogohkgheaaDoorWhenC16
namespace Go.Proofs.YthkcaogohkgheaaDoor
set_option maxRecDepth 100000
open Go.RowKit

theorem dateL_len (y m d : Nat) : (dateL y m d).length = 10 := rfl
theorem clockL_len (h i c : Nat) : (clockL h i c).length = 8 := rfl
theorem head_cat (y m d h i c : Nat) : (dateL y m d ++ [84]) ++ clockL h i c = headW y m d h i c := rfl
theorem d3_len (v : Nat) : (d3 v).length = 3 := rfl

set_option maxHeartbeats 1000000 in
theorem text_out16 (x : Int) (h : x < 0 ∨ 253402300799999 < x) (w : World) :
    Calls Tryd.prog 8 #[.int .i64 x] w fun e w' => e = .returned (.tuple #[.string ⟨#[]⟩, .bool false]) ∧ w' = w := by
  have d : decide (x < 0) = true ∨ (decide (x < 0) = false ∧ decide (253402300799999 < x) = true) := by
    by_cases q : x < 0
    · exact .inl (decide_eq_true q)
    · exact .inr ⟨decide_eq_false q, decide_eq_true (by omega)⟩
  clear h
  rcases d with d1 | ⟨d1, d2⟩
  all_goals (
    go_enter Tryd.func8, Tryd.ntmps8
    go_wp2_with fail
    go_ret2
    exact ⟨rfl, rfl⟩)

set_option maxHeartbeats 4000000 in
theorem text_in16 (ms : Nat) (hm : ms ≤ 253402300799999) (w : World) (hL : L16 w) :
    Calls Tryd.prog 8 #[.int .i64 (ms : Int)] w fun e w' => (∃ t, e = .returned (.tuple #[.string ⟨t.toArray⟩, .bool true]) ∧ TextW ms t) ∧ Below w.heap.size w w' := by
  have d1 : decide ((ms : Int) < 0) = false := decide_eq_false (by omega)
  have d2 : decide (253402300799999 < (ms : Int)) = false := decide_eq_false (by omega)
  have d2n : decide (253402300799999 < ms) = false := decide_eq_false (by omega)
  obtain ⟨D, hD⟩ : ∃ D, D = ms / 86400000 := ⟨_, rfl⟩
  obtain ⟨L, hLe⟩ : ∃ L, L = ms % 86400000 := ⟨_, rfl⟩
  obtain ⟨f, hf⟩ : ∃ f, f = ms % 1000 := ⟨_, rfl⟩
  have cD := Lib.hid fun w => dateOf_any D (by omega) w
  have cC := Lib.hid fun w hW => clock_any L (by omega) w hW
  have cP := Lib.hid fun w hW => padded_any f 3 (by omega) (by omega) w hW
  rw [pad_three (by omega)] at cP
  have X : Hid (((ms : Int).tdiv 86400000 = (D : Int) ∧ (ms : Int) / 86400000 = (D : Int)) ∧ wrap64 (D : Int) = (D : Int)) := ⟨⟨t16 ms 86400000 D hD.symm, q16 ms 86400000 D hD.symm⟩, wr16 (by omega)⟩
  have Y : Hid (((ms : Int).tmod 86400000 = (L : Int) ∧ (ms : Int) % 86400000 = (L : Int)) ∧ wrap64 (L : Int) = (L : Int)) := ⟨⟨m16 ms 86400000 L hLe.symm, r16 ms 86400000 L hLe.symm⟩, wr16 (by omega)⟩
  have Z : Hid (((ms : Int).tmod 1000 = (f : Int) ∧ (ms : Int) % 1000 = (f : Int)) ∧ wrap64 (f : Int) = (f : Int)) := ⟨⟨m16 ms 1000 f hf.symm, r16 ms 1000 f hf.symm⟩, wr16 (by omega)⟩
  have HP : Hid (L / 3600000 = ms / 3600000 % 24 ∧ L / 60000 % 60 = ms / 60000 % 60 ∧ L / 1000 % 60 = ms / 1000 % 60) := show _ ∧ _ ∧ _ from ⟨by omega, by omega, by omega⟩
  obtain ⟨e1, e2, e3⟩ := HP.out
  rw [e1, e2, e3] at cC
  have HDn : Hid (D < 2932897) := show _ < _ by omega
  have HD := Lib.hid hD
  have HF := Lib.hid hf
  clear hD hLe hm e1 e2 e3 HP hf
  obtain ⟨x1, x2⟩ := X.out
  obtain ⟨x3, x4⟩ := x1
  go_enter Tryd.func8, Tryd.ntmps8
  go_wp2_with fail
  refine (cD.out _).mono ?_
  rintro e w1 ⟨⟨k, j, d, hv, hn, rfl⟩, B1⟩
  have hk := year_lt (k := k) (j := j) (d := d) (by rw [hn]; exact HDn.out)
  have hj := hv.1
  have hd := hv.2
  have hmd := mdy_bounds (1970 + k) (j + 1)
  have cT := Lib.hid fun w hW => dateText_any (1970 + k) (j + 1) (d + 1) (by omega) (by omega) (by omega) (by omega) w hW
  have HT : Hid (∀ t, t = whenL (1970 + k) (j + 1) (d + 1) (ms / 3600000 % 24) (ms / 60000 % 60) (ms / 1000 % 60) f → TextW ms t) := show ∀ _, _ from
    fun t ht => ⟨k, j, d, hv, hn.trans HD.out, by rw [ht, HF.out]⟩
  have HB1 := Lib.hid B1
  clear B1 cD x2 x3 x4 X hv hn hk hj hd hmd
  generalize dv (1970 + k) (j + 1) (d + 1) = V at *
  generalize hp1 : dateL (1970 + k) (j + 1) (d + 1) = p1 at *
  generalize hp2 : clockL (ms / 3600000 % 24) (ms / 60000 % 60) (ms / 1000 % 60) = p2 at *
  have l1 : p1.length = 10 := by rw [← hp1]; rfl
  have l2 : p2.length = 8 := by rw [← hp2]; rfl
  have hh : (p1 ++ [84]) ++ p2 = headW (1970 + k) (j + 1) (d + 1) (ms / 3600000 % 24) (ms / 60000 % 60) (ms / 1000 % 60) := by rw [← hp1, ← hp2]; rfl
  have k1 := wcat p1.toArray #[84] p1 [84] rfl rfl (by simp; omega)
  have k2 := wcat (p1 ++ [84]).toArray p2.toArray (p1 ++ [84]) p2 rfl rfl (by simp; omega)
  have l3 : ((p1 ++ [84]) ++ p2).length = 19 := by simp; omega
  have k3 := wcat #[46] (d3 f).toArray [46] (d3 f) rfl rfl (by simp [d3_len])
  have k4 := wcat ((p1 ++ [84]) ++ p2).toArray ([46] ++ d3 f).toArray ((p1 ++ [84]) ++ p2) ([46] ++ d3 f) rfl rfl (by rw [l3]; simp [d3_len])
  have k5 := wcat (((p1 ++ [84]) ++ p2) ++ ([46] ++ d3 f)).toArray #[90] (((p1 ++ [84]) ++ p2) ++ ([46] ++ d3 f)) [90] rfl rfl (by rw [List.length_append, l3]; simp [d3_len])
  have k6 := wcat ((p1 ++ [84]) ++ p2).toArray #[90] ((p1 ++ [84]) ++ p2) [90] rfl rfl (by rw [l3]; simp)
  have HA : Hid (f ≠ 0 → TextW ms ((((p1 ++ [84]) ++ p2) ++ ([46] ++ d3 f)) ++ [90])) := show _ → _ from fun h => HT.out _ (by rw [hh]; unfold whenL tailW; rw [if_neg h]; simp)
  have HC : Hid (f = 0 → TextW ms (((p1 ++ [84]) ++ p2) ++ [90])) := show _ → _ from fun h => HT.out _ (by rw [hh]; unfold whenL tailW; rw [if_pos h])
  generalize (((p1 ++ [84]) ++ p2) ++ ([46] ++ d3 f)) ++ [90] = s5 at *
  generalize ((p1 ++ [84]) ++ p2) ++ [90] = s6 at *
  generalize ((p1 ++ [84]) ++ p2) ++ ([46] ++ d3 f) = s4 at *
  generalize [46] ++ d3 f = s3 at *
  generalize (p1 ++ [84]) ++ p2 = s2 at *
  generalize p1 ++ [84] = s1 at *
  generalize d3 f = p3 at *
  clear l1 l2 l3 hh hp1 hp2 HT
  go_wp2_with fail
  refine (cT.out _ (hL.after HB1.out)).mono ?_
  rintro e w2 ⟨rfl, B2⟩
  have HB2 := Lib.hid (low16 HB1.out B2)
  clear B2 cT
  obtain ⟨⟨x1, x2⟩, x3⟩ := Y.out
  go_wp2_with fail
  refine (cC.out _ (hL.after HB2.out)).mono ?_
  rintro e w3 ⟨rfl, B3⟩
  have HB3 := Lib.hid (low16 HB2.out B3)
  clear B3 cC x1 x2 x3 Y
  obtain ⟨⟨x1, x2⟩, x3⟩ := Z.out
  by_cases h0 : f = 0
  · subst h0
    have HE := Lib.hid (HC.out rfl)
    clear HA HC
    go_wp2_with fail
    go_ret2
    exact ⟨⟨_, rfl, HE.out⟩, HB3.out⟩
  · have n0 : ((f : Int) == 0) = false := beq_eq_false_iff_ne.2 (by omega)
    have n1 : ((f : Int) != 0) = true := by rw [bne, n0]; rfl
    have HE := Lib.hid (HA.out h0)
    clear HA HC h0
    go_wp2_with fail
    refine (cP.out _ (hL.after HB3.out)).mono ?_
    rintro e w4 ⟨rfl, B4⟩
    have HB4 := Lib.hid (low16 HB3.out B4)
    clear B4 cP
    go_wp2_with fail
    go_ret2
    exact ⟨⟨_, rfl, HE.out⟩, HB4.out⟩
end Go.Proofs.YthkcaogohkgheaaDoor
