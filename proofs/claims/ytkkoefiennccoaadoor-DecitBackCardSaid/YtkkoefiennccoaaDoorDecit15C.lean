/-
  What decit's nearest does: the decimal that is just a number, or parts past their bounds.
-/
import Derived.Test.YtkkoefiennccoaaDoorDecit15B
namespace Go.Proofs.YtkkoefiennccoaaDoor
set_option maxRecDepth 100000
open Go.RowKit
open Go.Lib (decDigits itoa)

/-- What stands between the steps: digits and an exponent that come to the same end. -/
def NearRel (R : Nat × Int) (Z : Int) (v x : Value) : Prop :=
  ∃ (M : Nat) (p : Int) (f : Nat), v = .string ⟨(ds M).toArray⟩ ∧ x = .int .i64 p ∧ M ≠ 0 ∧ (ds M).length ≤ f ∧ near1 f M p = R ∧ (ds M).length ≤ 700 ∧ p + (ds M).length = Z
def NearRel2 (R : Nat × Int) (Z : Int) (v x : Value) : Prop :=
  ∃ (M : Nat) (p : Int) (f : Nat), v = .string ⟨(ds M).toArray⟩ ∧ x = .int .i64 p ∧ M ≠ 0 ∧ 34 ≤ f + (ds M).length ∧ near2 f M p = R ∧ (ds M).length ≤ 700 ∧ p + (ds M).length = Z

set_option maxHeartbeats 4000000 in
theorem nearest_core (N : Nat) (q : Int) (R S : Nat × Int) (hR : near1 (ds N).length N q = R) (hS : near2 34 R.1 R.2 = S) (hN : N ≠ 0) (hl : (ds N).length ≤ 700) (hq : -20000 ≤ q ∧ q ≤ 20000) (w : World) :
    Calls Tryd.prog 25 #[.string ⟨(ds N).toArray⟩, .int .i64 q] w fun e w' => e = .returned (.tuple #[.string ⟨(ds S.1).toArray⟩, .int .i64 S.2]) ∧ w' = w := by
  have hne : (ds N == []) = false := by
    have := ds_pos_len hN
    rw [beq_eq_false_iff_ne]
    intro e; rw [e] at this; simp at this
  obtain ⟨Z, hZ⟩ : ∃ Z, Z = q + ((ds N).length : Int) := ⟨_, rfl⟩
  have HZ : Hid (-20000 ≤ Z ∧ Z ≤ 20700) := show _ ∧ _ by omega
  have H0 : Hid (NearRel R Z (.string ⟨(ds N).toArray⟩) (.int .i64 q)) := ⟨N, q, _, rfl, rfl, hN, Nat.le_refl _, hR, hl, hZ.symm⟩
  have HS := Lib.hid hS
  have hne2 : ¬ ds N = [] := by simpa using hne
  generalize ds N = l0 at *
  clear hN hl hq hZ hR hS
  go_enter Tryd.func25, Tryd.ntmps25
  go_wp2_with fail
  clear hne hne2
  go_loopw [0, 1] (fun v x wr => wr = w ∧ NearRel R Z v x) (fun v _ _ => strLen v)
  case atStart => exact ⟨rfl, H0.out⟩
  case round =>
    obtain ⟨rfl, M, p, f, rfl, rfl, hM, hfl, hf, hl, hz⟩ := hrel
    clear H0
    have hz2 := HZ.out
    have hl1 := ds_pos_len hM
    have hsf := Lib.hid fun w => suffix_any (ds M) (by omega) w
    rw [suffix_ds hM] at hsf
    by_cases hgo : (34 < (ds M).length ∨ p < -6176) ∧ M % 10 = 0
    · obtain ⟨hc, hm⟩ := hgo
      rw [decide_eq_true hm] at hsf
      obtain ⟨f, rfl⟩ : ∃ f', f = f' + 1 := ⟨f - 1, by omega⟩
      rw [near1_step ⟨hc, hm⟩] at hf
      obtain ⟨t1, t2⟩ := ds_strip hM
      have s1 := pupto (ds M) ((ds M).length - 1) (((ds M).length : Int) - 1) (by omega) (by omega)
      rw [t1] at s1
      have hM2 : M / 10 ≠ 0 := by
        rcases Nat.lt_or_ge M 10 with h | h
        · exfalso; omega
        · omega
      have HR : Hid (NearRel R Z (.string ⟨(ds (M / 10)).toArray⟩) (.int .i64 (p + 1))) := ⟨M / 10, p + 1, f, rfl, rfl, hM2, by omega, hf, by omega, by omega⟩
      have HM2 : Hid (strLen (.string ⟨(ds (M / 10)).toArray⟩) < strLen (.string ⟨(ds M).toArray⟩)) := show _ < _ by rw [strLen_of, strLen_of]; omega
      generalize ds (M / 10) = l2 at *
      generalize ds M = l1 at *
      have e1 : wrap64 ((l1.length : Int) - 1) = (l1.length : Int) - 1 := by unfold wrap64; omega
      have e2 : wrap64 (p + 1) = p + 1 := by unfold wrap64; omega
      have hb : decide (34 < (l1.length : Int)) = true ∨ (decide (34 < (l1.length : Int)) = false ∧ decide (p < -6176) = true) := by
        by_cases g : 34 < l1.length
        · exact .inl (decide_eq_true (by omega))
        · exact .inr ⟨decide_eq_false (by omega), decide_eq_true (by omega)⟩
      have b3 : decide (34 < l1.length) = decide (34 < (l1.length : Int)) := by congr 1; simp; omega
      clear hf hm hc t1 t2 hM hM2 hl hz hz2 hl1 hfl
      rcases hb with b1 | ⟨b1, b2⟩
      all_goals (
        rw [b1] at b3
        go_wp2_with fail
        refine (hsf.out _).mono ?_
        rintro e w5 ⟨rfl, hw⟩; subst w5
        clear hsf
        go_wp2_with fail
        go_roundw
        case rel => exact ⟨trivial, by rw [e2]; exact HR.out⟩
        case measure => exact HM2.out)
    · rw [near1_stop hgo] at hf
      have hb : (decide (34 < ((ds M).length : Int)) = false ∧ decide (p < -6176) = false) ∨ (decide (34 < ((ds M).length : Int)) = true ∧ decide (M % 10 = 0) = false) ∨ (decide (34 < ((ds M).length : Int)) = false ∧ decide (p < -6176) = true ∧ decide (M % 10 = 0) = false) := by
        by_cases g : 34 < (ds M).length
        · exact .inr (.inl ⟨decide_eq_true (by omega), decide_eq_false fun e => hgo ⟨.inl g, e⟩⟩)
        · by_cases g2 : p < -6176
          · exact .inr (.inr ⟨decide_eq_false (by omega), decide_eq_true g2, decide_eq_false fun e => hgo ⟨.inr g2, e⟩⟩)
          · exact .inl ⟨decide_eq_false (by omega), decide_eq_false g2⟩
      have HR : Hid (NearRel2 S Z (.string ⟨(ds M).toArray⟩) (.int .i64 p)) := ⟨M, p, 34, rfl, rfl, hM, by omega, by have := HS.out; rw [← hf] at this; exact this, hl, hz⟩
      have hsf2 := Lib.hid fun (b : Bool) (h : decide (M % 10 = 0) = b) => h ▸ hsf.out
      have hb2 : ∀ (l : List UInt8), decide (34 < l.length) = decide (34 < (l.length : Int)) := fun l => by congr 1; simp; omega
      have hbm := hb2 (ds M)
      clear hb2 hsf hgo hf hl hz hz2 hl1 hM hfl
      generalize decide (M % 10 = 0) = bm at *
      generalize ds M = l1 at *
      rcases hb with ⟨b1, b2⟩ | ⟨b1, b2⟩ | ⟨b1, b2, b3⟩
      · rw [b1] at hbm
        clear hsf2
        go_wp2_with fail
        obtain ⟨W0, rfl⟩ : ∃ W0, W0 = wr := ⟨_, rfl⟩
        go_loopw [0, 1] (fun v x wr => wr = W0 ∧ NearRel2 S Z v x) (fun v _ _ => 34 - strLen v)
        case atStart => exact ⟨rfl, HR.out⟩
        case round =>
          obtain ⟨rfl, K, r, f, rfl, rfl, hK, hfl, hf, hl, hz⟩ := hrel
          clear HR
          have hz2 := HZ.out
          by_cases hgo : (ds K).length < 34 ∧ 6111 < r
          · obtain ⟨g1, g2⟩ := hgo
            obtain ⟨f, rfl⟩ : ∃ f', f = f' + 1 := ⟨f - 1, by omega⟩
            rw [near2_step ⟨g1, g2⟩] at hf
            have HR2 : Hid (NearRel2 S Z (.string ⟨(ds (K * 10)).toArray⟩) (.int .i64 (r - 1))) := ⟨K * 10, r - 1, f, rfl, rfl, by omega, by rw [ds_ten hK, List.length_append, List.length_singleton]; omega, hf, by rw [ds_ten hK, List.length_append, List.length_singleton]; omega, by rw [ds_ten hK, List.length_append, List.length_singleton]; omega⟩
            have HM2 : Hid (34 - strLen (.string ⟨(ds (K * 10)).toArray⟩) < 34 - strLen (.string ⟨(ds K).toArray⟩)) := show _ < _ by rw [strLen_of, strLen_of, ds_ten hK, List.length_append, List.length_singleton]; omega
            have k1 := pcat_is (a := (ds K).toArray) (b := #[48]) (u := ds K) (v := [48]) (t := ds (K * 10)) rfl rfl (ds_ten hK).symm (by simp; omega)
            generalize ds (K * 10) = l2 at *
            generalize ds K = l1 at *
            have e1 : wrap64 (r - 1) = r - 1 := by unfold wrap64; omega
            have d1 : decide ((l1.length : Int) < 34) = true := decide_eq_true (by omega)
            have d1n : decide (l1.length < 34) = true := decide_eq_true g1
            have d2 : decide (6111 < r) = true := decide_eq_true g2
            clear hf hl hz hz2 hK g1 g2 hfl
            go_wp2_with fail
            go_roundw
            case rel => exact ⟨trivial, by rw [e1]; exact HR2.out⟩
            case measure => exact HM2.out
          · rw [near2_stop hgo] at hf
            have hq2 : (decide (((ds K).length : Int) < 34) = false ∧ decide ((ds K).length < 34) = false) ∨ (decide (((ds K).length : Int) < 34) = true ∧ decide ((ds K).length < 34) = true ∧ decide (6111 < r) = false) := by
              by_cases g : (ds K).length < 34
              · exact .inr ⟨decide_eq_true (by omega), decide_eq_true g, decide_eq_false (by omega)⟩
              · exact .inl ⟨decide_eq_false (by omega), decide_eq_false g⟩
            have HE : Hid (∀ e w', e = Ending.returned (.tuple #[.string ⟨(ds K).toArray⟩, .int .i64 r]) → w' = wr → e = Ending.returned (.tuple #[.string ⟨(ds S.1).toArray⟩, .int .i64 S.2]) ∧ w' = wr) := fun e w' he hw => ⟨by rw [he, ← hf], hw⟩
            generalize ds K = l1 at *
            clear hf hl hz hz2 hK hgo hfl
            rcases hq2 with ⟨d1, d1n⟩ | ⟨d1, d1n, d2⟩
            · go_wp2_with fail
              go_ret2
              exact HE.out _ _ rfl rfl
            · go_wp2_with fail
              go_ret2
              exact HE.out _ _ rfl rfl
      · rw [b1] at hbm
        have hsf := Lib.hid (hsf2.out false b2)
        clear hsf2
        go_wp2_with fail
        refine (hsf.out _).mono ?_
        rintro e w5 ⟨rfl, hw⟩; subst w5
        clear hsf
        go_wp2_with fail
        obtain ⟨W0, rfl⟩ : ∃ W0, W0 = wr := ⟨_, rfl⟩
        go_loopw [0, 1] (fun v x wr => wr = W0 ∧ NearRel2 S Z v x) (fun v _ _ => 34 - strLen v)
        case atStart => exact ⟨rfl, HR.out⟩
        case round =>
          obtain ⟨rfl, K, r, f, rfl, rfl, hK, hfl, hf, hl, hz⟩ := hrel
          clear HR
          have hz2 := HZ.out
          by_cases hgo : (ds K).length < 34 ∧ 6111 < r
          · obtain ⟨g1, g2⟩ := hgo
            obtain ⟨f, rfl⟩ : ∃ f', f = f' + 1 := ⟨f - 1, by omega⟩
            rw [near2_step ⟨g1, g2⟩] at hf
            have HR2 : Hid (NearRel2 S Z (.string ⟨(ds (K * 10)).toArray⟩) (.int .i64 (r - 1))) := ⟨K * 10, r - 1, f, rfl, rfl, by omega, by rw [ds_ten hK, List.length_append, List.length_singleton]; omega, hf, by rw [ds_ten hK, List.length_append, List.length_singleton]; omega, by rw [ds_ten hK, List.length_append, List.length_singleton]; omega⟩
            have HM2 : Hid (34 - strLen (.string ⟨(ds (K * 10)).toArray⟩) < 34 - strLen (.string ⟨(ds K).toArray⟩)) := show _ < _ by rw [strLen_of, strLen_of, ds_ten hK, List.length_append, List.length_singleton]; omega
            have k1 := pcat_is (a := (ds K).toArray) (b := #[48]) (u := ds K) (v := [48]) (t := ds (K * 10)) rfl rfl (ds_ten hK).symm (by simp; omega)
            generalize ds (K * 10) = l2 at *
            generalize ds K = l1 at *
            have e1 : wrap64 (r - 1) = r - 1 := by unfold wrap64; omega
            have d1 : decide ((l1.length : Int) < 34) = true := decide_eq_true (by omega)
            have d1n : decide (l1.length < 34) = true := decide_eq_true g1
            have d2 : decide (6111 < r) = true := decide_eq_true g2
            clear hf hl hz hz2 hK g1 g2 hfl
            go_wp2_with fail
            go_roundw
            case rel => exact ⟨trivial, by rw [e1]; exact HR2.out⟩
            case measure => exact HM2.out
          · rw [near2_stop hgo] at hf
            have hq2 : (decide (((ds K).length : Int) < 34) = false ∧ decide ((ds K).length < 34) = false) ∨ (decide (((ds K).length : Int) < 34) = true ∧ decide ((ds K).length < 34) = true ∧ decide (6111 < r) = false) := by
              by_cases g : (ds K).length < 34
              · exact .inr ⟨decide_eq_true (by omega), decide_eq_true g, decide_eq_false (by omega)⟩
              · exact .inl ⟨decide_eq_false (by omega), decide_eq_false g⟩
            have HE : Hid (∀ e w', e = Ending.returned (.tuple #[.string ⟨(ds K).toArray⟩, .int .i64 r]) → w' = wr → e = Ending.returned (.tuple #[.string ⟨(ds S.1).toArray⟩, .int .i64 S.2]) ∧ w' = wr) := fun e w' he hw => ⟨by rw [he, ← hf], hw⟩
            generalize ds K = l1 at *
            clear hf hl hz hz2 hK hgo hfl
            rcases hq2 with ⟨d1, d1n⟩ | ⟨d1, d1n, d2⟩
            · go_wp2_with fail
              go_ret2
              exact HE.out _ _ rfl rfl
            · go_wp2_with fail
              go_ret2
              exact HE.out _ _ rfl rfl
      · rw [b1] at hbm
        have hsf := Lib.hid (hsf2.out false b3)
        clear hsf2
        go_wp2_with fail
        refine (hsf.out _).mono ?_
        rintro e w5 ⟨rfl, hw⟩; subst w5
        clear hsf
        go_wp2_with fail
        obtain ⟨W0, rfl⟩ : ∃ W0, W0 = wr := ⟨_, rfl⟩
        go_loopw [0, 1] (fun v x wr => wr = W0 ∧ NearRel2 S Z v x) (fun v _ _ => 34 - strLen v)
        case atStart => exact ⟨rfl, HR.out⟩
        case round =>
          obtain ⟨rfl, K, r, f, rfl, rfl, hK, hfl, hf, hl, hz⟩ := hrel
          clear HR
          have hz2 := HZ.out
          by_cases hgo : (ds K).length < 34 ∧ 6111 < r
          · obtain ⟨g1, g2⟩ := hgo
            obtain ⟨f, rfl⟩ : ∃ f', f = f' + 1 := ⟨f - 1, by omega⟩
            rw [near2_step ⟨g1, g2⟩] at hf
            have HR2 : Hid (NearRel2 S Z (.string ⟨(ds (K * 10)).toArray⟩) (.int .i64 (r - 1))) := ⟨K * 10, r - 1, f, rfl, rfl, by omega, by rw [ds_ten hK, List.length_append, List.length_singleton]; omega, hf, by rw [ds_ten hK, List.length_append, List.length_singleton]; omega, by rw [ds_ten hK, List.length_append, List.length_singleton]; omega⟩
            have HM2 : Hid (34 - strLen (.string ⟨(ds (K * 10)).toArray⟩) < 34 - strLen (.string ⟨(ds K).toArray⟩)) := show _ < _ by rw [strLen_of, strLen_of, ds_ten hK, List.length_append, List.length_singleton]; omega
            have k1 := pcat_is (a := (ds K).toArray) (b := #[48]) (u := ds K) (v := [48]) (t := ds (K * 10)) rfl rfl (ds_ten hK).symm (by simp; omega)
            generalize ds (K * 10) = l2 at *
            generalize ds K = l1 at *
            have e1 : wrap64 (r - 1) = r - 1 := by unfold wrap64; omega
            have d1 : decide ((l1.length : Int) < 34) = true := decide_eq_true (by omega)
            have d1n : decide (l1.length < 34) = true := decide_eq_true g1
            have d2 : decide (6111 < r) = true := decide_eq_true g2
            clear hf hl hz hz2 hK g1 g2 hfl
            go_wp2_with fail
            go_roundw
            case rel => exact ⟨trivial, by rw [e1]; exact HR2.out⟩
            case measure => exact HM2.out
          · rw [near2_stop hgo] at hf
            have hq2 : (decide (((ds K).length : Int) < 34) = false ∧ decide ((ds K).length < 34) = false) ∨ (decide (((ds K).length : Int) < 34) = true ∧ decide ((ds K).length < 34) = true ∧ decide (6111 < r) = false) := by
              by_cases g : (ds K).length < 34
              · exact .inr ⟨decide_eq_true (by omega), decide_eq_true g, decide_eq_false (by omega)⟩
              · exact .inl ⟨decide_eq_false (by omega), decide_eq_false g⟩
            have HE : Hid (∀ e w', e = Ending.returned (.tuple #[.string ⟨(ds K).toArray⟩, .int .i64 r]) → w' = wr → e = Ending.returned (.tuple #[.string ⟨(ds S.1).toArray⟩, .int .i64 S.2]) ∧ w' = wr) := fun e w' he hw => ⟨by rw [he, ← hf], hw⟩
            generalize ds K = l1 at *
            clear hf hl hz hz2 hK hgo hfl
            rcases hq2 with ⟨d1, d1n⟩ | ⟨d1, d1n, d2⟩
            · go_wp2_with fail
              go_ret2
              exact HE.out _ _ rfl rfl
            · go_wp2_with fail
              go_ret2
              exact HE.out _ _ rfl rfl

set_option maxHeartbeats 1000000 in
theorem nearest_zero (q : Int) (w : World) :
    Calls Tryd.prog 25 #[.string ⟨(ds 0).toArray⟩, .int .i64 q] w fun e w' => e = .returned (.tuple #[.string ⟨#[48]⟩, .int .i64 (min (max q (-6176)) 6111)]) ∧ w' = w := by
  rw [ds_zero]
  go_enter Tryd.func25, Tryd.ntmps25
  go_wp2_with fail
  go_ret2
  exact ⟨rfl, rfl⟩
theorem nearest_any15 (N : Nat) (q : Int) (hl : (ds N).length ≤ 700) (hq : -20000 ≤ q ∧ q ≤ 20000) (w : World) :
    Calls Tryd.prog 25 #[.string ⟨(ds N).toArray⟩, .int .i64 q] w fun e w' => e = .returned (.tuple #[.string ⟨(dec (nr N q).1).toArray⟩, .int .i64 (nr N q).2]) ∧ w' = w := by
  unfold nr
  by_cases h : N = 0
  · rw [if_pos h, h]
    exact nearest_zero q w
  · rw [if_neg h]
    obtain ⟨a, _, c, _, _⟩ := near1_spec (ds N).length N q h (Nat.le_refl _)
    obtain ⟨a', _, _, _⟩ := near2_spec 34 _ _ a (by omega) c
    rw [dec_pos a']
    exact nearest_core N q _ _ rfl rfl h hl hq w
end Go.Proofs.YtkkoefiennccoaaDoor
