/-
  What the document's DecText does; for all bits; no condition.
-/
import Derived.Test.YtkkoefiennccoaaGreatDoorRefN15
namespace Go.Proofs.YtkkoefiennccoaaGreatDoor
open Go.RowKit
open Go.Lib (decDigits itoa)

set_option maxHeartbeats 400000 in
theorem decText_nan (X L : Int) (n : Bool) (w : World)
    (cS : Hid (∀ w, Calls Tryz.prog 20 #[.int .u64 X, .int .u64 L] w fun e w' => e = .returned (.tuple #[.int .i64 3, .bool n, .agg #[.int .u64 0, .int .u64 0], .int .i64 0]) ∧ Below w.heap.size w w')) :
    Calls Tryz.prog 8 #[.int .u64 X, .int .u64 L] w fun e w' => e = .returned (.string ⟨tN.toArray⟩) ∧ Below w.heap.size w w' := by
  cases n
  all_goals (
    go_enter Tryz.func8, Tryz.ntmps8
    go_wp2_with fail
    refine (cS.out _).mono ?_
    rintro e w1 ⟨rfl, B1⟩
    go_wp2_with fail
    go_ret
    exact ⟨rfl, B1.alloc B1.size _⟩)

set_option maxHeartbeats 400000 in
theorem decText_inf (X L : Int) (n : Bool) (w : World)
    (cS : Hid (∀ w, Calls Tryz.prog 20 #[.int .u64 X, .int .u64 L] w fun e w' => e = .returned (.tuple #[.int .i64 2, .bool n, .agg #[.int .u64 0, .int .u64 0], .int .i64 0]) ∧ Below w.heap.size w w')) :
    Calls Tryz.prog 8 #[.int .u64 X, .int .u64 L] w fun e w' => e = .returned (.string ⟨(sg n ++ tI).toArray⟩) ∧ Below w.heap.size w w' := by
  have k0 := dcat #[] #[73, 110, 102, 105, 110, 105, 116, 121] ([] : List UInt8) tI rfl rfl (by decide)
  have k1 := dcat #[45] #[73, 110, 102, 105, 110, 105, 116, 121] [45] tI rfl rfl (by decide)
  cases n
  all_goals (
    go_enter Tryz.func8, Tryz.ntmps8
    go_wp2_with fail
    refine (cS.out _).mono ?_
    rintro e w1 ⟨rfl, B1⟩
    go_wp2_with fail
    go_ret
    exact ⟨rfl, B1.alloc B1.size _⟩)

theorem body_zero {d : List UInt8} (h : -6 ≤ (0 : Int) + (d.length : Int) - 1) : bodyL d 0 = d := by
  unfold bodyL; rw [if_pos ⟨by omega, h⟩, if_pos rfl]
theorem body_dot {d e : List UInt8} {x : Int} (h : x ≤ 0 ∧ -6 ≤ x + (d.length : Int) - 1) (h0 : ¬ x = 0) (he : e = List.replicate (1 - x - (d.length : Int)).toNat 48 ++ d) {j : Nat} (hj : (e.length : Int) + x = j) : bodyL d x = e.take j ++ 46 :: e.drop j := by
  unfold bodyL; rw [if_pos h, if_neg h0, ← he, hj]; rfl
theorem body_exp {d : List UInt8} {x a : Int} (ha : a = x + (d.length : Int) - 1) (h : ¬ (x ≤ 0 ∧ -6 ≤ a)) : bodyL d x = (d.take 1 ++ (if 1 < d.length then [46] ++ d.drop 1 else [])) ++ (if a < 0 then [69, 45] ++ itoa (-a) else [69, 43] ++ itoa a) := by
  unfold bodyL
  rw [← ha, if_neg h]
  congr 1
  by_cases q : a < 0
  · rw [if_pos q, if_pos q]; rfl
  · rw [if_neg q, if_neg q]; rfl

set_option maxHeartbeats 2000000 in
set_option maxRecDepth 100000 in
theorem decText_fin (X L c1 c0 x : Int) (n : Bool) (d : List UInt8) (w : World)
    (cS : Hid (∀ w, Calls Tryz.prog 20 #[.int .u64 X, .int .u64 L] w fun e w' => e = .returned (.tuple #[.int .i64 1, .bool n, .agg #[.int .u64 c1, .int .u64 c0], .int .i64 x]) ∧ Below w.heap.size w w'))
    (cX : Hid (∀ w, Calls Tryz.prog 11 #[.agg #[.int .u64 c1, .int .u64 c0]] w fun e w' => e = .returned (.string ⟨d.toArray⟩) ∧ Below w.heap.size w w'))
    (hd0 : 1 ≤ d.length) (hd1 : d.length ≤ 40) (hx0 : -7000 ≤ x) (hx1 : x ≤ 7000) :
    Calls Tryz.prog 8 #[.int .u64 X, .int .u64 L] w fun e w' => e = .returned (.string ⟨(sg n ++ bodyL d x).toArray⟩) ∧ Below w.heap.size w w' := by
  obtain ⟨T, hT⟩ : ∃ T, T = sg n ++ bodyL d x := ⟨_, rfl⟩
  rw [← hT]
  obtain ⟨y, hy⟩ : ∃ y, y = sg n := ⟨_, rfl⟩
  have hyl : y.length ≤ 1 := by rw [hy]; exact sg_length n
  have HY := Lib.hid hy
  rw [← hy] at hT
  have HT := Lib.hid hT
  clear hT hy
  go_enter Tryz.func8, Tryz.ntmps8
  go_wp2_with fail
  refine (cS.out _).mono ?_
  rintro e w1 ⟨rfl, B1⟩
  have HB := Lib.hid B1
  clear B1
  go_upto_if 21 with fail
  obtain ⟨V, hV⟩ : ∃ V, V = w1.alloc (Obj.cells #[.int .u64 c1, .int .u64 c0] 31) := ⟨_, rfl⟩
  have HB2 : Hid (Below w.heap.size w V) := by rw [hV]; exact HB.out.alloc HB.out.size _
  have i0 : V.cell? ⟨w1.heap.size, 0, none⟩ = some (.int .u64 c1) := by rw [hV]; simp [go_sem]
  have i1 : V.cell? ⟨w1.heap.size, 1, none⟩ = some (.int .u64 c0) := by rw [hV]; simp [go_sem]
  rw [← hV]
  clear hV HB cS
  generalize w1.heap.size = g at *
  go_cut [9] (fun v9 wx => v9 = .string ⟨y.toArray⟩ ∧ wx = V)
  case first =>
    cases n
    all_goals
      go_wp2_with fail
      go_meet
      exact ⟨by rw [HY.out]; rfl, rfl⟩
  case rest =>
    obtain ⟨rfl, rfl⟩ := hcut
    go_wp2_with fail
    refine (cX.out _).mono ?_
    rintro e w2 ⟨rfl, B2⟩
    have HB3 := Lib.hid (low_p HB2.out B2)
    clear B2 cX i0 i1 HB2
    obtain ⟨a, ha⟩ : ∃ a, a = x + (d.length : Int) - 1 := ⟨_, rfl⟩
    have a0 : -8000 ≤ a := by omega
    have a1 : a ≤ 8000 := by omega
    obtain ⟨x1, hx⟩ : ∃ x1, x1 = x + (d.length : Int) := ⟨_, rfl⟩
    by_cases hc : x ≤ 0 ∧ -6 ≤ a
    · have b1 : decide (x ≤ 0) = true := decide_eq_true hc.1
      have b2 : decide (-6 ≤ a) = true := decide_eq_true hc.2
      by_cases h0 : x = 0
      · have hb := body_zero (d := d) (by omega)
        rw [h0, hb] at HT
        have k1 := dcat y.toArray d.toArray y d rfl rfl (by omega)
        rw [← HT.out] at k1
        subst h0
        have e1 : wrap64 ((d.length : Int)) = (d.length : Int) := by unfold wrap64; omega
        have e2 : wrap64 ((d.length : Int) - 1) = a := by unfold wrap64; omega
        clear hb ha hx hc hx0 hx1 a0 a1 hyl hd0 hd1
        go_wp2_with fail
        go_ret
        exact ⟨rfl, HB3.out⟩
      · obtain ⟨p, hp⟩ : ∃ p, p = 1 - x - (d.length : Int) := ⟨_, rfl⟩
        obtain ⟨e, he⟩ : ∃ e, e = List.replicate (1 - x - (d.length : Int)).toNat 48 ++ d := ⟨_, rfl⟩
        have hel : (e.length : Int) + x ≥ 1 := by rw [he, List.length_append, List.length_replicate]; omega
        have hel2 : e.length ≤ 100 := by rw [he, List.length_append, List.length_replicate]; omega
        obtain ⟨j, hj⟩ : ∃ j : Nat, (e.length : Int) + x = j := ⟨((e.length : Int) + x).toNat, by omega⟩
        have hb := body_dot (by rw [← ha]; exact hc) h0 he hj
        have jl : j ≤ e.length := by omega
        have s1 := upto15 e j j rfl jl
        have s2 := slice_from e j j rfl jl
        have k1 := dcat_is (a := (List.replicate p.toNat (48 : UInt8)).toArray) (b := d.toArray) (t := e) rfl rfl (by rw [he, ← hp]) (by simp; omega)
        have zl : (List.replicate p.toNat (48 : UInt8)).length ≤ 100 := by simp; omega
        have cN := Lib.hid fun w => noughts_any p (by omega) w
        rw [hb] at HT
        have l1 : (e.take j).length ≤ 100 := by rw [List.length_take]; omega
        have l2 : (e.drop j).length ≤ 100 := by rw [List.length_drop]; omega
        generalize e.take j = u at *
        generalize e.drop j = v at *
        have HT2 : Hid (T = ((y ++ u) ++ [46]) ++ v) := show _ = _ by rw [HT.out]; simp
        have k2 := dcat y.toArray u.toArray y u rfl rfl (by omega)
        have k3 := dcat (y ++ u).toArray #[46] (y ++ u) [46] rfl rfl (by simp; omega)
        have k4 := dcat ((y ++ u) ++ [46]).toArray v.toArray ((y ++ u) ++ [46]) v rfl rfl (by simp; omega)
        rw [← HT2.out] at k4
        generalize (y ++ u) ++ [46] = y2 at *
        generalize y ++ u = y1 at *
        have e3 : (x == 0) = false := beq_eq_false_iff_ne.2 h0
        have e4 : wrap64 (1 - x) = 1 - x := by unfold wrap64; omega
        have e5 : wrap64 (1 - x - (d.length : Int)) = p := by unfold wrap64; omega
        have e1 : wrap64 (x + (d.length : Int)) = x1 := by unfold wrap64; omega
        have e2 : wrap64 (x1 - 1) = a := by unfold wrap64; omega
        have e6 : wrap64 ((e.length : Int) + x) = (j : Int) := by unfold wrap64; omega
        generalize List.replicate p.toNat (48 : UInt8) = z at *
        have c1 : decide (0 ≤ (j : Int)) = true := decide_eq_true (by omega)
        have c3 : (j : Int) ≤ (e.length : Int) := by omega
        clear hb ha hx hc hx0 hx1 a0 a1 hyl hd0 hd1 h0 he hp hel hel2 hj zl l1 l2 HT HT2
        go_wp2_with fail
        refine (cN.out _).mono ?_
        rintro e' w5 ⟨rfl, hw5⟩; subst w5
        clear cN
        go_wp2_with fail
        go_quiet (fail)
        go_wp2_with fail
        go_ret
        exact ⟨rfl, by first | exact HB3.out | exact low_drewN HB3.out _⟩
    · have hb := body_exp ha hc
      rw [hb] at HT
      clear hb
      have hc2 : decide (x ≤ 0) = false ∨ (decide (x ≤ 0) = true ∧ decide (-6 ≤ a) = false) := by
        by_cases q : x ≤ 0
        · exact .inr ⟨decide_eq_true q, decide_eq_false fun h => hc ⟨q, h⟩⟩
        · exact .inl (decide_eq_false q)
      have e1 : wrap64 (x + (d.length : Int)) = x1 := by unfold wrap64; omega
      have e2 : wrap64 (x1 - 1) = a := by unfold wrap64; omega
      have s1 := upto15 d 1 1 rfl hd0
      have s2 := slice_from d 1 1 rfl hd0
      have l1 : (d.take 1).length ≤ 1 := by rw [List.length_take]; omega
      have l2 : (d.drop 1).length ≤ 40 := by rw [List.length_drop]; omega
      have hm : ∃ M, M = if 1 < d.length then [46] ++ d.drop 1 else [] := ⟨_, rfl⟩
      obtain ⟨M, hM⟩ := hm
      rw [← hM] at HT
      have hMl : M.length ≤ 41 := by rw [hM]; split <;> simp <;> omega
      generalize d.take 1 = u at *
      generalize d.drop 1 = v at *
      have k1 := dcat y.toArray u.toArray y u rfl rfl (by omega)
      have HTa : Hid (T = (((y ++ u) ++ M) ++ if a < 0 then [69, 45] ++ itoa (-a) else [69, 43] ++ itoa a)) := show _ = _ by rw [HT.out]; simp
      have k2 := dcat (y ++ u).toArray #[46] (y ++ u) [46] rfl rfl (by simp; omega)
      have k3 := dcat ((y ++ u) ++ [46]).toArray v.toArray ((y ++ u) ++ [46]) v rfl rfl (by simp; omega)
      have hl3 : ((y ++ u) ++ M).length ≤ 100 := by simp; omega
      have hM1 : Hid (1 < d.length → ((y ++ u) ++ [46]) ++ v = (y ++ u) ++ M) := fun q => by rw [hM, if_pos q]; simp
      have hM2 : Hid (¬ 1 < d.length → (y ++ u) = (y ++ u) ++ M) := fun q => by rw [hM, if_neg q]; simp
      generalize (y ++ u) ++ M = y4 at *
      generalize hy3 : ((y ++ u) ++ [46]) ++ v = y3 at *
      generalize (y ++ u) ++ [46] = y2 at *
      generalize y ++ u = y1 at *
      have HQ : Hid (1 < d.length ∨ ¬ 1 < d.length) := Decidable.em _
      have HD0 := Lib.hid hd0
      have HA0 := Lib.hid a0; have HA1 := Lib.hid a1
      clear hy3 hM hMl ha hx hc hx0 hx1 hyl hd1 l1 l2 HT hd0 a0 a1
      rcases hc2 with b1 | ⟨b1, b2⟩
      all_goals (
        go_upto_if 76 with fail
        generalize w2 = w3 at *
        go_cut [12] (fun v12 wx => v12 = .string ⟨y4.toArray⟩ ∧ wx = w3)
        case first =>
          rcases HQ.out with q | q
          · have d1 : decide (1 < (d.length : Int)) = true := decide_eq_true (by omega)
            have d1n : decide (1 < d.length) = true := decide_eq_true q
            have HE := Lib.hid (hM1.out q)
            clear hM1 hM2 HQ
            go_wp2_with fail
            go_meet
            exact ⟨by rw [HE.out], rfl⟩
          · have d1 : decide (1 < (d.length : Int)) = false := decide_eq_false (by omega)
            have d1n : decide (1 < d.length) = false := decide_eq_false q
            have HE := Lib.hid (hM2.out q)
            clear hM1 hM2 HQ
            go_wp2_with fail
            go_meet
            exact ⟨by rw [← HE.out], rfl⟩
        case rest =>
          obtain ⟨rfl, rfl⟩ := hcut
          clear k1 k2 k3 s1 s2 hM1 hM2 HQ e1
          by_cases q : a < 0
          · have d1 : decide (a < 0) = true := decide_eq_true q
            have cI := Lib.hid fun w => refInt_any (-a) (by have := HA0.out; unfold lowest; omega) (by have := HA0.out; unfold highest; omega) w
            have hi := itoa_len (v := -a) (by omega) (by have := HA0.out; omega)
            have HT2 : Hid (T = (y4 ++ [69, 45]) ++ itoa (-a)) := show _ = _ by rw [HTa.out, if_pos q]; simp
            obtain ⟨b, hb⟩ : ∃ b, b = -a := ⟨_, rfl⟩
            have e3 : wrap64 (-a) = b := by have := HA0.out; unfold wrap64; omega
            rw [← hb] at cI hi HT2
            generalize itoa b = t at *
            have k1 := dcat y4.toArray #[69, 45] y4 [69, 45] rfl rfl (by simp; omega)
            have k2 := dcat (y4 ++ [69, 45]).toArray t.toArray (y4 ++ [69, 45]) t rfl rfl (by simp; omega)
            rw [← HT2.out] at k2
            generalize y4 ++ [69, 45] = y5 at *
            clear hl3 hi q HTa HT2 hb
            go_wp2_with fail
            refine (cI.out _).mono ?_
            rintro e' w5 ⟨rfl, B5⟩
            have HB5 := Lib.hid (low_p HB3.out B5)
            clear B5 cI
            go_wp2_with fail
            go_ret
            exact ⟨rfl, HB5.out⟩
          · have d1 : decide (a < 0) = false := decide_eq_false q
            have cI := Lib.hid fun w => refInt_any a (by unfold lowest; omega) (by have := HA1.out; unfold highest; omega) w
            have hi := itoa_len (v := a) (by omega) (by have := HA1.out; omega)
            have HT2 : Hid (T = (y4 ++ [69, 43]) ++ itoa a) := show _ = _ by rw [HTa.out, if_neg q]; simp
            generalize itoa a = t at *
            have k1 := dcat y4.toArray #[69, 43] y4 [69, 43] rfl rfl (by simp; omega)
            have k2 := dcat (y4 ++ [69, 43]).toArray t.toArray (y4 ++ [69, 43]) t rfl rfl (by simp; omega)
            rw [← HT2.out] at k2
            generalize y4 ++ [69, 43] = y5 at *
            clear hl3 hi q HTa HT2
            go_wp2_with fail
            refine (cI.out _).mono ?_
            rintro e' w5 ⟨rfl, B5⟩
            have HB5 := Lib.hid (low_p HB3.out B5)
            clear B5 cI
            go_wp2_with fail
            go_ret
            exact ⟨rfl, HB5.out⟩)

theorem refDecText_any (h l : Nat) (hh : h < 18446744073709551616) (hl : l < 18446744073709551616) (w : World) :
    Calls Tryz.prog 8 #[.int .u64 (h : Int), .int .u64 (l : Int)] w fun e w' => e = .returned (.string ⟨(textD h l).toArray⟩) ∧ Below w.heap.size w w' := by
  have c := Lib.hid fun w => refSplit_any h l hh hl w
  rcases kinds h with k | ⟨k | k, hc, hx⟩
  · rw [fin_value k] at c
    have e : textD h l = sg (dN h) ++ bodyL (dec (dC h l)) (dX h) := by
      unfold textD dText
      rw [k]; rfl
    rw [e]
    have hx := dX_in h
    have hlt := dC_lt h l
    exact decText_fin _ _ _ _ _ _ _ w c (Lib.hid fun w => refText_any (dC h l) (Nat.lt_trans hlt (by decide)) w) (List.length_pos_iff.2 (digs_iff.1 (dec_isDg _)).2)
      (Nat.le_trans (dec_le (k := 34) (by rw [show (10 : Nat) ^ 34 = 10000000000000000000000000000000000 by decide]; exact hlt) (by omega)) (by omega)) (by omega) (by omega)
  · rw [odd_value k (hc l) hx] at c
    have e : textD h l = sg (dN h) ++ tI := by
      unfold textD dText
      rw [k]; rfl
    rw [e]
    exact decText_inf _ _ _ w c
  · rw [odd_value k (hc l) hx] at c
    have e : textD h l = tN := by
      unfold textD dText
      rw [k]; rfl
    rw [e]
    exact decText_nan _ _ _ w c
end Go.Proofs.YtkkoefiennccoaaGreatDoor
