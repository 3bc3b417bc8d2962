/-
  What the program's walk through two trees of one shape does (chapter 18): the paths where they part; by induction over trees, no condition but bounds.
-/
import Derived.Test.YtmkgcifcfgfegaaAll18
import Derived.Test.YtmkgcifcfgfegaaAlike18
import Derived.Test.YtmkgcifcfgfegaaShape18
namespace Go.Proofs.Ytmkgcifcfgfegaa
set_option maxRecDepth 100000
open Go.RowKit

theorem parts_nil (m : List Kid) (i : Nat) (p : List Int) : partsK [] m i p = [] := by rw [partsK]; intros; simp_all
theorem Trl.drew {B gt : Nat} {w : World} {p : List Int} {ls : List (List Int)} (h : Trl B gt w p ls) : Trl B gt w.drew p ls := by
  obtain ⟨P, F, xs, h⟩ := h
  exact ⟨P, F, xs, h.drew⟩
theorem Trl.up {B gt : Nat} {w w' : World} {p : List Int} {ls : List (List Int)} (h : Trl B gt w p ls) (hB : Below w.heap.size w w') : Trl B gt w' p ls := by
  obtain ⟨P, F, xs, h1, h2, h3, h4, h5⟩ := h
  exact ⟨P, F, xs, (hB.block gt (block_lt h1)).trans h1, owns_keep h2 (fun b hb => hB.block b (h2.lt b hb).2), owns_keep h3 (fun b hb => hB.block b (h3.lt b hb).2), RowsI.turn (fun b hb => hB.block b hb.2.1) (fun b hb => ⟨hb.1, Nat.lt_of_lt_of_le hb.2.1 hB.size, hb.2.2⟩) h4, h5⟩
theorem Trl.lt {B gt : Nat} {w : World} {p : List Int} {ls : List (List Int)} (h : Trl B gt w p ls) : gt < w.heap.size := by
  obtain ⟨P, F, xs, h1, _⟩ := h
  exact block_lt h1
set_option maxHeartbeats 16000000 in
theorem diff_any (B gt : Nat) (hB : B ≤ gt) : ∀ (t : Tree) (b off : Nat) (u : Tree) (b' off' : Nat) (w : World) (p : List Int) (ls : List (List Int)), ValAt w (· < B) b off t → ValAt w (· < B) b' off' u → Trl B gt w p ls → shapeT t u = true → p.length + cntT t ≤ 1000000 → ls.length + cntT t ≤ 1000000 →
    Calls Try.prog 31 #[.pointer (some ⟨gt, 0, none⟩), .pointer (some ⟨b, off, none⟩), .pointer (some ⟨b', off', none⟩)] w fun e w' => (e = .returned (.tuple #[]) ∧ Trl B gt w' p (ls ++ partsT t u p)) ∧ Below B w w' := by
  refine Tree.ind ?_
  intro o l ih b off u b' off' w p ls hV hV' hT hsh hcp hcl
  obtain ⟨q, m⟩ := u
  obtain ⟨R, hR⟩ : ∃ R, R = partsT (.node o l) (.node q m) p := ⟨_, rfl⟩
  rw [← hR]
  rw [partsT] at hR
  rw [shapeT] at hsh
  simp only [Bool.and_eq_true, decide_eq_true_eq] at hsh
  rw [cntT] at hcp hcl
  have hlt := hT.lt
  obtain ⟨hb, Ab, cb, Ak, ck, ⟨i0, i1, i2, i3, i4, i5, i6, i7, i8⟩, f1, m1, h1, hkids⟩ := hV.open_
  obtain ⟨hb', Bb, db, Bk, dk, ⟨j0, j1, j2, j3, j4, j5, j6, j7, j8⟩, f2, m2, h2, hkids2⟩ := hV'.open_
  have upB : ∀ z, z < B → z < w.heap.size := fun z hz => by omega
  have tA : TreeAt w (· < w.heap.size) (.node o l) (cellsV o Ab cb Ak l.length ck) := TreeAt.weaken upB _ _ (by rw [TreeAt]; exact ⟨Ab, cb, Ak, ck, rfl, f1, m1, h1, hkids⟩)
  have tB : TreeAt w (· < w.heap.size) (.node q m) (cellsV q Bb db Bk m.length dk) := TreeAt.weaken upB _ _ (by rw [TreeAt]; exact ⟨Bb, db, Bk, dk, rfl, f2, m2, h2, hkids2⟩)
  have cI0 := fun d os => Calls.regrown_of (alike_any o q l m _ _ (Sort.grow (redrawn w d) os) (after_grown tA (fun _ h => h) d os) (after_grown tB (fun _ h => h) d os))
  obtain ⟨v, hv⟩ : ∃ v, v = decide (o = q) := ⟨_, rfl⟩
  have cI : ∀ d os, Calls Try.prog 41 #[.agg (cellsV o Ab cb Ak l.length ck).toArray, .agg (cellsV q Bb db Bk m.length dk).toArray] (Sort.grow (redrawn w d) os) fun x w'' => x = .returned (.bool v) ∧ ∃ p : Regrown, w'' = Sort.grow (redrawn w p.d) p.os := fun d os => by rw [hv]; exact cI0 d os
  obtain ⟨fs, hfs⟩ : ∃ fs, fs = if v = true then ([] : List (List Int)) else [p] := ⟨_, rfl⟩
  have hR0 : R = fs ++ partsK (l.drop 0) (m.drop 0) 0 p := by
    rw [hR, hfs, hv]
    by_cases e : o = q <;> simp [e]
  have HFS := Lib.hid hfs
  have HK := Lib.hid hkids
  have HK2 := Lib.hid hkids2
  have HI := Lib.hid ih
  have HCP := Lib.hid hcp
  have HCL := Lib.hid hcl
  have HR0 := Lib.hid hR0
  have HFL : Hid (fs.length ≤ 1 + cntK (l.take 0)) := show _ ≤ _ by rw [hfs]; split <;> simp
  have HSK : Hid (shapeK (l.drop 0) (m.drop 0) = true) := hsh.2
  have HLM := Lib.hid hsh.1
  have Hb := Lib.hid hb
  have Hb' := Lib.hid hb'
  have C8 := Lib.hid i8
  have C8' := Lib.hid j8
  have HBG := Lib.hid hB
  have HT0 := Lib.hid hT
  have HL : Hid (l.length ≤ 1000000) := show _ ≤ _ by have := len_le_cnt l; omega
  have HSZ : Hid (B ≤ w.heap.size) := show _ ≤ _ by omega
  have ri0 := cell_regrown i0; have rj0 := cell_regrown j0
  have ri1 := cell_regrown i1; have rj1 := cell_regrown j1
  have ri2 := cell_regrown i2; have rj2 := cell_regrown j2
  have ri3 := cell_regrown i3; have rj3 := cell_regrown j3
  have ri4 := cell_regrown i4; have rj4 := cell_regrown j4
  have ri5 := cell_regrown i5; have rj5 := cell_regrown j5
  have ri6 := cell_regrown i6; have rj6 := cell_regrown j6
  have ri7 := cell_regrown i7; have rj7 := cell_regrown j7
  have ri8 := cell_regrown i8; have rj8 := cell_regrown j8
  clear hfs hkids hkids2 ih hcp hcl hR hR0 hsh hb hb' hV hV' hT hB hlt upB tA tB cI0 hv f1 f2 m1 m2 h1 h2 i0 j0 i1 j1 i2 j2 i3 j3 i4 j4 i5 j5 i6 j6 i7 j7 i8 j8
  unfold cellsV at cI
  go_enter Try.func31, Try.ntmps31
  cases v with
  | true =>
    go_upto_region 0 with fail
    refine wp_region_quiet_below (by kernel_rfl) (by kernel_rfl) ?_
    repeat (go_big_quiet_step (first | with_reducible exact cI _ _))
    refine wpQuiet_nil ?_
    intro _ hw'
    obtain ⟨⟨dq, osq⟩, hw''⟩ := hw'
    subst hw''
    have B1 : Below B w (Sort.grow (redrawn w dq) osq) := (below_regrown w dq osq).mono HSZ.out
    have T1 : Trl B gt (Sort.grow (redrawn w dq) osq) p (ls ++ fs) := by
      rw [HFS.out, if_pos rfl, List.append_nil]
      exact HT0.out.up (below_regrown w dq osq)
    clear cI ri0 rj0 ri1 rj1 ri2 rj2 ri3 rj3 ri4 rj4 ri5 rj5 ri6 rj6 ri7 rj7 ri8 rj8 HT0
    generalize Sort.grow (redrawn w dq) osq = w1 at *
    have HT1 := Lib.hid T1
    have HB1 := Lib.hid B1
    have cD := Lib.hid (down_any B gt w1 p (ls ++ fs) T1 HBG.out (by have := HCP.out; omega))
    clear T1 B1
    go_wp2_with fail
    refine (cD.out).mono ?_
    rintro e w2 ⟨⟨rfl, T2⟩, B2⟩
    have HB2 := Lib.hid (HB1.out.trans B2)
    have HT2 := Lib.hid T2
    have j8 : w2.cell? ⟨b, off + 8, none⟩ = some (.slice Ak l.length ck) := below_cell HB2.out Hb.out C8.out
    clear T2 B2 cD HB1 HT1
    go_wp2_with fail
    clear j8
    go_loopw [24] (fun i wr => Below B w wr ∧ ∃ (k : Nat) (x : Int) (ds : List (List Int)), k ≤ l.length ∧ i = .int .i64 (k : Int) ∧ Trl B gt wr (p ++ [x]) (ls ++ ds) ∧ R = ds ++ partsK (l.drop k) (m.drop k) k p ∧ shapeK (l.drop k) (m.drop k) = true ∧ ds.length ≤ 1 + cntK (l.take k)) (fun i _ => l.length - natV i)
    case atStart => exact ⟨HB2.out, 0, 0, fs, Nat.zero_le _, rfl, HT2.out, HR0.out, HSK.out, HFL.out⟩
    case round =>
      obtain ⟨hB, k, x, ds, hk, rfl, hT, hr, hsk, hdl⟩ := hrel
      clear HB2 HT2
      have HB := Lib.hid hB
      by_cases hlt : k < l.length
      · have hlt2 : k < m.length := by rw [← HLM.out]; exact hlt
        have d1 : decide ((k : Int) < (l.length : Int)) = true := decide_eq_true (by omega)
        have d1n : decide (k < l.length) = true := decide_eq_true hlt
        obtain ⟨kb, ko, rfl, hbl, hK⟩ := HK.out (fun e => by rw [e] at hlt; exact absurd hlt (Nat.not_lt_zero _))
        obtain ⟨kb', ko', rfl, hbl', hK'⟩ := HK2.out (fun e => by rw [e] at hlt2; exact absurd hlt2 (Nat.not_lt_zero _))
        have hkid := (kids_get hK k hlt).val hbl
        have hkid' := (kids_get hK' k hlt2).val hbl'
        rw [partsK_step hlt hlt2] at hr
        rw [shapeK_step hlt hlt2] at hsk
        simp only [Bool.and_eq_true] at hsk
        have hkc := cntK_take hlt
        have hkl := cntK_le (l := l) (k + 1)
        have hpk := parts_few (l[k]).2 (m[k]).2 (p ++ [(k : Int)])
        have hcp := HCP.out
        have hcl := HCL.out
        have cT := Lib.hid (turn_any B gt wr p x (k : Int) (ls ++ ds) hT (by omega))
        have hih := HI.out l[k] (List.getElem_mem hlt)
        obtain ⟨r2, hr2⟩ : ∃ r2, r2 = partsT (l[k]).2 (m[k]).2 (p ++ [(k : Int)]) := ⟨_, rfl⟩
        have cA := Lib.hid fun (V : World) (hV : Below B wr V) (hT : Trl B gt V (p ++ [(k : Int)]) (ls ++ ds)) => hih kb (ko + k * 10 + 1) (m[k]).2 kb' (ko' + k * 10 + 1) V (p ++ [(k : Int)]) (ls ++ ds) (hkid.keep (fun z hz => ((hB.trans hV).block z hz))) (hkid'.keep (fun z hz => ((hB.trans hV).block z hz))) hT hsk.1.2 (by simp; omega) (by rw [List.length_append]; omega)
        rw [← hr2] at hr cA
        have HDN : Hid ((ds ++ r2).length ≤ 1 + cntK (l.take (k + 1))) := show _ ≤ _ by rw [List.length_append, hr2]; omega
        have HE := Lib.hid hr
        have HS2 := Lib.hid hsk.2
        have HK1 : Hid (k + 1 ≤ l.length) := hlt
        have u2 : Hid (wrap64 ((k : Int) + 1) = ((k + 1 : Nat) : Int)) := show _ = _ from w64 (by omega) (by have := HL.out; omega)
        have hlti : (k : Int) < (l.length : Int) := by omega
        have hlti2 : (k : Int) < (m.length : Int) := by omega
        have hlt0 : (0 : Int) ≤ (k : Int) := by omega
        clear hr hr2 hih hkid hkid' hkc hkl hcp hcl hpk hdl hT hK hK' hk hB hsk
        go_wp2_with fail
        refine (cT.out).mono ?_
        rintro e w3 ⟨⟨rfl, T3⟩, B3⟩
        have HB3 := Lib.hid (HB.out.trans B3)
        have j8 : w3.cell? ⟨b, off + 8, none⟩ = some (.slice (some ⟨kb, ko, none⟩) l.length ck) := below_cell HB3.out Hb.out C8.out
        have k8 : w3.cell? ⟨b', off' + 8, none⟩ = some (.slice (some ⟨kb', ko', none⟩) m.length dk) := below_cell HB3.out Hb'.out C8'.out
        have cA2 := Lib.hid (cA.out w3.drew B3.drew T3.drew)
        clear B3 T3 cT cA
        go_upto_region 7 with fail
        go_still_tail 15, (by kernel_rfl)
        change wpList _ _ _ _ _ w3.drew
        go_wp2_with fail
        refine (cA2.out).mono ?_
        rintro e w4 ⟨⟨rfl, T4⟩, B4⟩
        have HB4 := Lib.hid (HB3.out.drew.trans B4)
        have HT4 := Lib.hid T4
        clear B4 T4 cA2 j8 k8 HB3 HB
        go_wp2_with fail
        go_roundw
        case rel => exact ⟨HB4.out, k + 1, (k : Int), ds ++ r2, HK1.out, by first | rfl | rw [u2.out], by rw [← List.append_assoc]; exact HT4.out, by rw [HE.out, List.append_assoc], HS2.out, HDN.out⟩
        case measure => have := HK1.out; first | (rw [u2.out]; simp [natV]; omega) | (simp [natV]; omega)
      · obtain rfl : k = l.length := by omega
        have d1 : decide ((l.length : Int) < (l.length : Int)) = false := decide_eq_false (by omega)
        have d1n : decide (l.length < l.length) = false := decide_eq_false (by omega)
        rw [List.drop_length, parts_nil, List.append_nil] at hr
        have cU := Lib.hid (up_any B gt wr p x (ls ++ ds) hT HBG.out (by have := HCP.out; omega))
        rw [← hr] at cU
        clear hr hT hlt hk hB hsk hdl
        go_wp2_with fail
        refine (cU.out).mono ?_
        rintro e w5 ⟨⟨rfl, T5⟩, B5⟩
        have HB5 := Lib.hid (HB.out.trans B5)
        have HT5 := Lib.hid T5
        clear B5 T5 cU
        go_wp2_with fail
        refine bodyPost_end (results_none rfl _ _ _) rfl ?_
        exact ⟨⟨rfl, HT5.out⟩, HB5.out⟩
  | false =>
    go_upto_region 0 with fail
    refine wp_region_quiet_below (by kernel_rfl) (by kernel_rfl) ?_
    repeat (go_big_quiet_step (first | with_reducible exact cI _ _))
    refine wpQuiet_nil ?_
    intro _ hw'
    obtain ⟨⟨dq, osq⟩, hw''⟩ := hw'
    subst hw''
    have HB0 := Lib.hid (show Below B w (Sort.grow (redrawn w dq) osq) from (below_regrown w dq osq).mono HSZ.out)
    have cK := Lib.hid (keep_any B gt (Sort.grow (redrawn w dq) osq) p ls (HT0.out.up (below_regrown w dq osq)) HBG.out (by have := HCP.out; omega) (by have := HCL.out; omega))
    clear cI ri0 rj0 ri1 rj1 ri2 rj2 ri3 rj3 ri4 rj4 ri5 rj5 ri6 rj6 ri7 rj7 ri8 rj8 HT0
    generalize Sort.grow (redrawn w dq) osq = w0 at *
    go_wp2_with fail
    refine (cK.out).mono ?_
    rintro e w1 ⟨⟨rfl, T1⟩, B01⟩
    have B1 : Below B w w1 := HB0.out.trans B01
    have T1 : Trl B gt w1 p (ls ++ fs) := by
      rw [HFS.out]
      exact T1
    clear cK HB0 B01
    have HT1 := Lib.hid T1
    have HB1 := Lib.hid B1
    have cD := Lib.hid (down_any B gt w1 p (ls ++ fs) T1 HBG.out (by have := HCP.out; omega))
    clear T1 B1
    go_wp2_with fail
    refine (cD.out).mono ?_
    rintro e w2 ⟨⟨rfl, T2⟩, B2⟩
    have HB2 := Lib.hid (HB1.out.trans B2)
    have HT2 := Lib.hid T2
    have j8 : w2.cell? ⟨b, off + 8, none⟩ = some (.slice Ak l.length ck) := below_cell HB2.out Hb.out C8.out
    clear T2 B2 cD HB1 HT1
    go_wp2_with fail
    clear j8
    go_loopw [24] (fun i wr => Below B w wr ∧ ∃ (k : Nat) (x : Int) (ds : List (List Int)), k ≤ l.length ∧ i = .int .i64 (k : Int) ∧ Trl B gt wr (p ++ [x]) (ls ++ ds) ∧ R = ds ++ partsK (l.drop k) (m.drop k) k p ∧ shapeK (l.drop k) (m.drop k) = true ∧ ds.length ≤ 1 + cntK (l.take k)) (fun i _ => l.length - natV i)
    case atStart => exact ⟨HB2.out, 0, 0, fs, Nat.zero_le _, rfl, HT2.out, HR0.out, HSK.out, HFL.out⟩
    case round =>
      obtain ⟨hB, k, x, ds, hk, rfl, hT, hr, hsk, hdl⟩ := hrel
      clear HB2 HT2
      have HB := Lib.hid hB
      by_cases hlt : k < l.length
      · have hlt2 : k < m.length := by rw [← HLM.out]; exact hlt
        have d1 : decide ((k : Int) < (l.length : Int)) = true := decide_eq_true (by omega)
        have d1n : decide (k < l.length) = true := decide_eq_true hlt
        obtain ⟨kb, ko, rfl, hbl, hK⟩ := HK.out (fun e => by rw [e] at hlt; exact absurd hlt (Nat.not_lt_zero _))
        obtain ⟨kb', ko', rfl, hbl', hK'⟩ := HK2.out (fun e => by rw [e] at hlt2; exact absurd hlt2 (Nat.not_lt_zero _))
        have hkid := (kids_get hK k hlt).val hbl
        have hkid' := (kids_get hK' k hlt2).val hbl'
        rw [partsK_step hlt hlt2] at hr
        rw [shapeK_step hlt hlt2] at hsk
        simp only [Bool.and_eq_true] at hsk
        have hkc := cntK_take hlt
        have hkl := cntK_le (l := l) (k + 1)
        have hpk := parts_few (l[k]).2 (m[k]).2 (p ++ [(k : Int)])
        have hcp := HCP.out
        have hcl := HCL.out
        have cT := Lib.hid (turn_any B gt wr p x (k : Int) (ls ++ ds) hT (by omega))
        have hih := HI.out l[k] (List.getElem_mem hlt)
        obtain ⟨r2, hr2⟩ : ∃ r2, r2 = partsT (l[k]).2 (m[k]).2 (p ++ [(k : Int)]) := ⟨_, rfl⟩
        have cA := Lib.hid fun (V : World) (hV : Below B wr V) (hT : Trl B gt V (p ++ [(k : Int)]) (ls ++ ds)) => hih kb (ko + k * 10 + 1) (m[k]).2 kb' (ko' + k * 10 + 1) V (p ++ [(k : Int)]) (ls ++ ds) (hkid.keep (fun z hz => ((hB.trans hV).block z hz))) (hkid'.keep (fun z hz => ((hB.trans hV).block z hz))) hT hsk.1.2 (by simp; omega) (by rw [List.length_append]; omega)
        rw [← hr2] at hr cA
        have HDN : Hid ((ds ++ r2).length ≤ 1 + cntK (l.take (k + 1))) := show _ ≤ _ by rw [List.length_append, hr2]; omega
        have HE := Lib.hid hr
        have HS2 := Lib.hid hsk.2
        have HK1 : Hid (k + 1 ≤ l.length) := hlt
        have u2 : Hid (wrap64 ((k : Int) + 1) = ((k + 1 : Nat) : Int)) := show _ = _ from w64 (by omega) (by have := HL.out; omega)
        have hlti : (k : Int) < (l.length : Int) := by omega
        have hlti2 : (k : Int) < (m.length : Int) := by omega
        have hlt0 : (0 : Int) ≤ (k : Int) := by omega
        clear hr hr2 hih hkid hkid' hkc hkl hcp hcl hpk hdl hT hK hK' hk hB hsk
        go_wp2_with fail
        refine (cT.out).mono ?_
        rintro e w3 ⟨⟨rfl, T3⟩, B3⟩
        have HB3 := Lib.hid (HB.out.trans B3)
        have j8 : w3.cell? ⟨b, off + 8, none⟩ = some (.slice (some ⟨kb, ko, none⟩) l.length ck) := below_cell HB3.out Hb.out C8.out
        have k8 : w3.cell? ⟨b', off' + 8, none⟩ = some (.slice (some ⟨kb', ko', none⟩) m.length dk) := below_cell HB3.out Hb'.out C8'.out
        have cA2 := Lib.hid (cA.out w3.drew B3.drew T3.drew)
        clear B3 T3 cT cA
        go_upto_region 7 with fail
        go_still_tail 15, (by kernel_rfl)
        change wpList _ _ _ _ _ w3.drew
        go_wp2_with fail
        refine (cA2.out).mono ?_
        rintro e w4 ⟨⟨rfl, T4⟩, B4⟩
        have HB4 := Lib.hid (HB3.out.drew.trans B4)
        have HT4 := Lib.hid T4
        clear B4 T4 cA2 j8 k8 HB3 HB
        go_wp2_with fail
        go_roundw
        case rel => exact ⟨HB4.out, k + 1, (k : Int), ds ++ r2, HK1.out, by first | rfl | rw [u2.out], by rw [← List.append_assoc]; exact HT4.out, by rw [HE.out, List.append_assoc], HS2.out, HDN.out⟩
        case measure => have := HK1.out; first | (rw [u2.out]; simp [natV]; omega) | (simp [natV]; omega)
      · obtain rfl : k = l.length := by omega
        have d1 : decide ((l.length : Int) < (l.length : Int)) = false := decide_eq_false (by omega)
        have d1n : decide (l.length < l.length) = false := decide_eq_false (by omega)
        rw [List.drop_length, parts_nil, List.append_nil] at hr
        have cU := Lib.hid (up_any B gt wr p x (ls ++ ds) hT HBG.out (by have := HCP.out; omega))
        rw [← hr] at cU
        clear hr hT hlt hk hB hsk hdl
        go_wp2_with fail
        refine (cU.out).mono ?_
        rintro e w5 ⟨⟨rfl, T5⟩, B5⟩
        have HB5 := Lib.hid (HB.out.trans B5)
        have HT5 := Lib.hid T5
        clear B5 T5 cU
        go_wp2_with fail
        refine bodyPost_end (results_none rfl _ _ _) rfl ?_
        exact ⟨⟨rfl, HT5.out⟩, HB5.out⟩
end Go.Proofs.Ytmkgcifcfgfegaa
