/-
  What the document's ShortText does: the text of a pattern, as one predicate that has one solution. No condition beyond what the contract says.
-/
import Derived.Test.YtojpfmlmalmlcaaGreatDoorRefD13
import Derived.Test.YtojpfmlmalmlcaaGreatDoorRefI12
import Derived.Laws.Concat
namespace Go.Proofs.YtojpfmlmalmlcaaGreatDoor
open Go.RowKit
open Go.Lib (decDigits itoa)

theorem dcat (a b : Array UInt8) (u v : List UInt8) (ha : a = u.toArray) (hb : b = v.toArray) (h : u.length + v.length ≤ 1000000000) (w : World) :
    (Op.stringOp .add ⟨a⟩ ⟨b⟩).run Tryz.prog w = .ok (.string ⟨(u ++ v).toArray⟩) w := by
  subst ha
  subst hb
  rw [run_string_add_sum w ⟨u.toArray⟩ ⟨v.toArray⟩ (by simp [ByteArray.size]; omega), cat_s12]
theorem body_a {d : List UInt8} {x : Int} (h : 1 ≤ x ∧ x ≤ 21) (k : (d.length : Int) ≤ x) : shBody d x = d ++ List.replicate (x.toNat - d.length) 48 := by
  unfold shBody; rw [if_pos ⟨h.1, h.2, k⟩]
theorem body_b {d : List UInt8} {x : Int} (h : 1 ≤ x ∧ x ≤ 21) (k : x < (d.length : Int)) : shBody d x = (d.take x.toNat ++ [46]) ++ d.drop x.toNat := by
  unfold shBody; rw [if_neg (by omega), if_pos h]; simp
theorem body_c {d : List UInt8} {x : Int} (h : -5 ≤ x ∧ x ≤ 0) : shBody d x = [48, 46] ++ (List.replicate (-x).toNat 48 ++ d) := by
  unfold shBody; rw [if_neg (by omega), if_neg (by omega), if_pos h]; rfl
theorem body_d {d : List UInt8} {x : Int} (h : 21 < x ∨ x < -5) : shBody d x = (d.take 1 ++ (if 1 < d.length then [46] ++ d.drop 1 else [])) ++ (if x < 1 then [101, 45] ++ decDigits (1 - x).toNat else [101, 43] ++ decDigits (x - 1).toNat) := by
  unfold shBody
  rw [if_neg (by omega), if_neg (by omega), if_neg (by omega), List.append_assoc]
  congr 2
  split <;> rfl
theorem itoa_up {v : Int} (h : 0 ≤ v) : itoa v = decDigits v.toNat := if_neg (by omega)

set_option maxHeartbeats 4000000 in
set_option maxRecDepth 100000 in
theorem refText_pos (r : Nat) (hr : r < 9223372036854775808) (w : World) :
    Calls Tryz.prog 12 #[.int .u64 ((pat false r : Nat) : Int)] w fun e w' => (∃ t, e = .returned (.string ⟨t.toArray⟩) ∧ TextAns false r t) ∧ Below w.heap.size w w' := by
  have cS := Lib.hid (refSplit_any false r hr w)
  have cD := Lib.hid (refDig_any false r hr w)
  have HB := Lib.hid (Below.refl w.heap.size w)
  obtain ⟨X0, hX0⟩ : ∃ X0 : Int, X0 = ((pat false r : Nat) : Int) := ⟨_, rfl⟩
  rw [← hX0] at cS cD ⊢
  clear hX0 hr
  rcases k_of (r := r) with ⟨_, h⟩ | h | ⟨_, h⟩ | ⟨_, h⟩
  · have HK := Lib.hid h
    rw [h] at cS
    clear h cD
    have c1 := dcat #[] #[48] ([] : List UInt8) [48] rfl rfl (by decide)
    go_enter Tryz.func12, Tryz.ntmps12
    go_wp2_with fail
    refine cS.out.mono ?_
    rintro x w5 ⟨rfl, hw5⟩; subst w5
    go_wp2_with fail
    go_ret
    exact ⟨⟨_, rfl, .inr (.inr (.inl ⟨HK.out, rfl⟩))⟩, HB.out⟩
  · have HK := Lib.hid h
    rw [h] at cS
    clear h
    go_enter Tryz.func12, Tryz.ntmps12
    go_wp2_with fail
    refine cS.out.mono ?_
    rintro x w5 ⟨rfl, hw5⟩; subst w5
    go_wp2_with fail
    refine cD.out.mono ?_
    rintro e w1 ⟨⟨d, x, ok, rfl, hd⟩, B1⟩
    rcases hd with ⟨h0, _⟩ | ⟨_, hs, rfl⟩
    · exact absurd HK.out h0
    obtain ⟨r0, rm⟩ := k_two HK.out
    have e1 := sh_exp r0 rm hs
    have e2 := (sh_len r0 rm hs).1
    have e3 : 1 ≤ d.length := by have := List.length_pos_iff.2 hs.1.any; omega
    have HT : Hid (TextAns false r (shSign false (shBody d x))) := show TextAns _ _ _ from .inr (.inr (.inr ⟨HK.out, d, x, hs, rfl⟩))
    have HB1 := Lib.hid B1
    clear B1 cS cD hs r0 rm HK HB
    obtain ⟨T, hT⟩ : ∃ T, T = shSign false (shBody d x) := ⟨_, rfl⟩
    rw [← hT] at HT
    by_cases hp : 1 ≤ x ∧ x ≤ 21
    · have b1 : decide (1 ≤ x) = true := decide_eq_true hp.1
      have b2 : decide (x ≤ 21) = true := decide_eq_true hp.2
      by_cases hl : (d.length : Int) ≤ x
      · have b3 : decide ((d.length : Int) ≤ x) = true := decide_eq_true hl
        obtain ⟨q, hq⟩ : ∃ q : Nat, (q : Int) = x - (d.length : Int) := ⟨(x - (d.length : Int)).toNat, by omega⟩
        rw [body_a hp hl, show x.toNat - d.length = q by omega] at hT
        have HT2 : Hid (T = ([] : List UInt8) ++ (d ++ List.replicate q 48)) := hT
        have HQ := Lib.hid hq; have HE2 := Lib.hid e2; have HX := Lib.hid hp
        clear hT hp hl e1 hq
        go_wp2_with fail
        go_loopw [8] (fun v wr => wr = w1 ∧ ∃ i : Nat, v = .string ⟨(d ++ List.replicate i 48).toArray⟩ ∧ i ≤ q) (fun v _ => 1000 - strLen12 v)
        case atStart => exact ⟨rfl, 0, by simp, Nat.zero_le _⟩
        case round =>
          obtain ⟨rfl, i, rfl, hi⟩ := hrel
          have hlen : (d ++ List.replicate i (48 : UInt8)).length = d.length + i := by simp
          by_cases hiq : i < q
          · have k1 := dcat (d ++ List.replicate i 48).toArray #[48] (d ++ List.replicate i 48) [48] rfl rfl (by rw [hlen]; have := HE2.out; have := HQ.out; have := HX.out; simp; omega)
            rw [show (d ++ List.replicate i 48) ++ [48] = d ++ List.replicate (i + 1) 48 by rw [List.append_assoc, ← List.replicate_succ']] at k1
            have b4 : decide (((d ++ List.replicate i (48 : UInt8)).length : Int) < x) = true := by rw [hlen]; simp; have := HQ.out; omega
            have HM : Hid (1000 - strLen12 (.string ⟨(d ++ List.replicate (i + 1) 48).toArray⟩) < 1000 - strLen12 (.string ⟨(d ++ List.replicate i 48).toArray⟩)) := show _ < _ by
              have := HE2.out; have := HQ.out; have := HX.out
              simp [strLen12]
              omega
            generalize d ++ List.replicate i (48 : UInt8) = u at *
            generalize hv : d ++ List.replicate (i + 1) (48 : UInt8) = v at *
            have HV := Lib.hid hv.symm
            clear hi hlen hv
            go_wp2_with fail
            go_roundw
            case rel => exact ⟨trivial, i + 1, by rw [HV.out], by omega⟩
            case measure => exact HM.out
          · have hiq2 : i = q := by omega
            subst hiq2
            have b4 : decide (((d ++ List.replicate i (48 : UInt8)).length : Int) < x) = false := by rw [hlen]; simp; have := HQ.out; omega
            have b4n : ¬ ((d ++ List.replicate i (48 : UInt8)).length : Int) < x := by rw [hlen]; have := HQ.out; omega
            generalize hu : d ++ List.replicate i (48 : UInt8) = u at *
            have hul : u.length ≤ 1000 := by rw [hlen]; have := HE2.out; have := HQ.out; have := HX.out; omega
            have k1 := dcat #[] u.toArray ([] : List UInt8) u rfl rfl (by simp; omega)
            rw [← HT2.out] at k1
            clear hi hlen hiq hul hu
            go_wp2_with fail
            go_ret
            exact ⟨⟨T, rfl, HT.out⟩, HB1.out⟩
      · have b3 : decide ((d.length : Int) ≤ x) = false := decide_eq_false hl
        obtain ⟨q, hq⟩ : ∃ q : Nat, (q : Int) = x := ⟨x.toNat, by omega⟩
        rw [body_b hp (by omega), show x.toNat = q by omega] at hT
        have s1 := upto_s12 d q (by omega)
        have s2 := from_s12 d q (q : Int) rfl (by omega)
        rw [hq] at s1 s2
        have l1 : (d.take q).length ≤ 1000 := by rw [List.length_take]; omega
        have l2 : (d.drop q).length ≤ 1000 := by rw [List.length_drop]; omega
        generalize d.take q = a at *
        generalize d.drop q = b at *
        have HT2 : Hid (T = ((([] : List UInt8) ++ a) ++ [46]) ++ b) := show _ = _ by rw [hT]; simp [shSign]
        have k1 := dcat #[] a.toArray ([] : List UInt8) a rfl rfl (by simp; omega)
        have k2 := dcat (([] : List UInt8) ++ a).toArray #[46] (([] : List UInt8) ++ a) [46] rfl rfl (by simp; omega)
        have k3 := dcat ((([] : List UInt8) ++ a) ++ [46]).toArray b.toArray ((([] : List UInt8) ++ a) ++ [46]) b rfl rfl (by simp; omega)
        rw [← HT2.out] at k3
        generalize (([] : List UInt8) ++ a) ++ [46] = y2 at *
        generalize ([] : List UInt8) ++ a = y1 at *
        have c1 : decide (0 ≤ x) = true := decide_eq_true (by omega)
        have c2 : (0 : Int) ≤ x := by omega
        have c3 : x ≤ (d.length : Int) := by omega
        clear hT hp hl e1 e2 e3 hq l1 l2
        go_wp2_with fail
        go_quiet (fail)
        go_wp2_with fail
        go_ret
        exact ⟨⟨T, rfl, HT.out⟩, HB1.out.trans ⟨rfl, rfl, rfl, Nat.le_refl _, fun _ _ => rfl⟩⟩
    · have hb12 : decide (1 ≤ x) = false ∨ (decide (1 ≤ x) = true ∧ decide (x ≤ 21) = false) := by
        by_cases h : 1 ≤ x
        · exact .inr ⟨decide_eq_true h, decide_eq_false (fun k => hp ⟨h, k⟩)⟩
        · exact .inl (decide_eq_false h)
      by_cases hc : -5 ≤ x ∧ x ≤ 0
      · have b1 : decide (1 ≤ x) = false := decide_eq_false (by omega)
        have b3 : decide (-5 ≤ x) = true := decide_eq_true hc.1
        have b4 : decide (x ≤ 0) = true := decide_eq_true hc.2
        obtain ⟨q, hq⟩ : ∃ q : Nat, (q : Int) = -x := ⟨(-x).toNat, by omega⟩
        rw [body_c hc, show (-x).toNat = q by omega] at hT
        have HT2 : Hid (T = (([] : List UInt8) ++ [48, 46]) ++ (List.replicate q 48 ++ d)) := show _ = _ by rw [hT]; simp [shSign]
        have HQ := Lib.hid hq; have HE2 := Lib.hid e2; have HX := Lib.hid hc
        clear hT hp hc e1 hq hb12
        go_wp2_with fail
        go_loopw [8, 12] (fun v v2 wr => wr = w1 ∧ ∃ i : Nat, v = .string ⟨(List.replicate i 48 ++ d).toArray⟩ ∧ v2 = .int .i64 (x + (i : Int)) ∧ i ≤ q) (fun _ v2 _ => (-intOf v2).toNat)
        case atStart => exact ⟨rfl, 0, by simp, by simp, Nat.zero_le _⟩
        case round =>
          obtain ⟨rfl, i, rfl, rfl, hi⟩ := hrel
          have hlen : (List.replicate i (48 : UInt8) ++ d).length = i + d.length := by simp
          obtain ⟨y, hy⟩ : ∃ y : Int, y = x + (i : Int) := ⟨_, rfl⟩
          rw [← hy]
          have HY := Lib.hid hy
          by_cases hiq : i < q
          · have k1 := dcat #[48] (List.replicate i 48 ++ d).toArray [48] (List.replicate i 48 ++ d) rfl rfl (by rw [hlen]; have := HE2.out; have := HQ.out; have := HX.out; simp; omega)
            rw [show [48] ++ (List.replicate i 48 ++ d) = List.replicate (i + 1) 48 ++ d by rw [List.replicate_succ]; rfl] at k1
            have b5 : decide (y < 0) = true := by simp; have := HQ.out; omega
            have w2 : wrap64 (y + 1) = y + 1 := by have := HX.out; have := HQ.out; unfold wrap64; omega
            have b6 : y < 0 := by have := HQ.out; omega
            have HW := Lib.hid w2
            generalize List.replicate i (48 : UInt8) ++ d = u at *
            generalize hv : List.replicate (i + 1) (48 : UInt8) ++ d = v at *
            have HV := Lib.hid hv.symm
            have HN : Hid (y < 0) := show _ < _ from b6
            clear hi hlen hv hy
            go_wp2_with fail
            go_roundw
            case rel => exact ⟨trivial, i + 1, by rw [HV.out], by first | (rw [HW.out, HY.out]; congr 1; omega) | (rw [HY.out]; congr 1; omega), by omega⟩
            case measure => have := HN.out; first | (rw [HW.out]; simp [intOf]; omega) | (simp [intOf]; omega)
          · have hiq2 : i = q := by omega
            subst hiq2
            have b5 : decide (y < 0) = false := by simp; have := HQ.out; omega
            have b5n : ¬ y < 0 := by have := HQ.out; omega
            generalize hu : List.replicate i (48 : UInt8) ++ d = u at *
            have hul : u.length ≤ 1000 := by rw [hlen]; have := HE2.out; have := HQ.out; have := HX.out; omega
            have k1 := dcat #[] #[48, 46] ([] : List UInt8) [48, 46] rfl rfl (by decide)
            have k2 := dcat (([] : List UInt8) ++ [48, 46]).toArray u.toArray (([] : List UInt8) ++ [48, 46]) u rfl rfl (by simp; omega)
            rw [← HT2.out] at k2
            generalize ([] : List UInt8) ++ [48, 46] = y1 at *
            clear hi hlen hiq hul hu hy
            go_wp2_with fail
            go_ret
            exact ⟨⟨T, rfl, HT.out⟩, HB1.out⟩
      · have hx : 21 < x ∨ x < -5 := by omega
        rw [body_d hx] at hT
        have s1 := upto_s12 d 1 e3
        have s2 := from_s12 d 1 1 rfl e3
        rw [show ((1 : Nat) : Int) = 1 from rfl] at s1
        have l1 : (d.take 1).length ≤ 1000 := by rw [List.length_take]; omega
        have l2 : (d.drop 1).length ≤ 1000 := by rw [List.length_drop]; omega
        have hb34 : decide (-5 ≤ x) = false ∨ (decide (-5 ≤ x) = true ∧ decide (x ≤ 0) = false) := by
          by_cases h : -5 ≤ x
          · exact .inr ⟨decide_eq_true h, decide_eq_false (fun k => hc ⟨h, k⟩)⟩
          · exact .inl (decide_eq_false h)
        obtain ⟨P, hP⟩ : ∃ P : Bool, P = decide (x < 1) := ⟨_, rfl⟩
        obtain ⟨u, hu⟩ : ∃ u : Int, u = if x < 1 then 1 - x else x - 1 := ⟨_, rfl⟩
        have ub : 0 ≤ u ∧ u ≤ 400 := by rw [hu]; split <;> omega
        have cI := Lib.hid fun w => refInt_any u (by unfold lowest; omega) (by unfold highest; omega) w
        rw [itoa_up ub.1] at cI
        have hT2 : T = ((([] : List UInt8) ++ d.take 1) ++ (if 1 < d.length then [46] ++ d.drop 1 else [])) ++ ((if P = true then [101, 45] else [101, 43]) ++ decDigits u.toNat) := by
          rw [hT, hP, hu]
          by_cases h : x < 1
          · rw [if_pos h, if_pos h, if_pos (show decide (x < 1) = true by simpa using h)]; simp [shSign]
          · rw [if_neg h, if_neg h, if_neg (show ¬ decide (x < 1) = true by simpa using h)]; simp [shSign]
        have lD : (decDigits u.toNat).length ≤ 10 := by have := dec_short (u := u.toNat) (by omega); omega
        generalize decDigits u.toNat = ds at *
        have wu : P = true ∧ decide (x < 1) = true ∧ wrap64 (1 - x) = u ∨ P = false ∧ decide (x < 1) = false ∧ wrap64 (x - 1) = u := by
          by_cases h : x < 1
          · left; rw [hP, hu, if_pos h]; exact ⟨by simpa using h, by simpa using h, by unfold wrap64; omega⟩
          · right; rw [hP, hu, if_neg h]; exact ⟨by simpa using h, by simpa using h, by unfold wrap64; omega⟩
        have hb2 : decide (1 ≤ x) = false ∧ decide (-5 ≤ x) = false ∨ decide (1 ≤ x) = true ∧ decide (x ≤ 21) = false ∧ decide (-5 ≤ x) = true ∧ decide (x ≤ 0) = false := by
          rcases hb12 with h | ⟨h, h'⟩
          · rcases hb34 with k | ⟨k, k'⟩
            · exact .inl ⟨h, k⟩
            · simp at h k k'; omega
          · rcases hb34 with k | ⟨k, k'⟩
            · simp at h h' k; omega
            · exact .inr ⟨h, h', k, k'⟩
        generalize d.take 1 = a at *
        generalize d.drop 1 = b at *
        have k1 := dcat #[] a.toArray ([] : List UInt8) a rfl rfl (by simp; omega)
        have HE3 := Lib.hid e3
        generalize hy1 : ([] : List UInt8) ++ a = y1 at *
        have ly1 : y1.length ≤ 1100 := by rw [← hy1]; simp; omega
        have k2 := dcat y1.toArray #[46] y1 [46] rfl rfl (by simp; omega)
        have k3 := dcat (y1 ++ [46]).toArray b.toArray (y1 ++ [46]) b rfl rfl (by simp; omega)
        obtain ⟨y3, hy3⟩ : ∃ y3, y3 = y1 ++ (if 1 < d.length then [46] ++ b else []) := ⟨_, rfl⟩
        have ly3 : y3.length ≤ 3000 := by rw [hy3]; split <;> simp <;> omega
        have k4 := dcat y3.toArray #[101, 45] y3 [101, 45] rfl rfl (by simp; omega)
        have k5 := dcat y3.toArray #[101, 43] y3 [101, 43] rfl rfl (by simp; omega)
        have k6 := dcat (y3 ++ [101, 45]).toArray ds.toArray (y3 ++ [101, 45]) ds rfl rfl (by simp; omega)
        have k7 := dcat (y3 ++ [101, 43]).toArray ds.toArray (y3 ++ [101, 43]) ds rfl rfl (by simp; omega)
        rw [← hy3] at hT2
        have HT6 : Hid (P = true → T = (y3 ++ [101, 45]) ++ ds) := show P = true → _ from fun h => by rw [hT2, if_pos h]; simp
        have HT7 : Hid (P = false → T = (y3 ++ [101, 43]) ++ ds) := show P = false → _ from fun h => by rw [hT2, h]; simp
        have h3 : (1 < d.length ∧ decide ((1 : Int) < (d.length : Int)) = true ∧ y3 = (y1 ++ [46]) ++ b) ∨ (¬ 1 < d.length ∧ decide ((1 : Int) < (d.length : Int)) = false ∧ y3 = y1) := by
          by_cases h : 1 < d.length
          · left; rw [hy3, if_pos h]; exact ⟨h, by simp; omega, by simp⟩
          · right; rw [hy3, if_neg h]; exact ⟨h, by simp; omega, by simp⟩
        clear hT hT2 hp hc hx e1 e2 l1 l2 hb12 hb34 hP hu ub lD hy1 hy3 ly1 ly3
        have HL1 : Hid ((1 : Int) ≤ (d.length : Int)) := show _ ≤ _ by omega
        generalize (y3 ++ [101, 45]) ++ ds = T1 at *
        generalize (y3 ++ [101, 43]) ++ ds = T2 at *
        generalize y3 ++ [101, 45] = ya at *
        generalize y3 ++ [101, 43] = yb at *
        generalize hab : (y1 ++ [46]) ++ b = y2 at *
        clear hab
        generalize (y1 ++ [46]) = y4 at *
        rcases hb2 with ⟨c1, c2⟩ | ⟨c1, c2, c3, c4⟩
        all_goals
          rcases h3 with ⟨f1, f2, f3⟩ | ⟨f1, f2, f3⟩
        all_goals
          rcases wu with ⟨g0, g1, g2⟩ | ⟨g0, g1, g2⟩
        all_goals
          first
          | (have HT8 := HT6.out g0; subst g0)
          | (have HT8 := HT7.out g0; subst g0)
          have HT9 := Lib.hid HT8
          clear HT8
          subst f3
          go_wp2_with fail
          refine (cI.out _).mono ?_
          rintro e w2 ⟨rfl, B2⟩
          have HB2 := Lib.hid (HB1.out.trans (B2.mono HB1.out.size))
          clear B2
          go_wp2_with fail
          go_ret
          exact ⟨⟨T, by rw [HT9.out]; rfl, HT.out⟩, HB2.out⟩
  · have HK := Lib.hid h
    rw [h] at cS
    clear h cD
    have c1 := dcat #[] #[73, 110, 102, 105, 110, 105, 116, 121] ([] : List UInt8) txInf rfl rfl (by decide)
    go_enter Tryz.func12, Tryz.ntmps12
    go_wp2_with fail
    refine cS.out.mono ?_
    rintro x w5 ⟨rfl, hw5⟩; subst w5
    go_wp2_with fail
    go_ret
    exact ⟨⟨_, rfl, .inr (.inl ⟨HK.out, rfl⟩)⟩, HB.out⟩
  · have HK := Lib.hid h
    rw [h] at cS
    clear h cD
    go_enter Tryz.func12, Tryz.ntmps12
    go_wp2_with fail
    refine cS.out.mono ?_
    rintro x w5 ⟨rfl, hw5⟩; subst w5
    go_wp2_with fail
    go_ret
    exact ⟨⟨_, rfl, .inl ⟨HK.out, rfl⟩⟩, HB.out⟩

set_option maxHeartbeats 4000000 in
set_option maxRecDepth 100000 in
theorem refText_neg (r : Nat) (hr : r < 9223372036854775808) (w : World) :
    Calls Tryz.prog 12 #[.int .u64 ((pat true r : Nat) : Int)] w fun e w' => (∃ t, e = .returned (.string ⟨t.toArray⟩) ∧ TextAns true r t) ∧ Below w.heap.size w w' := by
  have cS := Lib.hid (refSplit_any true r hr w)
  have cD := Lib.hid (refDig_any true r hr w)
  have HB := Lib.hid (Below.refl w.heap.size w)
  obtain ⟨X0, hX0⟩ : ∃ X0 : Int, X0 = ((pat true r : Nat) : Int) := ⟨_, rfl⟩
  rw [← hX0] at cS cD ⊢
  clear hX0 hr
  rcases k_of (r := r) with ⟨_, h⟩ | h | ⟨_, h⟩ | ⟨_, h⟩
  · have HK := Lib.hid h
    rw [h] at cS
    clear h cD
    have c1 := dcat #[45] #[48] ([45] : List UInt8) [48] rfl rfl (by decide)
    go_enter Tryz.func12, Tryz.ntmps12
    go_wp2_with fail
    refine cS.out.mono ?_
    rintro x w5 ⟨rfl, hw5⟩; subst w5
    go_wp2_with fail
    go_ret
    exact ⟨⟨_, rfl, .inr (.inr (.inl ⟨HK.out, rfl⟩))⟩, HB.out⟩
  · have HK := Lib.hid h
    rw [h] at cS
    clear h
    go_enter Tryz.func12, Tryz.ntmps12
    go_wp2_with fail
    refine cS.out.mono ?_
    rintro x w5 ⟨rfl, hw5⟩; subst w5
    go_wp2_with fail
    refine cD.out.mono ?_
    rintro e w1 ⟨⟨d, x, ok, rfl, hd⟩, B1⟩
    rcases hd with ⟨h0, _⟩ | ⟨_, hs, rfl⟩
    · exact absurd HK.out h0
    obtain ⟨r0, rm⟩ := k_two HK.out
    have e1 := sh_exp r0 rm hs
    have e2 := (sh_len r0 rm hs).1
    have e3 : 1 ≤ d.length := by have := List.length_pos_iff.2 hs.1.any; omega
    have HT : Hid (TextAns true r (shSign true (shBody d x))) := show TextAns _ _ _ from .inr (.inr (.inr ⟨HK.out, d, x, hs, rfl⟩))
    have HB1 := Lib.hid B1
    clear B1 cS cD hs r0 rm HK HB
    obtain ⟨T, hT⟩ : ∃ T, T = shSign true (shBody d x) := ⟨_, rfl⟩
    rw [← hT] at HT
    by_cases hp : 1 ≤ x ∧ x ≤ 21
    · have b1 : decide (1 ≤ x) = true := decide_eq_true hp.1
      have b2 : decide (x ≤ 21) = true := decide_eq_true hp.2
      by_cases hl : (d.length : Int) ≤ x
      · have b3 : decide ((d.length : Int) ≤ x) = true := decide_eq_true hl
        obtain ⟨q, hq⟩ : ∃ q : Nat, (q : Int) = x - (d.length : Int) := ⟨(x - (d.length : Int)).toNat, by omega⟩
        rw [body_a hp hl, show x.toNat - d.length = q by omega] at hT
        have HT2 : Hid (T = ([45] : List UInt8) ++ (d ++ List.replicate q 48)) := hT
        have HQ := Lib.hid hq; have HE2 := Lib.hid e2; have HX := Lib.hid hp
        clear hT hp hl e1 hq
        go_wp2_with fail
        go_loopw [8] (fun v wr => wr = w1 ∧ ∃ i : Nat, v = .string ⟨(d ++ List.replicate i 48).toArray⟩ ∧ i ≤ q) (fun v _ => 1000 - strLen12 v)
        case atStart => exact ⟨rfl, 0, by simp, Nat.zero_le _⟩
        case round =>
          obtain ⟨rfl, i, rfl, hi⟩ := hrel
          have hlen : (d ++ List.replicate i (48 : UInt8)).length = d.length + i := by simp
          by_cases hiq : i < q
          · have k1 := dcat (d ++ List.replicate i 48).toArray #[48] (d ++ List.replicate i 48) [48] rfl rfl (by rw [hlen]; have := HE2.out; have := HQ.out; have := HX.out; simp; omega)
            rw [show (d ++ List.replicate i 48) ++ [48] = d ++ List.replicate (i + 1) 48 by rw [List.append_assoc, ← List.replicate_succ']] at k1
            have b4 : decide (((d ++ List.replicate i (48 : UInt8)).length : Int) < x) = true := by rw [hlen]; simp; have := HQ.out; omega
            have HM : Hid (1000 - strLen12 (.string ⟨(d ++ List.replicate (i + 1) 48).toArray⟩) < 1000 - strLen12 (.string ⟨(d ++ List.replicate i 48).toArray⟩)) := show _ < _ by
              have := HE2.out; have := HQ.out; have := HX.out
              simp [strLen12]
              omega
            generalize d ++ List.replicate i (48 : UInt8) = u at *
            generalize hv : d ++ List.replicate (i + 1) (48 : UInt8) = v at *
            have HV := Lib.hid hv.symm
            clear hi hlen hv
            go_wp2_with fail
            go_roundw
            case rel => exact ⟨trivial, i + 1, by rw [HV.out], by omega⟩
            case measure => exact HM.out
          · have hiq2 : i = q := by omega
            subst hiq2
            have b4 : decide (((d ++ List.replicate i (48 : UInt8)).length : Int) < x) = false := by rw [hlen]; simp; have := HQ.out; omega
            have b4n : ¬ ((d ++ List.replicate i (48 : UInt8)).length : Int) < x := by rw [hlen]; have := HQ.out; omega
            generalize hu : d ++ List.replicate i (48 : UInt8) = u at *
            have hul : u.length ≤ 1000 := by rw [hlen]; have := HE2.out; have := HQ.out; have := HX.out; omega
            have k1 := dcat #[45] u.toArray ([45] : List UInt8) u rfl rfl (by simp; omega)
            rw [← HT2.out] at k1
            clear hi hlen hiq hul hu
            go_wp2_with fail
            go_ret
            exact ⟨⟨T, rfl, HT.out⟩, HB1.out⟩
      · have b3 : decide ((d.length : Int) ≤ x) = false := decide_eq_false hl
        obtain ⟨q, hq⟩ : ∃ q : Nat, (q : Int) = x := ⟨x.toNat, by omega⟩
        rw [body_b hp (by omega), show x.toNat = q by omega] at hT
        have s1 := upto_s12 d q (by omega)
        have s2 := from_s12 d q (q : Int) rfl (by omega)
        rw [hq] at s1 s2
        have l1 : (d.take q).length ≤ 1000 := by rw [List.length_take]; omega
        have l2 : (d.drop q).length ≤ 1000 := by rw [List.length_drop]; omega
        generalize d.take q = a at *
        generalize d.drop q = b at *
        have HT2 : Hid (T = ((([45] : List UInt8) ++ a) ++ [46]) ++ b) := show _ = _ by rw [hT]; simp [shSign]
        have k1 := dcat #[45] a.toArray ([45] : List UInt8) a rfl rfl (by simp; omega)
        have k2 := dcat (([45] : List UInt8) ++ a).toArray #[46] (([45] : List UInt8) ++ a) [46] rfl rfl (by simp; omega)
        have k3 := dcat ((([45] : List UInt8) ++ a) ++ [46]).toArray b.toArray ((([45] : List UInt8) ++ a) ++ [46]) b rfl rfl (by simp; omega)
        rw [← HT2.out] at k3
        generalize (([45] : List UInt8) ++ a) ++ [46] = y2 at *
        generalize ([45] : List UInt8) ++ a = y1 at *
        have c1 : decide (0 ≤ x) = true := decide_eq_true (by omega)
        have c2 : (0 : Int) ≤ x := by omega
        have c3 : x ≤ (d.length : Int) := by omega
        clear hT hp hl e1 e2 e3 hq l1 l2
        go_wp2_with fail
        go_quiet (fail)
        go_wp2_with fail
        go_ret
        exact ⟨⟨T, rfl, HT.out⟩, HB1.out.trans ⟨rfl, rfl, rfl, Nat.le_refl _, fun _ _ => rfl⟩⟩
    · have hb12 : decide (1 ≤ x) = false ∨ (decide (1 ≤ x) = true ∧ decide (x ≤ 21) = false) := by
        by_cases h : 1 ≤ x
        · exact .inr ⟨decide_eq_true h, decide_eq_false (fun k => hp ⟨h, k⟩)⟩
        · exact .inl (decide_eq_false h)
      by_cases hc : -5 ≤ x ∧ x ≤ 0
      · have b1 : decide (1 ≤ x) = false := decide_eq_false (by omega)
        have b3 : decide (-5 ≤ x) = true := decide_eq_true hc.1
        have b4 : decide (x ≤ 0) = true := decide_eq_true hc.2
        obtain ⟨q, hq⟩ : ∃ q : Nat, (q : Int) = -x := ⟨(-x).toNat, by omega⟩
        rw [body_c hc, show (-x).toNat = q by omega] at hT
        have HT2 : Hid (T = (([45] : List UInt8) ++ [48, 46]) ++ (List.replicate q 48 ++ d)) := show _ = _ by rw [hT]; simp [shSign]
        have HQ := Lib.hid hq; have HE2 := Lib.hid e2; have HX := Lib.hid hc
        clear hT hp hc e1 hq hb12
        go_wp2_with fail
        go_loopw [8, 12] (fun v v2 wr => wr = w1 ∧ ∃ i : Nat, v = .string ⟨(List.replicate i 48 ++ d).toArray⟩ ∧ v2 = .int .i64 (x + (i : Int)) ∧ i ≤ q) (fun _ v2 _ => (-intOf v2).toNat)
        case atStart => exact ⟨rfl, 0, by simp, by simp, Nat.zero_le _⟩
        case round =>
          obtain ⟨rfl, i, rfl, rfl, hi⟩ := hrel
          have hlen : (List.replicate i (48 : UInt8) ++ d).length = i + d.length := by simp
          obtain ⟨y, hy⟩ : ∃ y : Int, y = x + (i : Int) := ⟨_, rfl⟩
          rw [← hy]
          have HY := Lib.hid hy
          by_cases hiq : i < q
          · have k1 := dcat #[48] (List.replicate i 48 ++ d).toArray [48] (List.replicate i 48 ++ d) rfl rfl (by rw [hlen]; have := HE2.out; have := HQ.out; have := HX.out; simp; omega)
            rw [show [48] ++ (List.replicate i 48 ++ d) = List.replicate (i + 1) 48 ++ d by rw [List.replicate_succ]; rfl] at k1
            have b5 : decide (y < 0) = true := by simp; have := HQ.out; omega
            have w2 : wrap64 (y + 1) = y + 1 := by have := HX.out; have := HQ.out; unfold wrap64; omega
            have b6 : y < 0 := by have := HQ.out; omega
            have HW := Lib.hid w2
            generalize List.replicate i (48 : UInt8) ++ d = u at *
            generalize hv : List.replicate (i + 1) (48 : UInt8) ++ d = v at *
            have HV := Lib.hid hv.symm
            have HN : Hid (y < 0) := show _ < _ from b6
            clear hi hlen hv hy
            go_wp2_with fail
            go_roundw
            case rel => exact ⟨trivial, i + 1, by rw [HV.out], by first | (rw [HW.out, HY.out]; congr 1; omega) | (rw [HY.out]; congr 1; omega), by omega⟩
            case measure => have := HN.out; first | (rw [HW.out]; simp [intOf]; omega) | (simp [intOf]; omega)
          · have hiq2 : i = q := by omega
            subst hiq2
            have b5 : decide (y < 0) = false := by simp; have := HQ.out; omega
            have b5n : ¬ y < 0 := by have := HQ.out; omega
            generalize hu : List.replicate i (48 : UInt8) ++ d = u at *
            have hul : u.length ≤ 1000 := by rw [hlen]; have := HE2.out; have := HQ.out; have := HX.out; omega
            have k1 := dcat #[45] #[48, 46] ([45] : List UInt8) [48, 46] rfl rfl (by decide)
            have k2 := dcat (([45] : List UInt8) ++ [48, 46]).toArray u.toArray (([45] : List UInt8) ++ [48, 46]) u rfl rfl (by simp; omega)
            rw [← HT2.out] at k2
            generalize ([45] : List UInt8) ++ [48, 46] = y1 at *
            clear hi hlen hiq hul hu hy
            go_wp2_with fail
            go_ret
            exact ⟨⟨T, rfl, HT.out⟩, HB1.out⟩
      · have hx : 21 < x ∨ x < -5 := by omega
        rw [body_d hx] at hT
        have s1 := upto_s12 d 1 e3
        have s2 := from_s12 d 1 1 rfl e3
        rw [show ((1 : Nat) : Int) = 1 from rfl] at s1
        have l1 : (d.take 1).length ≤ 1000 := by rw [List.length_take]; omega
        have l2 : (d.drop 1).length ≤ 1000 := by rw [List.length_drop]; omega
        have hb34 : decide (-5 ≤ x) = false ∨ (decide (-5 ≤ x) = true ∧ decide (x ≤ 0) = false) := by
          by_cases h : -5 ≤ x
          · exact .inr ⟨decide_eq_true h, decide_eq_false (fun k => hc ⟨h, k⟩)⟩
          · exact .inl (decide_eq_false h)
        obtain ⟨P, hP⟩ : ∃ P : Bool, P = decide (x < 1) := ⟨_, rfl⟩
        obtain ⟨u, hu⟩ : ∃ u : Int, u = if x < 1 then 1 - x else x - 1 := ⟨_, rfl⟩
        have ub : 0 ≤ u ∧ u ≤ 400 := by rw [hu]; split <;> omega
        have cI := Lib.hid fun w => refInt_any u (by unfold lowest; omega) (by unfold highest; omega) w
        rw [itoa_up ub.1] at cI
        have hT2 : T = ((([45] : List UInt8) ++ d.take 1) ++ (if 1 < d.length then [46] ++ d.drop 1 else [])) ++ ((if P = true then [101, 45] else [101, 43]) ++ decDigits u.toNat) := by
          rw [hT, hP, hu]
          by_cases h : x < 1
          · rw [if_pos h, if_pos h, if_pos (show decide (x < 1) = true by simpa using h)]; simp [shSign]
          · rw [if_neg h, if_neg h, if_neg (show ¬ decide (x < 1) = true by simpa using h)]; simp [shSign]
        have lD : (decDigits u.toNat).length ≤ 10 := by have := dec_short (u := u.toNat) (by omega); omega
        generalize decDigits u.toNat = ds at *
        have wu : P = true ∧ decide (x < 1) = true ∧ wrap64 (1 - x) = u ∨ P = false ∧ decide (x < 1) = false ∧ wrap64 (x - 1) = u := by
          by_cases h : x < 1
          · left; rw [hP, hu, if_pos h]; exact ⟨by simpa using h, by simpa using h, by unfold wrap64; omega⟩
          · right; rw [hP, hu, if_neg h]; exact ⟨by simpa using h, by simpa using h, by unfold wrap64; omega⟩
        have hb2 : decide (1 ≤ x) = false ∧ decide (-5 ≤ x) = false ∨ decide (1 ≤ x) = true ∧ decide (x ≤ 21) = false ∧ decide (-5 ≤ x) = true ∧ decide (x ≤ 0) = false := by
          rcases hb12 with h | ⟨h, h'⟩
          · rcases hb34 with k | ⟨k, k'⟩
            · exact .inl ⟨h, k⟩
            · simp at h k k'; omega
          · rcases hb34 with k | ⟨k, k'⟩
            · simp at h h' k; omega
            · exact .inr ⟨h, h', k, k'⟩
        generalize d.take 1 = a at *
        generalize d.drop 1 = b at *
        have k1 := dcat #[45] a.toArray ([45] : List UInt8) a rfl rfl (by simp; omega)
        have HE3 := Lib.hid e3
        generalize hy1 : ([45] : List UInt8) ++ a = y1 at *
        have ly1 : y1.length ≤ 1100 := by rw [← hy1]; simp; omega
        have k2 := dcat y1.toArray #[46] y1 [46] rfl rfl (by simp; omega)
        have k3 := dcat (y1 ++ [46]).toArray b.toArray (y1 ++ [46]) b rfl rfl (by simp; omega)
        obtain ⟨y3, hy3⟩ : ∃ y3, y3 = y1 ++ (if 1 < d.length then [46] ++ b else []) := ⟨_, rfl⟩
        have ly3 : y3.length ≤ 3000 := by rw [hy3]; split <;> simp <;> omega
        have k4 := dcat y3.toArray #[101, 45] y3 [101, 45] rfl rfl (by simp; omega)
        have k5 := dcat y3.toArray #[101, 43] y3 [101, 43] rfl rfl (by simp; omega)
        have k6 := dcat (y3 ++ [101, 45]).toArray ds.toArray (y3 ++ [101, 45]) ds rfl rfl (by simp; omega)
        have k7 := dcat (y3 ++ [101, 43]).toArray ds.toArray (y3 ++ [101, 43]) ds rfl rfl (by simp; omega)
        rw [← hy3] at hT2
        have HT6 : Hid (P = true → T = (y3 ++ [101, 45]) ++ ds) := show P = true → _ from fun h => by rw [hT2, if_pos h]; simp
        have HT7 : Hid (P = false → T = (y3 ++ [101, 43]) ++ ds) := show P = false → _ from fun h => by rw [hT2, h]; simp
        have h3 : (1 < d.length ∧ decide ((1 : Int) < (d.length : Int)) = true ∧ y3 = (y1 ++ [46]) ++ b) ∨ (¬ 1 < d.length ∧ decide ((1 : Int) < (d.length : Int)) = false ∧ y3 = y1) := by
          by_cases h : 1 < d.length
          · left; rw [hy3, if_pos h]; exact ⟨h, by simp; omega, by simp⟩
          · right; rw [hy3, if_neg h]; exact ⟨h, by simp; omega, by simp⟩
        clear hT hT2 hp hc hx e1 e2 l1 l2 hb12 hb34 hP hu ub lD hy1 hy3 ly1 ly3
        have HL1 : Hid ((1 : Int) ≤ (d.length : Int)) := show _ ≤ _ by omega
        generalize (y3 ++ [101, 45]) ++ ds = T1 at *
        generalize (y3 ++ [101, 43]) ++ ds = T2 at *
        generalize y3 ++ [101, 45] = ya at *
        generalize y3 ++ [101, 43] = yb at *
        generalize hab : (y1 ++ [46]) ++ b = y2 at *
        clear hab
        generalize (y1 ++ [46]) = y4 at *
        rcases hb2 with ⟨c1, c2⟩ | ⟨c1, c2, c3, c4⟩
        all_goals
          rcases h3 with ⟨f1, f2, f3⟩ | ⟨f1, f2, f3⟩
        all_goals
          rcases wu with ⟨g0, g1, g2⟩ | ⟨g0, g1, g2⟩
        all_goals
          first
          | (have HT8 := HT6.out g0; subst g0)
          | (have HT8 := HT7.out g0; subst g0)
          have HT9 := Lib.hid HT8
          clear HT8
          subst f3
          go_wp2_with fail
          refine (cI.out _).mono ?_
          rintro e w2 ⟨rfl, B2⟩
          have HB2 := Lib.hid (HB1.out.trans (B2.mono HB1.out.size))
          clear B2
          go_wp2_with fail
          go_ret
          exact ⟨⟨T, by rw [HT9.out]; rfl, HT.out⟩, HB2.out⟩
  · have HK := Lib.hid h
    rw [h] at cS
    clear h cD
    have c1 := dcat #[45] #[73, 110, 102, 105, 110, 105, 116, 121] ([45] : List UInt8) txInf rfl rfl (by decide)
    go_enter Tryz.func12, Tryz.ntmps12
    go_wp2_with fail
    refine cS.out.mono ?_
    rintro x w5 ⟨rfl, hw5⟩; subst w5
    go_wp2_with fail
    go_ret
    exact ⟨⟨_, rfl, .inr (.inl ⟨HK.out, rfl⟩)⟩, HB.out⟩
  · have HK := Lib.hid h
    rw [h] at cS
    clear h cD
    go_enter Tryz.func12, Tryz.ntmps12
    go_wp2_with fail
    refine cS.out.mono ?_
    rintro x w5 ⟨rfl, hw5⟩; subst w5
    go_wp2_with fail
    go_ret
    exact ⟨⟨_, rfl, .inl ⟨HK.out, rfl⟩⟩, HB.out⟩

theorem refText_any (s : Bool) (r : Nat) (hr : r < 9223372036854775808) (w : World) :
    Calls Tryz.prog 12 #[.int .u64 ((pat s r : Nat) : Int)] w fun e w' => (∃ t, e = .returned (.string ⟨t.toArray⟩) ∧ TextAns s r t) ∧ Below w.heap.size w w' := by
  cases s
  · exact refText_pos r hr w
  · exact refText_neg r hr w
end Go.Proofs.YtojpfmlmalmlcaaGreatDoor
