/-
  What the document's ParseNear answers of a number of JSON that does not begin with -. No condition but the text's length and what Lexeme answers.
-/
import Derived.Test.YtemkllnnemadeaaDoorParseN12
namespace Go.Proofs.YtemkllnnemadeaaDoor
open Go.RowKit

set_option maxHeartbeats 8000000 in
set_option maxRecDepth 100000 in
theorem parseN_pos (s : List UInt8) (k : Int) (w : World) (hk : (k == 0) = false) (hs : s.length ≤ 300) (ip fp : List UInt8) (E : Int) (hj : JN s false ip fp E)
    (cL : Hid (∀ w, Calls Tryd.prog 25 #[.string ⟨s.toArray⟩] w fun x w' => x = .returned (.int .i64 k) ∧ Below w.heap.size w w')) :
    Calls Tryd.prog 12 #[.string ⟨s.toArray⟩] w fun r w' => (∃ p, NearIs (dA (ip ++ fp) ((ip.length : Int) + E)) (dB (ip ++ fp) ((ip.length : Int) + E)) p ∧ r = .returned (.tuple #[.int .u64 ((pnP false p : Nat) : Int), .int .i64 (pnE p)])) ∧ Below w.heap.size w w' := by
  have d1 : decide (300 < (s.length : Int)) = false := by simp; omega
  have d1n : decide (300 < s.length) = false := by simp; omega
  obtain ⟨fr, ex, hse, hip, hfr, hex⟩ := hj
  obtain ⟨u, hu⟩ : ∃ u, u = ip ++ (fr ++ ex) := ⟨_, rfl⟩
  rw [← hu] at hse
  have HIP0 : Hid (ip ≠ []) := (digs_iff.1 hip).2
  have HSE := Lib.hid hse; have HU := Lib.hid hu; have HIP := Lib.hid hip; have HFR := Lib.hid hfr; have HEX := Lib.hid hex; have HS := Lib.hid hs
  clear hse hu hip hfr hex hs
  go_enter Tryd.func12, Tryd.ntmps12
  go_wp2_with fail
  refine (cL.out _).mono ?_
  rintro r w1 ⟨rfl, hB⟩
  have HB := Lib.hid hB
  clear hB
  have hsu : s = u := HSE.out
  have hipl := List.length_pos_iff.2 HIP0.out
  have hul0 : 0 < u.length := by rw [HU.out, List.length_append]; omega
  have n2 := at_s12 u 0 0 rfl hul0 w1
  have n1 : (((u.getD 0 0).toNat : Int) == 45) = false := by
    have h1 := digs_at HIP.out hipl
    rw [HU.out, get_front hipl]
    simp only [beq_eq_false_iff_ne]
    omega
  generalize u.getD 0 0 = c0 at n1 n2
  clear hipl hul0
  have HUL : Hid (u.length ≤ 300) := show _ ≤ _ by
    have h := HSE.out
    have hs := HS.out
    rw [h, List.length_append] at hs
    omega
  clear HSE HS
  have HG1 : Hid (∀ j, j < ip.length → 48 ≤ (u.getD (0 + j) 0).toNat ∧ (u.getD (0 + j) 0).toNat ≤ 57 ∧ 0 + j < u.length) := fun j hj => by
    have h1 := digs_at HIP.out hj
    rw [HU.out, Nat.zero_add, get_front hj]
    exact ⟨h1.1, h1.2, by rw [List.length_append]; omega⟩
  have HX1 : Hid (u.length = 0 + ip.length ∨ (0 + ip.length < u.length ∧ ((u.getD (0 + ip.length) 0).toNat < 48 ∨ 57 < (u.getD (0 + ip.length) 0).toNat))) := show _ ∨ _ by
    rw [HU.out, Nat.zero_add, get_behind (i := ip.length) (j := 0) rfl, List.length_append]
    rcases HFR.out with ⟨h1, -⟩ | ⟨h1, -⟩
    · rcases HEX.out with ⟨h2, -⟩ | ⟨c, pl, x, h2, hc, -⟩
      · left; rw [h1, h2]; rfl
      · right
        rw [h1, h2, List.nil_append]
        refine ⟨by simp only [List.length_cons]; omega, .inr ?_⟩
        exact (isE_range hc).1
    · right
      rw [h1, List.cons_append]
      refine ⟨by simp only [List.length_cons]; omega, .inl ?_⟩
      show (46 : UInt8).toNat < 48
      decide
  subst s
  go_upto_block 0 with fail
  clear d1 d1n n1 n2
  go_cut [8] (fun v8 wx => wx = w1 ∧ v8 = .int .i64 ((0 + ip.length : Nat) : Int))
  case first =>
    go_wp2_with fail
    go_loopw [8] (fun v8 wx => wx = w1 ∧ ∃ j : Nat, j ≤ ip.length ∧ v8 = .int .i64 ((0 + j : Nat) : Int)) (fun v8 _ => 1000 - (intOf v8).toNat)
    case atStart => exact ⟨rfl, 0, Nat.zero_le _, rfl⟩
    case round =>
      obtain ⟨hwr, j, hj, rfl⟩ := hrel
      have HW := Lib.hid hwr
      clear hwr
      obtain ⟨q, hq⟩ : ∃ q, q = 0 + j := ⟨_, rfl⟩
      rw [← hq]
      by_cases hlt : j < ip.length
      · obtain ⟨g1, g2, g3⟩ := HG1.out j hlt
        rw [← hq] at g1 g2 g3
        have d1 := lt_t12 g3
        have d1n := ltn_t12 g3
        have x1 := at_s12 u (q : Int) q rfl g3 wr
        generalize u.getD q 0 = c at *
        have d2 : decide (48 ≤ (c.toNat : Int)) = true := by simp; omega
        have d3 : decide ((c.toNat : Int) ≤ 57) = true := by simp; omega
        have HZ : Hid (wrap64 ((q : Int) + 1) = ((0 + (j + 1) : Nat) : Int)) := show _ = _ by have := HUL.out; unfold wrap64; omega
        have HQ : Hid (q + 1 = 0 + (j + 1) ∧ q < 1000) := show _ ∧ _ by have := HUL.out; omega
        have HJ : Hid (j + 1 ≤ ip.length) := hlt
        clear g1 g2 g3 hlt hj hq
        go_wp2_with fail
        go_roundw
        case rel => exact ⟨HW.out, j + 1, HJ.out, by rw [HZ.out]⟩
        case measure => rw [HZ.out, ← HQ.out.1]; clear d1 d1n d2 d3 x1; exact meas12 HQ.out.2
      · obtain rfl : j = ip.length := by omega
        have HQ : Hid (q = 0 + ip.length) := hq
        rcases HX1.out with hx | ⟨hx, hy⟩
        · rw [← hq] at hx
          have d1 := lt_f12 (x := q) (y := u.length) (by omega)
          have d1n := ltn_f12 (x := q) (y := u.length) (by omega)
          clear hx hlt hj hq
          go_wp2_with fail
          go_meet
          exact ⟨HW.out, by rw [HQ.out]⟩
        · rw [← hq] at hx hy
          have d1 := lt_t12 hx
          have d1n := ltn_t12 hx
          have x1 := at_s12 u (q : Int) q rfl hx wr
          generalize u.getD q 0 = c at *
          by_cases hc : c.toNat < 48
          · have d2 : decide (48 ≤ (c.toNat : Int)) = false := by simp; omega
            clear hx hy hc hlt hj hq
            go_wp2_with fail
            go_meet
            exact ⟨HW.out, by rw [HQ.out]⟩
          · have d2 : decide (48 ≤ (c.toNat : Int)) = true := by simp; omega
            have d3 : decide ((c.toNat : Int) ≤ 57) = false := by simp; omega
            clear hx hy hc hlt hj hq
            go_wp2_with fail
            go_meet
            exact ⟨HW.out, by rw [HQ.out]⟩
  case rest =>
  obtain ⟨hw3, rfl⟩ := hcut
  obtain ⟨w3, hw4⟩ : ∃ v, v = wc := ⟨_, rfl⟩
  rw [← hw4] at hw3 ⊢
  clear hw4
  subst hw3
  obtain ⟨a, ha⟩ : ∃ a, a = 0 + ip.length := ⟨_, rfl⟩
  rw [← ha]
  have HAA : Hid ((a : Int) = (ip.length : Int)) := show _ = _ by omega
  have HAN : Hid (a = ip.length) := show _ = _ by omega
  have HAB : Hid (a ≤ 300) := show _ ≤ _ by
    have h := HUL.out
    rw [HU.out, List.length_append] at h
    omega
  clear ha HG1 HX1
  have hx4 := upto_s12 u a (by rw [HU.out, List.length_append]; have := HAN.out; omega)
  have htk : u.take a = ip := by rw [HU.out, HAN.out, List.take_append_of_le_length (Nat.le_refl _), List.take_of_length_le (Nat.le_refl _)]
  rw [htk] at hx4
  clear htk
  rcases HFR.out with ⟨hfr, hfp⟩ | ⟨hfr, hfp⟩
  · obtain ⟨D, hD⟩ : ∃ D, D = ip := ⟨_, rfl⟩
    have HDD : Hid (D = ip ++ fp) := show _ = _ by rw [hfp, List.append_nil]; exact hD
    have HAT : Hid (a = ip.length + fr.length) := show _ = _ by rw [hfr, List.length_nil]; have := HAN.out; omega
    have HD1 : Hid (1 ≤ D.length) := show _ ≤ _ by rw [hD]; exact List.length_pos_iff.2 HIP0.out
    have HD2 : Hid (D.length ≤ 300) := show _ ≤ _ by rw [hD]; have := HAB.out; have := HAN.out; omega
    have HD3 : Hid (Dgs D) := show Dgs _ by rw [hD]; exact digs_Dgs HIP.out
    rw [← hD] at hx4
    rcases HEX.out with ⟨hex, hE⟩ | ⟨c, pl, x, hex, hc, hpl, hx, hE⟩
    · have hl0 : u.length = a := by rw [HU.out, hfr, hex, HAN.out]; simp
      have d1 := lt_f12 (x := a) (y := u.length) (by omega)
      have d1n := ltn_f12 (x := a) (y := u.length) (by omega)
      have HEX2 := Lib.hid hex; have HE2 := Lib.hid hE; have HFRR := Lib.hid hfr
      clear hl0 hex hE hfr hfp hD
      go_upto_region 18 with fail
      clear hx4 d1 d1n
      have hex := HEX2.out; have hE := HE2.out
      have hlen : u.length = a := by rw [HU.out, hex, List.append_nil, List.length_append]; exact HAT.out.symm
      have d1 := lt_f12 (x := a) (y := u.length) (by omega)
      have d1n := ltn_f12 (x := a) (y := u.length) (by omega)
      have z1 : wrap64 ((a : Int) + 0) = (a : Int) + 0 := by have := HAB.out; unfold wrap64; omega
      have z2 : wrap64 (a : Int) = (a : Int) := by have := HAB.out; unfold wrap64; omega
      have HE0 := Lib.hid hE
      clear hex hE hlen
      have cR := Lib.hid fun w => refRead_good D (a : Int) w HD1.out HD2.out HD3.out (by have := HAB.out;  omega)
      go_wp2_with fail
      refine (cR.out _).mono ?_
      rintro r w2 ⟨⟨p, hp, rfl⟩, hB2⟩
      have HP : Hid (NearIs (dA D ((ip.length : Int) + E)) (dB D ((ip.length : Int) + E)) p) := by rw [HE0.out, ← HAA.out, Int.add_zero]; exact hp
      have HB2 : Hid (Below w.heap.size w w2) := HB.out.trans (hB2.mono HB.out.size)
      have hpb : p ≤ 9218868437227405312 := hp.1
      clear hp hB2 cR
      by_cases h9 : p = 9218868437227405312
      · have r1 : rdB p = false := by rw [h9]; rfl
        have HE1 : Hid (∀ b, pnP b p = 0 ∧ pnE p = 10) := fun b => by unfold pnP pnE; rw [if_pos h9, if_pos h9]; exact ⟨rfl, rfl⟩
        generalize rdP p = rp at *
        clear hpb h9
        go_wp2_with fail
        go_ret2
        exact ⟨⟨p, by rw [← HDD.out]; exact HP.out, by rw [(HE1.out _).1, (HE1.out true).2]; rfl⟩, HB2.out⟩
      · have r1 : rdB p = true := by unfold rdB; simp [h9]
        have r2 : rdP p = p := by unfold rdP; rw [if_neg h9]
        have HE1 : Hid (∀ b, pnP b p = pat b p ∧ pnE p = 0) := fun b => by unfold pnP pnE; rw [if_neg h9, if_neg h9]; exact ⟨rfl, rfl⟩
        have r3 : IntKind.u64.wrap ((p : Int) + 9223372036854775808) = ((pat true p : Nat) : Int) := by rw [IntKind.wrap_u64]; simp only [pat, if_true]; omega
        rw [r2]
        clear hpb h9 r2
        go_wp2_with fail
        go_ret2
        exact ⟨⟨p, by rw [← HDD.out]; exact HP.out, by rw [(HE1.out _).1, (HE1.out true).2]; first | rfl | rw [r3]⟩, HB2.out⟩

    · have hl0 : a < u.length := by rw [HU.out, hfr, hex, HAN.out]; simp
      have d1 := lt_t12 hl0
      have d1n := ltn_t12 hl0
      have n2 := at_s12 u (a : Int) a rfl hl0 w3
      have e46 : u.getD a 0 = c := by rw [HU.out, hfr, hex, get_behind (i := a) (j := 0) (by have := HAN.out; omega)]; rfl
      rw [e46] at n2
      have n1 := (isE_range hc).2.1
      have HEX2 := Lib.hid hex; have HE2 := Lib.hid hE; have HFRR := Lib.hid hfr; have HPL := Lib.hid hpl; have HXX := Lib.hid hx; have HCC := Lib.hid hc
      clear hl0 hex hE hfr hfp hD e46 hpl hx hc
      go_upto_region 18 with fail
      clear hx4 d1 d1n n1 n2
      have hex := HEX2.out; have hE := HE2.out; have hpl := HPL.out; have hx := HXX.out; have hc := HCC.out
      obtain ⟨L, hL⟩ : ∃ L, L = pl ++ x := ⟨_, rfl⟩
      rw [← hL] at hex
      have hulen : u.length = a + 1 + L.length := by rw [HU.out, hex, ← List.append_assoc, List.length_append, List.length_append, List.length_cons]; have := HAT.out; omega
      have hgL : ∀ j, u.getD (a + 1 + j) 0 = L.getD j 0 := fun j => by
        rw [HU.out, hex, ← List.append_assoc, get_behind (i := a + 1 + j) (j := 1 + j) (by rw [List.length_append]; have := HAT.out; omega)]
        rw [Nat.add_comm 1 j]
        rfl
      have hx0 : 0 < x.length := List.length_pos_iff.2 (digs_iff.1 hx).2
      have hL0 : 0 < L.length := by rw [hL, List.length_append]; omega
      have d1 := lt_t12 (x := a) (y := u.length) (by omega)
      have d1n := ltn_t12 (x := a) (y := u.length) (by omega)
      obtain ⟨s1, hs1⟩ : ∃ s1, s1 = a + 1 := ⟨_, rfl⟩
      have hub := HUL.out
      have z1 : wrap64 ((a : Int) + 1) = (s1 : Int) := by unfold wrap64; omega
      have y0 := at_s12 u (s1 : Int) s1 rfl (by omega) w3
      rw [hs1, show a + 1 = a + 1 + 0 by omega, hgL 0] at y0
      obtain ⟨low, hlow⟩ : ∃ low : Bool, low = decide (pl = [45]) := ⟨_, rfl⟩
      have y1 : (((L.getD 0 0).toNat : Int) == 45) = low := by
        rw [hlow, hL]
        rcases hpl with rfl | rfl | rfl
        · have h1 := digs_at hx hx0
          rw [List.nil_append, decide_eq_false (by simp), beq_eq_false_iff_ne]
          omega
        · rfl
        · rfl
      obtain ⟨c1, hc1⟩ : ∃ c1, c1 = L.getD 0 0 := ⟨_, rfl⟩
      rw [← hc1] at y0 y1
      have y0' : (Instr.index 9 (.string ⟨u.toArray⟩) (.int .i64 (s1 : Int))).run Tryd.prog w3 = .ok (.int .u8 (c1.toNat : Int)) w3 := by
        rw [hs1]; exact y0
      clear y0 hc1
      have HGL : Hid (∀ j, u.getD (s1 + j) 0 = L.getD j 0) := fun j => by rw [hs1]; exact hgL j
      have HLEN : Hid (u.length = s1 + L.length) := show _ = _ by rw [hs1]; exact hulen
      have HCE : Hid (ce L = min (nd x) 10000) := show _ = _ by rw [hL]; exact ce_all hpl hx
      have HEE : Hid (E = if low = true then -(nd x : Int) else (nd x : Int)) := show _ = _ by
        rw [hlow, hE]
        by_cases h : pl = [45] <;> simp [h]
      clear hex hc hpl hx hE hL hulen hgL hx0 hL0 hs1 hub hlow
      go_upto_block 4 with fail
      have HZS := Lib.hid z1
      clear d1 d1n z1 y0' y1
      go_cut [7, 8] (fun v7 _ wx => wx = w3 ∧ v7 = .int .i64 ((ce L : Nat) : Int))
      case first =>
        go_wp2_with fail
        go_loopw [7, 8] (fun v7 v8 wx => wx = w3 ∧ ∃ j : Nat, j ≤ L.length ∧ v8 = .int .i64 ((s1 + j : Nat) : Int) ∧ v7 = .int .i64 ((ce (L.take j) : Nat) : Int)) (fun _ v8 _ => 1000 - (intOf v8).toNat)
        case atStart => exact ⟨rfl, 0, Nat.zero_le _, by rw [HZS.out]; rfl, rfl⟩
        case round =>
          obtain ⟨hwr, j, hj, rfl, rfl⟩ := hrel
          have HW := Lib.hid hwr
          clear hwr
          have hub := HUL.out
          have hlen := HLEN.out
          obtain ⟨q, hq⟩ : ∃ q, q = s1 + j := ⟨_, rfl⟩
          rw [← hq]
          by_cases hlt : j < L.length
          · have g3 : q < u.length := by omega
            have d1 := lt_t12 g3
            have d1n := ltn_t12 g3
            have x1 := at_s12 u (q : Int) q rfl g3 wr
            have hg := HGL.out j
            rw [← hq] at hg
            rw [hg] at x1
            have htk : L.take (j + 1) = L.take j ++ [L.getD j 0] := by
              rw [List.take_add_one]
              simp [List.getD, hlt]
            generalize L.getD j 0 = c at *
            have HTK := Lib.hid htk
            have HZ : Hid (wrap64 ((q : Int) + 1) = ((s1 + (j + 1) : Nat) : Int)) := show _ = _ by unfold wrap64; omega
            have HQ : Hid (q + 1 = s1 + (j + 1) ∧ q < 1000) := show _ ∧ _ by omega
            have HJ : Hid (j + 1 ≤ L.length) := hlt
            have hcl : ce (L.take j) ≤ 10000 := Nat.min_le_right _ _
            by_cases hd : isD c = true
            · have hdr : 48 ≤ c.toNat ∧ c.toNat ≤ 57 := by simpa [isD] using hd
              have hce := ce_digit (q := L.take j) hd
              rw [← htk] at hce
              generalize ce (L.take j) = v at *
              obtain ⟨dd, hdd⟩ : ∃ dd, dd = dv c := ⟨_, rfl⟩
              have hd9 : dd ≤ 9 ∧ (c.toNat : Int) - 48 = (dd : Int) := by unfold dv at hdd; omega
              obtain ⟨t1, ht1⟩ : ∃ t1, t1 = v * 10 := ⟨_, rfl⟩
              obtain ⟨t2, ht2⟩ : ∃ t2, t2 = t1 + dd := ⟨_, rfl⟩
              have d2 : decide (48 ≤ (c.toNat : Int)) = true := by simp; omega
              have d3 : decide ((c.toNat : Int) ≤ 57) = true := by simp; omega
              have hce2 : ce (L.take (j + 1)) = min t2 10000 := by rw [hce, ht2, ht1, hdd]
              have hm : ((t2 : Int) < 10000 ∧ min t2 10000 = t2) ∨ (t2 = 10000 ∧ min t2 10000 = 10000) ∨ ((10000 : Int) < (t2 : Int) ∧ min t2 10000 = 10000) := by
                clear hub hlen hq hlt hj g3 hce hce2
                omega
              have k1 : (v : Int) * 10 = (t1 : Int) := by omega
              have k4 : (t1 : Int) + (dd : Int) = (t2 : Int) := by omega
              have k2 := hd9.2
              have b1 : t1 < 4611686018427387904 := by omega
              have b2 : t2 < 4611686018427387904 := by omega
              have b3 : dd < 4611686018427387904 := by omega
              have b4 : dd < 256 := by omega
              have e2 : IntKind.u8.wrap ((c.toNat : Int) - 48) = (dd : Int) := by rw [k2, IntKind.wrap_u8]; exact Int.emod_eq_of_lt (Int.natCast_nonneg _) (by exact_mod_cast b4)
              have e1 : wrap64 ((v : Int) * 10) = (t1 : Int) := by rw [k1]; exact wr12 b1
              have e3 : wrap64 (dd : Int) = (dd : Int) := wr12 b3
              have e4 : wrap64 ((t1 : Int) + (dd : Int)) = (t2 : Int) := by rw [k4]; exact wr12 b2
              clear k1 k2 k4 b1 b2 b3 b4
              clear hd hdr hce hdd hd9 ht1 ht2 hcl htk hg g3 hlt hj hub hlen hq
              rcases hm with ⟨m1, m2⟩ | ⟨m1, m2⟩ | ⟨m1, m2⟩
              all_goals
                rw [m2] at hce2
                have HCE2 := Lib.hid hce2
                try subst m1
                clear hce2 m2
                go_wp2_with fail
                go_roundw
                case rel => exact ⟨HW.out, j + 1, HJ.out, by rw [HZ.out], by rw [HCE2.out]; first | done | rfl⟩
                case measure =>
                  rw [HZ.out, ← HQ.out.1]
                  clear d1 d1n d2 d3 x1 e1 e2 e3 e4
                  exact meas12 HQ.out.2
            · have hdf : isD c = false := by simpa using hd
              have hce := ce_other (q := L.take j) hdf
              rw [← htk] at hce
              have HCE2 := Lib.hid hce
              have hdr : c.toNat < 48 ∨ 57 < c.toNat := by simp [isD] at hdf; omega
              generalize ce (L.take j) = v at *
              by_cases hc : c.toNat < 48
              · have d2 : decide (48 ≤ (c.toNat : Int)) = false := by simp; omega
                clear hd hdf hce hdr hc hcl htk hg g3 hlt hj hub hlen hq
                go_wp2_with fail
                go_roundw
                case rel => exact ⟨HW.out, j + 1, HJ.out, by rw [HZ.out], by rw [HCE2.out]⟩
                case measure => rw [HZ.out, ← HQ.out.1]; clear d1 d1n d2 x1; exact meas12 HQ.out.2
              · have d2 : decide (48 ≤ (c.toNat : Int)) = true := by simp; omega
                have d3 : decide ((c.toNat : Int) ≤ 57) = false := by simp; omega
                clear hd hdf hce hdr hc hcl htk hg g3 hlt hj hub hlen hq
                go_wp2_with fail
                go_roundw
                case rel => exact ⟨HW.out, j + 1, HJ.out, by rw [HZ.out], by rw [HCE2.out]⟩
                case measure => rw [HZ.out, ← HQ.out.1]; clear d1 d1n d2 d3 x1; exact meas12 HQ.out.2
          · obtain rfl : j = L.length := by omega
            have d1 := lt_f12 (x := q) (y := u.length) (by omega)
            have d1n := ltn_f12 (x := q) (y := u.length) (by omega)
            rw [List.take_of_length_le (Nat.le_refl _)]
            clear hub hlen hq hlt hj
            go_wp2_with fail
            go_meet
            exact ⟨HW.out, rfl⟩
      case rest =>
      obtain ⟨rfl, rfl⟩ := hcut
      have hx1 : ce L ≤ 10000 := Nat.min_le_right _ _
      have HXB := Lib.hid hx1
      obtain ⟨X, hX⟩ : ∃ X, X = ce L := ⟨_, rfl⟩
      have HXE : Hid (X = min (nd x) 10000 ∧ X ≤ 10000) := show _ ∧ _ by rw [hX]; exact ⟨HCE.out, hx1⟩
      rw [← hX]
      clear hx1 hX HXB
      cases low
      · have z3 : wrap64 (-(X : Int)) = -(X : Int) := by have := HXE.out; unfold wrap64; omega
        have z1 : wrap64 ((a : Int) + (X : Int)) = (a : Int) + (X : Int) := by have := HXE.out; have := HAB.out; unfold wrap64; omega
        have cR := Lib.hid fun w => refRead_good D ((a : Int) + (X : Int)) w HD1.out HD2.out HD3.out (by have := HAB.out; have := HXE.out;  omega)
        go_wp2_with fail
        refine (cR.out _).mono ?_
        rintro r w2 ⟨⟨p, hp, rfl⟩, hB2⟩
        have HP : Hid (NearIs (dA D ((ip.length : Int) + E)) (dB D ((ip.length : Int) + E)) p) := by
          have h1 := HXE.out
          have h2 := HEE.out
          have h3 := HAB.out
          have h4 := HAA.out
          by_cases hn : nd x ≤ 10000
          · have : (ip.length : Int) + E = (a : Int) + (X : Int) := by rw [h2]; simp; omega
            rw [this]
            exact hp
          · refine near_move HD3.out HD2.out ?_ hp
            rw [h2]
            simp
            omega
        have HB2 : Hid (Below w.heap.size w w2) := HB.out.trans (hB2.mono HB.out.size)
        have hpb : p ≤ 9218868437227405312 := hp.1
        clear hp hB2 cR
        by_cases h9 : p = 9218868437227405312
        · have r1 : rdB p = false := by rw [h9]; rfl
          have HE1 : Hid (∀ b, pnP b p = 0 ∧ pnE p = 10) := fun b => by unfold pnP pnE; rw [if_pos h9, if_pos h9]; exact ⟨rfl, rfl⟩
          generalize rdP p = rp at *
          clear hpb h9
          go_wp2_with fail
          go_ret2
          exact ⟨⟨p, by rw [← HDD.out]; exact HP.out, by rw [(HE1.out _).1, (HE1.out true).2]; rfl⟩, HB2.out⟩
        · have r1 : rdB p = true := by unfold rdB; simp [h9]
          have r2 : rdP p = p := by unfold rdP; rw [if_neg h9]
          have HE1 : Hid (∀ b, pnP b p = pat b p ∧ pnE p = 0) := fun b => by unfold pnP pnE; rw [if_neg h9, if_neg h9]; exact ⟨rfl, rfl⟩
          have r3 : IntKind.u64.wrap ((p : Int) + 9223372036854775808) = ((pat true p : Nat) : Int) := by rw [IntKind.wrap_u64]; simp only [pat, if_true]; omega
          rw [r2]
          clear hpb h9 r2
          go_wp2_with fail
          go_ret2
          exact ⟨⟨p, by rw [← HDD.out]; exact HP.out, by rw [(HE1.out _).1, (HE1.out true).2]; first | rfl | rw [r3]⟩, HB2.out⟩
      · have z3 : wrap64 (-(X : Int)) = -(X : Int) := by have := HXE.out; unfold wrap64; omega
        have z1 : wrap64 ((a : Int) + (-(X : Int))) = (a : Int) + (-(X : Int)) := by have := HXE.out; have := HAB.out; unfold wrap64; omega
        have z1b : wrap64 ((a : Int) - (X : Int)) = (a : Int) + -(X : Int) := by have := HXE.out; have := HAB.out; unfold wrap64; omega
        have cR := Lib.hid fun w => refRead_good D ((a : Int) + (-(X : Int))) w HD1.out HD2.out HD3.out (by have := HAB.out; have := HXE.out;  omega)
        go_wp2_with fail
        refine (cR.out _).mono ?_
        rintro r w2 ⟨⟨p, hp, rfl⟩, hB2⟩
        have HP : Hid (NearIs (dA D ((ip.length : Int) + E)) (dB D ((ip.length : Int) + E)) p) := by
          have h1 := HXE.out
          have h2 := HEE.out
          have h3 := HAB.out
          have h4 := HAA.out
          by_cases hn : nd x ≤ 10000
          · have : (ip.length : Int) + E = (a : Int) + (-(X : Int)) := by rw [h2]; simp; omega
            rw [this]
            exact hp
          · refine near_move HD3.out HD2.out ?_ hp
            rw [h2]
            simp
            omega
        have HB2 : Hid (Below w.heap.size w w2) := HB.out.trans (hB2.mono HB.out.size)
        have hpb : p ≤ 9218868437227405312 := hp.1
        clear hp hB2 cR
        by_cases h9 : p = 9218868437227405312
        · have r1 : rdB p = false := by rw [h9]; rfl
          have HE1 : Hid (∀ b, pnP b p = 0 ∧ pnE p = 10) := fun b => by unfold pnP pnE; rw [if_pos h9, if_pos h9]; exact ⟨rfl, rfl⟩
          generalize rdP p = rp at *
          clear hpb h9
          go_wp2_with fail
          go_ret2
          exact ⟨⟨p, by rw [← HDD.out]; exact HP.out, by rw [(HE1.out _).1, (HE1.out true).2]; rfl⟩, HB2.out⟩
        · have r1 : rdB p = true := by unfold rdB; simp [h9]
          have r2 : rdP p = p := by unfold rdP; rw [if_neg h9]
          have HE1 : Hid (∀ b, pnP b p = pat b p ∧ pnE p = 0) := fun b => by unfold pnP pnE; rw [if_neg h9, if_neg h9]; exact ⟨rfl, rfl⟩
          have r3 : IntKind.u64.wrap ((p : Int) + 9223372036854775808) = ((pat true p : Nat) : Int) := by rw [IntKind.wrap_u64]; simp only [pat, if_true]; omega
          rw [r2]
          clear hpb h9 r2
          go_wp2_with fail
          go_ret2
          exact ⟨⟨p, by rw [← HDD.out]; exact HP.out, by rw [(HE1.out _).1, (HE1.out true).2]; first | rfl | rw [r3]⟩, HB2.out⟩
  · -- digits behind a point
    have hfl : 0 < fp.length := List.length_pos_iff.2 (digs_iff.1 hfp).2
    obtain ⟨b, hb⟩ : ∃ b, b = a + 1 := ⟨_, rfl⟩
    have hul : u.length = b + fp.length + ex.length := by rw [HU.out, hfr, List.length_append, List.length_append, List.length_cons]; have := HAN.out; omega
    have hub := HUL.out
    have d1 := lt_t12 (x := a) (y := u.length) (by omega)
    have d1n := ltn_t12 (x := a) (y := u.length) (by omega)
    have hn2 := at_s12 u (a : Int) a rfl (by omega) w3
    have e46 : u.getD a 0 = 46 := by rw [HU.out, hfr, get_behind (i := a) (j := 0) (by have := HAN.out; omega)]; rfl
    rw [e46] at hn2
    have n2 : (Instr.index 9 (.string ⟨u.toArray⟩) (.int .i64 (a : Int))).run Tryd.prog w3 = .ok (.int .u8 46) w3 := hn2
    have z1 : wrap64 ((a : Int) + 1) = (b : Int) := by unfold wrap64; omega
    have hgf : ∀ j, j < fp.length → u.getD (b + j) 0 = fp.getD j 0 := fun j hj => by
      rw [HU.out, hfr, get_behind (i := b + j) (j := 1 + j) (by have := HAN.out; omega), Nat.add_comm 1 j]
      show (fp ++ ex).getD j 0 = _
      exact get_front hj
    have HG2 : Hid (∀ j, j < fp.length → 48 ≤ (u.getD (b + j) 0).toNat ∧ (u.getD (b + j) 0).toNat ≤ 57 ∧ b + j < u.length) := fun j hj => by
      have h1 := digs_at hfp hj
      rw [hgf j hj]
      exact ⟨h1.1, h1.2, by omega⟩
    have HX2 : Hid (u.length = b + fp.length ∨ (b + fp.length < u.length ∧ ((u.getD (b + fp.length) 0).toNat < 48 ∨ 57 < (u.getD (b + fp.length) 0).toNat))) := show _ ∨ _ by
      rcases HEX.out with ⟨h2, -⟩ | ⟨c, pl, x, h2, hc, -⟩
      · left; rw [hul, h2]; simp
      · right
        have hel : 0 < ex.length := by rw [h2]; simp
        refine ⟨by omega, .inr ?_⟩
        have e : u.getD (b + fp.length) 0 = c := by
          rw [HU.out, hfr, get_behind (i := b + fp.length) (j := 1 + fp.length) (by have := HAN.out; omega), Nat.add_comm 1]
          show (fp ++ ex).getD fp.length 0 = _
          rw [get_behind (i := fp.length) (j := 0) rfl, h2]
          rfl
        rw [e]
        exact (isE_range hc).1
    obtain ⟨AT, hAT⟩ : ∃ AT, AT = b + fp.length := ⟨_, rfl⟩
    have HAT : Hid (AT = ip.length + fr.length) := show _ = _ by rw [hfr, List.length_cons]; have := HAN.out; omega
    have hpart := part_s12 u b AT (b : Int) (AT : Int) rfl rfl (by omega) (by omega) w3
    have hdt : (u.drop b).take (AT - b) = fp := by
      rw [HU.out, hfr, show AT - b = fp.length by omega]
      have e1 : ip ++ (46 :: fp ++ ex) = (ip ++ [46]) ++ (fp ++ ex) := by simp
      rw [e1, List.drop_left' (by rw [List.length_append]; have := HAN.out; simp; omega), List.take_left' rfl]
    rw [hdt] at hpart
    obtain ⟨D, hD⟩ : ∃ D, D = ip ++ fp := ⟨_, rfl⟩
    have HDD := Lib.hid hD
    have hcat := cat_s12 ip fp
    rw [← hD] at hcat
    have HD1 : Hid (1 ≤ D.length) := show _ ≤ _ by rw [hD, List.length_append]; omega
    have HD2 : Hid (D.length ≤ 300) := show _ ≤ _ by rw [hD, List.length_append]; have := HAN.out; omega
    have HD3 : Hid (Dgs D) := show Dgs _ by rw [hD]; exact (digs_Dgs HIP.out).append (digs_Dgs hfp)
    have HATB := Lib.hid hAT
    have HPART := Lib.hid hpart
    have HCAT := Lib.hid hcat
    clear hpart hcat hdt hD hfl hb hul hub hn2 e46 hgf hfr hfp hAT
    go_upto_block 2 with fail
    have HZS := Lib.hid z1
    clear hx4 d1 d1n n2 z1
    go_cut [8] (fun v8 wx => wx = w3 ∧ v8 = .int .i64 ((b + fp.length : Nat) : Int))
    case first =>
      go_wp2_with fail
      go_loopw [8] (fun v8 wx => wx = w3 ∧ ∃ j : Nat, j ≤ fp.length ∧ v8 = .int .i64 ((b + j : Nat) : Int)) (fun v8 _ => 1000 - (intOf v8).toNat)
      case atStart => exact ⟨rfl, 0, Nat.zero_le _, by rw [HZS.out]; rfl⟩
      case round =>
        obtain ⟨hwr, j, hj, rfl⟩ := hrel
        have HW := Lib.hid hwr
        clear hwr
        obtain ⟨q, hq⟩ : ∃ q, q = b + j := ⟨_, rfl⟩
        rw [← hq]
        by_cases hlt : j < fp.length
        · obtain ⟨g1, g2, g3⟩ := HG2.out j hlt
          rw [← hq] at g1 g2 g3
          have d1 := lt_t12 g3
          have d1n := ltn_t12 g3
          have x1 := at_s12 u (q : Int) q rfl g3 wr
          generalize u.getD q 0 = c at *
          have d2 : decide (48 ≤ (c.toNat : Int)) = true := by simp; omega
          have d3 : decide ((c.toNat : Int) ≤ 57) = true := by simp; omega
          have HZ : Hid (wrap64 ((q : Int) + 1) = ((b + (j + 1) : Nat) : Int)) := show _ = _ by have := HUL.out; unfold wrap64; omega
          have HQ : Hid (q + 1 = b + (j + 1) ∧ q < 1000) := show _ ∧ _ by have := HUL.out; omega
          have HJ : Hid (j + 1 ≤ fp.length) := hlt
          clear g1 g2 g3 hlt hj hq
          go_wp2_with fail
          go_roundw
          case rel => exact ⟨HW.out, j + 1, HJ.out, by rw [HZ.out]⟩
          case measure => rw [HZ.out, ← HQ.out.1]; clear d1 d1n d2 d3 x1; exact meas12 HQ.out.2
        · obtain rfl : j = fp.length := by omega
          have HQ : Hid (q = b + fp.length) := hq
          rcases HX2.out with hx | ⟨hx, hy⟩
          · rw [← hq] at hx
            have d1 := lt_f12 (x := q) (y := u.length) (by omega)
            have d1n := ltn_f12 (x := q) (y := u.length) (by omega)
            clear hx hlt hj hq
            go_wp2_with fail
            go_meet
            exact ⟨HW.out, by rw [HQ.out]⟩
          · rw [← hq] at hx hy
            have d1 := lt_t12 hx
            have d1n := ltn_t12 hx
            have x1 := at_s12 u (q : Int) q rfl hx wr
            generalize u.getD q 0 = c at *
            by_cases hc : c.toNat < 48
            · have d2 : decide (48 ≤ (c.toNat : Int)) = false := by simp; omega
              clear hx hy hc hlt hj hq
              go_wp2_with fail
              go_meet
              exact ⟨HW.out, by rw [HQ.out]⟩
            · have d2 : decide (48 ≤ (c.toNat : Int)) = true := by simp; omega
              have d3 : decide ((c.toNat : Int) ≤ 57) = false := by simp; omega
              clear hx hy hc hlt hj hq
              go_wp2_with fail
              go_meet
              exact ⟨HW.out, by rw [HQ.out]⟩
    case rest =>
    obtain ⟨hw5, rfl⟩ := hcut
    obtain ⟨w5, hw6⟩ : ∃ v, v = wc := ⟨_, rfl⟩
    rw [← hw6] at hw5 ⊢
    clear hw6
    subst hw5
    rw [← HATB.out]
    clear HATB HG2 HX2
    have hpart := HPART.out
    have hcat := HCAT.out
    have hsum : ¬ 9223372036854775807 < ip.length + fp.length := by have h := HDD.out; have h2 := HD2.out; rw [h, List.length_append] at h2; omega
    have z1 := HZS.out
    go_upto_region 18 with fail
    clear hpart hcat HPART HCAT hsum z1
    rcases HEX.out with ⟨hex, hE⟩ | ⟨c, pl, x, hex, hc, hpl, hx, hE⟩
    · skip
      have hlen : u.length = AT := by rw [HU.out, hex, List.append_nil, List.length_append]; exact HAT.out.symm
      have d1 := lt_f12 (x := AT) (y := u.length) (by omega)
      have d1n := ltn_f12 (x := AT) (y := u.length) (by omega)
      have z1 : wrap64 ((a : Int) + 0) = (a : Int) + 0 := by have := HAB.out; unfold wrap64; omega
      have z2 : wrap64 (a : Int) = (a : Int) := by have := HAB.out; unfold wrap64; omega
      have HE0 := Lib.hid hE
      clear hex hE hlen
      have cR := Lib.hid fun w => refRead_good D (a : Int) w HD1.out HD2.out HD3.out (by have := HAB.out;  omega)
      go_wp2_with fail
      refine (cR.out _).mono ?_
      rintro r w2 ⟨⟨p, hp, rfl⟩, hB2⟩
      have HP : Hid (NearIs (dA D ((ip.length : Int) + E)) (dB D ((ip.length : Int) + E)) p) := by rw [HE0.out, ← HAA.out, Int.add_zero]; exact hp
      have HB2 : Hid (Below w.heap.size w w2) := HB.out.trans (hB2.mono HB.out.size)
      have hpb : p ≤ 9218868437227405312 := hp.1
      clear hp hB2 cR
      by_cases h9 : p = 9218868437227405312
      · have r1 : rdB p = false := by rw [h9]; rfl
        have HE1 : Hid (∀ b, pnP b p = 0 ∧ pnE p = 10) := fun b => by unfold pnP pnE; rw [if_pos h9, if_pos h9]; exact ⟨rfl, rfl⟩
        generalize rdP p = rp at *
        clear hpb h9
        go_wp2_with fail
        go_ret2
        exact ⟨⟨p, by rw [← HDD.out]; exact HP.out, by rw [(HE1.out _).1, (HE1.out true).2]; rfl⟩, HB2.out⟩
      · have r1 : rdB p = true := by unfold rdB; simp [h9]
        have r2 : rdP p = p := by unfold rdP; rw [if_neg h9]
        have HE1 : Hid (∀ b, pnP b p = pat b p ∧ pnE p = 0) := fun b => by unfold pnP pnE; rw [if_neg h9, if_neg h9]; exact ⟨rfl, rfl⟩
        have r3 : IntKind.u64.wrap ((p : Int) + 9223372036854775808) = ((pat true p : Nat) : Int) := by rw [IntKind.wrap_u64]; simp only [pat, if_true]; omega
        rw [r2]
        clear hpb h9 r2
        go_wp2_with fail
        go_ret2
        exact ⟨⟨p, by rw [← HDD.out]; exact HP.out, by rw [(HE1.out _).1, (HE1.out true).2]; first | rfl | rw [r3]⟩, HB2.out⟩

    · skip
      obtain ⟨L, hL⟩ : ∃ L, L = pl ++ x := ⟨_, rfl⟩
      rw [← hL] at hex
      have hulen : u.length = AT + 1 + L.length := by rw [HU.out, hex, ← List.append_assoc, List.length_append, List.length_append, List.length_cons]; have := HAT.out; omega
      have hgL : ∀ j, u.getD (AT + 1 + j) 0 = L.getD j 0 := fun j => by
        rw [HU.out, hex, ← List.append_assoc, get_behind (i := AT + 1 + j) (j := 1 + j) (by rw [List.length_append]; have := HAT.out; omega)]
        rw [Nat.add_comm 1 j]
        rfl
      have hx0 : 0 < x.length := List.length_pos_iff.2 (digs_iff.1 hx).2
      have hL0 : 0 < L.length := by rw [hL, List.length_append]; omega
      have d1 := lt_t12 (x := AT) (y := u.length) (by omega)
      have d1n := ltn_t12 (x := AT) (y := u.length) (by omega)
      obtain ⟨s1, hs1⟩ : ∃ s1, s1 = AT + 1 := ⟨_, rfl⟩
      have hub := HUL.out
      have z1 : wrap64 ((AT : Int) + 1) = (s1 : Int) := by unfold wrap64; omega
      have y0 := at_s12 u (s1 : Int) s1 rfl (by omega) w5
      rw [hs1, show AT + 1 = AT + 1 + 0 by omega, hgL 0] at y0
      obtain ⟨low, hlow⟩ : ∃ low : Bool, low = decide (pl = [45]) := ⟨_, rfl⟩
      have y1 : (((L.getD 0 0).toNat : Int) == 45) = low := by
        rw [hlow, hL]
        rcases hpl with rfl | rfl | rfl
        · have h1 := digs_at hx hx0
          rw [List.nil_append, decide_eq_false (by simp), beq_eq_false_iff_ne]
          omega
        · rfl
        · rfl
      obtain ⟨c1, hc1⟩ : ∃ c1, c1 = L.getD 0 0 := ⟨_, rfl⟩
      rw [← hc1] at y0 y1
      have y0' : (Instr.index 9 (.string ⟨u.toArray⟩) (.int .i64 (s1 : Int))).run Tryd.prog w5 = .ok (.int .u8 (c1.toNat : Int)) w5 := by
        rw [hs1]; exact y0
      clear y0 hc1
      have HGL : Hid (∀ j, u.getD (s1 + j) 0 = L.getD j 0) := fun j => by rw [hs1]; exact hgL j
      have HLEN : Hid (u.length = s1 + L.length) := show _ = _ by rw [hs1]; exact hulen
      have HCE : Hid (ce L = min (nd x) 10000) := show _ = _ by rw [hL]; exact ce_all hpl hx
      have HEE : Hid (E = if low = true then -(nd x : Int) else (nd x : Int)) := show _ = _ by
        rw [hlow, hE]
        by_cases h : pl = [45] <;> simp [h]
      clear hex hc hpl hx hE hL hulen hgL hx0 hL0 hs1 hub hlow
      go_upto_block 4 with fail
      have HZS := Lib.hid z1
      clear d1 d1n z1 y0' y1
      go_cut [7, 8] (fun v7 _ wx => wx = w5 ∧ v7 = .int .i64 ((ce L : Nat) : Int))
      case first =>
        go_wp2_with fail
        go_loopw [7, 8] (fun v7 v8 wx => wx = w5 ∧ ∃ j : Nat, j ≤ L.length ∧ v8 = .int .i64 ((s1 + j : Nat) : Int) ∧ v7 = .int .i64 ((ce (L.take j) : Nat) : Int)) (fun _ v8 _ => 1000 - (intOf v8).toNat)
        case atStart => exact ⟨rfl, 0, Nat.zero_le _, by rw [HZS.out]; rfl, rfl⟩
        case round =>
          obtain ⟨hwr, j, hj, rfl, rfl⟩ := hrel
          have HW := Lib.hid hwr
          clear hwr
          have hub := HUL.out
          have hlen := HLEN.out
          obtain ⟨q, hq⟩ : ∃ q, q = s1 + j := ⟨_, rfl⟩
          rw [← hq]
          by_cases hlt : j < L.length
          · have g3 : q < u.length := by omega
            have d1 := lt_t12 g3
            have d1n := ltn_t12 g3
            have x1 := at_s12 u (q : Int) q rfl g3 wr
            have hg := HGL.out j
            rw [← hq] at hg
            rw [hg] at x1
            have htk : L.take (j + 1) = L.take j ++ [L.getD j 0] := by
              rw [List.take_add_one]
              simp [List.getD, hlt]
            generalize L.getD j 0 = c at *
            have HTK := Lib.hid htk
            have HZ : Hid (wrap64 ((q : Int) + 1) = ((s1 + (j + 1) : Nat) : Int)) := show _ = _ by unfold wrap64; omega
            have HQ : Hid (q + 1 = s1 + (j + 1) ∧ q < 1000) := show _ ∧ _ by omega
            have HJ : Hid (j + 1 ≤ L.length) := hlt
            have hcl : ce (L.take j) ≤ 10000 := Nat.min_le_right _ _
            by_cases hd : isD c = true
            · have hdr : 48 ≤ c.toNat ∧ c.toNat ≤ 57 := by simpa [isD] using hd
              have hce := ce_digit (q := L.take j) hd
              rw [← htk] at hce
              generalize ce (L.take j) = v at *
              obtain ⟨dd, hdd⟩ : ∃ dd, dd = dv c := ⟨_, rfl⟩
              have hd9 : dd ≤ 9 ∧ (c.toNat : Int) - 48 = (dd : Int) := by unfold dv at hdd; omega
              obtain ⟨t1, ht1⟩ : ∃ t1, t1 = v * 10 := ⟨_, rfl⟩
              obtain ⟨t2, ht2⟩ : ∃ t2, t2 = t1 + dd := ⟨_, rfl⟩
              have d2 : decide (48 ≤ (c.toNat : Int)) = true := by simp; omega
              have d3 : decide ((c.toNat : Int) ≤ 57) = true := by simp; omega
              have hce2 : ce (L.take (j + 1)) = min t2 10000 := by rw [hce, ht2, ht1, hdd]
              have hm : ((t2 : Int) < 10000 ∧ min t2 10000 = t2) ∨ (t2 = 10000 ∧ min t2 10000 = 10000) ∨ ((10000 : Int) < (t2 : Int) ∧ min t2 10000 = 10000) := by
                clear hub hlen hq hlt hj g3 hce hce2
                omega
              have k1 : (v : Int) * 10 = (t1 : Int) := by omega
              have k4 : (t1 : Int) + (dd : Int) = (t2 : Int) := by omega
              have k2 := hd9.2
              have b1 : t1 < 4611686018427387904 := by omega
              have b2 : t2 < 4611686018427387904 := by omega
              have b3 : dd < 4611686018427387904 := by omega
              have b4 : dd < 256 := by omega
              have e2 : IntKind.u8.wrap ((c.toNat : Int) - 48) = (dd : Int) := by rw [k2, IntKind.wrap_u8]; exact Int.emod_eq_of_lt (Int.natCast_nonneg _) (by exact_mod_cast b4)
              have e1 : wrap64 ((v : Int) * 10) = (t1 : Int) := by rw [k1]; exact wr12 b1
              have e3 : wrap64 (dd : Int) = (dd : Int) := wr12 b3
              have e4 : wrap64 ((t1 : Int) + (dd : Int)) = (t2 : Int) := by rw [k4]; exact wr12 b2
              clear k1 k2 k4 b1 b2 b3 b4
              clear hd hdr hce hdd hd9 ht1 ht2 hcl htk hg g3 hlt hj hub hlen hq
              rcases hm with ⟨m1, m2⟩ | ⟨m1, m2⟩ | ⟨m1, m2⟩
              all_goals
                rw [m2] at hce2
                have HCE2 := Lib.hid hce2
                try subst m1
                clear hce2 m2
                go_wp2_with fail
                go_roundw
                case rel => exact ⟨HW.out, j + 1, HJ.out, by rw [HZ.out], by rw [HCE2.out]; first | done | rfl⟩
                case measure =>
                  rw [HZ.out, ← HQ.out.1]
                  clear d1 d1n d2 d3 x1 e1 e2 e3 e4
                  exact meas12 HQ.out.2
            · have hdf : isD c = false := by simpa using hd
              have hce := ce_other (q := L.take j) hdf
              rw [← htk] at hce
              have HCE2 := Lib.hid hce
              have hdr : c.toNat < 48 ∨ 57 < c.toNat := by simp [isD] at hdf; omega
              generalize ce (L.take j) = v at *
              by_cases hc : c.toNat < 48
              · have d2 : decide (48 ≤ (c.toNat : Int)) = false := by simp; omega
                clear hd hdf hce hdr hc hcl htk hg g3 hlt hj hub hlen hq
                go_wp2_with fail
                go_roundw
                case rel => exact ⟨HW.out, j + 1, HJ.out, by rw [HZ.out], by rw [HCE2.out]⟩
                case measure => rw [HZ.out, ← HQ.out.1]; clear d1 d1n d2 x1; exact meas12 HQ.out.2
              · have d2 : decide (48 ≤ (c.toNat : Int)) = true := by simp; omega
                have d3 : decide ((c.toNat : Int) ≤ 57) = false := by simp; omega
                clear hd hdf hce hdr hc hcl htk hg g3 hlt hj hub hlen hq
                go_wp2_with fail
                go_roundw
                case rel => exact ⟨HW.out, j + 1, HJ.out, by rw [HZ.out], by rw [HCE2.out]⟩
                case measure => rw [HZ.out, ← HQ.out.1]; clear d1 d1n d2 d3 x1; exact meas12 HQ.out.2
          · obtain rfl : j = L.length := by omega
            have d1 := lt_f12 (x := q) (y := u.length) (by omega)
            have d1n := ltn_f12 (x := q) (y := u.length) (by omega)
            rw [List.take_of_length_le (Nat.le_refl _)]
            clear hub hlen hq hlt hj
            go_wp2_with fail
            go_meet
            exact ⟨HW.out, rfl⟩
      case rest =>
      obtain ⟨rfl, rfl⟩ := hcut
      have hx1 : ce L ≤ 10000 := Nat.min_le_right _ _
      have HXB := Lib.hid hx1
      obtain ⟨X, hX⟩ : ∃ X, X = ce L := ⟨_, rfl⟩
      have HXE : Hid (X = min (nd x) 10000 ∧ X ≤ 10000) := show _ ∧ _ by rw [hX]; exact ⟨HCE.out, hx1⟩
      rw [← hX]
      clear hx1 hX HXB
      cases low
      · have z3 : wrap64 (-(X : Int)) = -(X : Int) := by have := HXE.out; unfold wrap64; omega
        have z1 : wrap64 ((a : Int) + (X : Int)) = (a : Int) + (X : Int) := by have := HXE.out; have := HAB.out; unfold wrap64; omega
        have cR := Lib.hid fun w => refRead_good D ((a : Int) + (X : Int)) w HD1.out HD2.out HD3.out (by have := HAB.out; have := HXE.out;  omega)
        go_wp2_with fail
        refine (cR.out _).mono ?_
        rintro r w2 ⟨⟨p, hp, rfl⟩, hB2⟩
        have HP : Hid (NearIs (dA D ((ip.length : Int) + E)) (dB D ((ip.length : Int) + E)) p) := by
          have h1 := HXE.out
          have h2 := HEE.out
          have h3 := HAB.out
          have h4 := HAA.out
          by_cases hn : nd x ≤ 10000
          · have : (ip.length : Int) + E = (a : Int) + (X : Int) := by rw [h2]; simp; omega
            rw [this]
            exact hp
          · refine near_move HD3.out HD2.out ?_ hp
            rw [h2]
            simp
            omega
        have HB2 : Hid (Below w.heap.size w w2) := HB.out.trans (hB2.mono HB.out.size)
        have hpb : p ≤ 9218868437227405312 := hp.1
        clear hp hB2 cR
        by_cases h9 : p = 9218868437227405312
        · have r1 : rdB p = false := by rw [h9]; rfl
          have HE1 : Hid (∀ b, pnP b p = 0 ∧ pnE p = 10) := fun b => by unfold pnP pnE; rw [if_pos h9, if_pos h9]; exact ⟨rfl, rfl⟩
          generalize rdP p = rp at *
          clear hpb h9
          go_wp2_with fail
          go_ret2
          exact ⟨⟨p, by rw [← HDD.out]; exact HP.out, by rw [(HE1.out _).1, (HE1.out true).2]; rfl⟩, HB2.out⟩
        · have r1 : rdB p = true := by unfold rdB; simp [h9]
          have r2 : rdP p = p := by unfold rdP; rw [if_neg h9]
          have HE1 : Hid (∀ b, pnP b p = pat b p ∧ pnE p = 0) := fun b => by unfold pnP pnE; rw [if_neg h9, if_neg h9]; exact ⟨rfl, rfl⟩
          have r3 : IntKind.u64.wrap ((p : Int) + 9223372036854775808) = ((pat true p : Nat) : Int) := by rw [IntKind.wrap_u64]; simp only [pat, if_true]; omega
          rw [r2]
          clear hpb h9 r2
          go_wp2_with fail
          go_ret2
          exact ⟨⟨p, by rw [← HDD.out]; exact HP.out, by rw [(HE1.out _).1, (HE1.out true).2]; first | rfl | rw [r3]⟩, HB2.out⟩
      · have z3 : wrap64 (-(X : Int)) = -(X : Int) := by have := HXE.out; unfold wrap64; omega
        have z1 : wrap64 ((a : Int) + (-(X : Int))) = (a : Int) + (-(X : Int)) := by have := HXE.out; have := HAB.out; unfold wrap64; omega
        have z1b : wrap64 ((a : Int) - (X : Int)) = (a : Int) + -(X : Int) := by have := HXE.out; have := HAB.out; unfold wrap64; omega
        have cR := Lib.hid fun w => refRead_good D ((a : Int) + (-(X : Int))) w HD1.out HD2.out HD3.out (by have := HAB.out; have := HXE.out;  omega)
        go_wp2_with fail
        refine (cR.out _).mono ?_
        rintro r w2 ⟨⟨p, hp, rfl⟩, hB2⟩
        have HP : Hid (NearIs (dA D ((ip.length : Int) + E)) (dB D ((ip.length : Int) + E)) p) := by
          have h1 := HXE.out
          have h2 := HEE.out
          have h3 := HAB.out
          have h4 := HAA.out
          by_cases hn : nd x ≤ 10000
          · have : (ip.length : Int) + E = (a : Int) + (-(X : Int)) := by rw [h2]; simp; omega
            rw [this]
            exact hp
          · refine near_move HD3.out HD2.out ?_ hp
            rw [h2]
            simp
            omega
        have HB2 : Hid (Below w.heap.size w w2) := HB.out.trans (hB2.mono HB.out.size)
        have hpb : p ≤ 9218868437227405312 := hp.1
        clear hp hB2 cR
        by_cases h9 : p = 9218868437227405312
        · have r1 : rdB p = false := by rw [h9]; rfl
          have HE1 : Hid (∀ b, pnP b p = 0 ∧ pnE p = 10) := fun b => by unfold pnP pnE; rw [if_pos h9, if_pos h9]; exact ⟨rfl, rfl⟩
          generalize rdP p = rp at *
          clear hpb h9
          go_wp2_with fail
          go_ret2
          exact ⟨⟨p, by rw [← HDD.out]; exact HP.out, by rw [(HE1.out _).1, (HE1.out true).2]; rfl⟩, HB2.out⟩
        · have r1 : rdB p = true := by unfold rdB; simp [h9]
          have r2 : rdP p = p := by unfold rdP; rw [if_neg h9]
          have HE1 : Hid (∀ b, pnP b p = pat b p ∧ pnE p = 0) := fun b => by unfold pnP pnE; rw [if_neg h9, if_neg h9]; exact ⟨rfl, rfl⟩
          have r3 : IntKind.u64.wrap ((p : Int) + 9223372036854775808) = ((pat true p : Nat) : Int) := by rw [IntKind.wrap_u64]; simp only [pat, if_true]; omega
          rw [r2]
          clear hpb h9 r2
          go_wp2_with fail
          go_ret2
          exact ⟨⟨p, by rw [← HDD.out]; exact HP.out, by rw [(HE1.out _).1, (HE1.out true).2]; first | rfl | rw [r3]⟩, HB2.out⟩

end Go.Proofs.YtemkllnnemadeaaDoor
