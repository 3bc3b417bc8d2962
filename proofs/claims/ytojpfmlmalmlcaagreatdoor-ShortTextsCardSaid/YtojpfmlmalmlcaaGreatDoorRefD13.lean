/-
  What the document's Digits does: the fewest digits, as one predicate that has one solution. No condition beyond what the contract says.
-/
import Derived.Test.YtojpfmlmalmlcaaGreatDoorMore13
import Derived.Test.YtojpfmlmalmlcaaGreatDoorShortPure
import Derived.BigQuiet
import Derived.Deep.CutBlock
namespace Go.Proofs.YtojpfmlmalmlcaaGreatDoor
open Go.RowKit

/-- What the document's Digits has at hand ahead of its loop. -/
structure Hand (r W z : Nat) (D lo hi : List UInt8) (X t u : Int) : Prop where
  r0 : r ≠ 0
  rm : r ≤ 9218868437227405311
  trim : Trim D
  vv : VV r = nd D * 10 ^ z
  zx : (z : Int) = X - (D.length : Int) + 1074
  w_ : W = D.length + z
  low : Fine lo t (vN (r - 1) + vN r)
  high : Fine hi u (vN r + vN (r + 1))
  wb : W ≤ 2000
theorem hand_of {r : Nat} {D lo hi : List UInt8} {X t u : Int} (hk : kOf r = 2) (hD : Fine D X (2 * vN r)) (hl : Fine lo t (vN (r - 1) + vN r)) (hh : Fine hi u (vN r + vN (r + 1))) : ∃ W z, Hand r W z D lo hi X t u := by
  obtain ⟨r0, rm⟩ := k_two hk
  obtain ⟨z, h1, h2⟩ := fine_exact hD
  refine ⟨_, z, r0, rm, hD.trim, h1, h2, rfl, hl, hh, ?_⟩
  obtain ⟨w1, w2, w3⟩ := fine_width hD.trim h1 rfl
  obtain ⟨m, L, H, k, T, e, unit, U, st⟩ := starts_of hk
  have hs := st.size.2
  have ht := st.tb
  have hU := st.U_
  obtain ⟨N, hN⟩ : ∃ N, N = 19 := ⟨_, rfl⟩
  have h20 : 20 * 10 ^ 17 ≤ 10 ^ N := by rw [hN]; decide
  have h3 : 10 ^ (D.length + z - 1) < 10 ^ (N + U) := by
    rw [Nat.pow_add 10 N]
    exact Nat.lt_of_le_of_lt w2 (Nat.lt_of_lt_of_le hs (Nat.mul_le_mul_right _ h20))
  have h4 : D.length + z - 1 < N + U := by
    apply Nat.lt_of_not_le
    intro hle
    exact absurd h3 (Nat.not_lt.2 (Nat.pow_le_pow_right (by decide) hle))
  omega
variable {r W z : Nat} {D lo hi : List UInt8} {X t u : Int}
theorem Hand.wx (h : Hand r W z D lo hi X t u) : (W : Int) = X + 1074 := by have := h.zx; have := h.w_; omega
theorem Hand.len (h : Hand r W z D lo hi X t u) : D.length ≤ W := by have := h.w_; omega
/-- What a round decides. -/
theorem Hand.round (h : Hand r W z D lo hi X t u) {n i : Nat} {a c : List UInt8} {y : Int} {carry : Bool} (h1 : 1 ≤ n) (hn : n < D.length) (hm : ∀ j, 1 ≤ j → j < n → ¬ Hit r (VV r) (W - j))
    (ha : D.take n = a ++ List.replicate i 48) (htl : Tl a) (hc : MoreR (D.take n) c carry) (hy : y = if carry then X + 1 else X) :
    (withinB r (cmpD a X lo t) (cmpD a X hi u) = true → withinB r (cmpD c y lo t) (cmpD c y hi u) = false ∨ (Op.bytesLess (D.drop n) [53] = true ∨ (D.drop n = [53] ∧ dv (D.getD (n - 1) 0) % 2 = 0)) → ShAns r a X) ∧
    (withinB r (cmpD c y lo t) (cmpD c y hi u) = true → withinB r (cmpD a X lo t) (cmpD a X hi u) = false ∨ ¬ (Op.bytesLess (D.drop n) [53] = true ∨ (D.drop n = [53] ∧ dv (D.getD (n - 1) 0) % 2 = 0)) → ShAns r c y) ∧
    (withinB r (cmpD a X lo t) (cmpD a X hi u) = false → withinB r (cmpD c y lo t) (cmpD c y hi u) = false → ∀ j, 1 ≤ j → j < n + 1 → ¬ Hit r (VV r) (W - j)) := by
  have hl := h.len
  have cA := cand_a h.trim h1 (by omega) (by omega) h.wx ha htl
  have cC := cand_c h.trim h1 (by omega) (by omega) h.wx hc
  rw [← hy] at cC
  have nA := within_near (x := X) h.r0 h.rm cA.1 h.low h.high
  have nC := within_near (x := y) h.r0 h.rm cC.1 h.low h.high
  obtain ⟨s1, s2⟩ := step_ans h.trim h.vv h.w_ h1 hn cA cC hm
  refine ⟨fun f g => s1 (nA.1 f) (g.imp (fun g k => absurd (nC.2 k) (by rw [g]; decide)) id), fun g f => s2 (nC.1 g) (f.imp (fun f k => absurd (nA.2 k) (by rw [f]; decide)) id), fun f g j j1 j2 => ?_⟩
  by_cases hj : j = n
  · subst hj
    exact step_no h.trim h.vv h.w_ hn cA cC (fun k => absurd (nA.2 k) (by rw [f]; decide)) (fun k => absurd (nC.2 k) (by rw [g]; decide))
  · exact hm j j1 (by omega)
theorem Hand.done (h : Hand r W z D lo hi X t u) (hm : ∀ j, 1 ≤ j → j < D.length → ¬ Hit r (VV r) (W - j)) : ShAns r D X := end_ans h.rm h.trim h.vv h.zx h.w_ hm

set_option maxHeartbeats 4000000 in
set_option maxRecDepth 100000 in
theorem refDig_any (s : Bool) (r : Nat) (hr : r < 9223372036854775808) (w : World) :
    Calls Tryz.prog 10 #[.int .u64 ((pat s r : Nat) : Int)] w fun e w' => (∃ d x ok, e = .returned (.tuple #[.string ⟨d.toArray⟩, .int .i64 x, .bool ok]) ∧ DigAns r d x ok) ∧ Below w.heap.size w w' := by
  have cS := Lib.hid (refSplit_any s r hr w)
  by_cases hk : kOf r = 2
  · obtain ⟨r0, rm⟩ := k_two hk
    have he := eb12 r
    have he1 := eb12 (r - 1)
    obtain ⟨g1, g2⟩ := mid_split r0 (by omega)
    have hmb : 1 ≤ mOf r ∧ mOf r < 9007199254740992 := by
      obtain ⟨_, _, _, _, _, _, _, _, st⟩ := starts_of hk
      have := st.mb; rw [st.m_] at this; exact this
    obtain ⟨X0, hX0⟩ : ∃ X0 : Int, X0 = ((pat s r : Nat) : Int) := ⟨_, rfl⟩
    obtain ⟨Y0, hY0⟩ : ∃ Y0 : Int, Y0 = 2 * (r : Int) := ⟨_, rfl⟩
    have k1 : IntKind.u64.wrap (X0 * 2) = Y0 := by
      rw [IntKind.wrap_u64, hX0]; unfold pat; split <;> omega
    have k2 : Y0 / 2 = (r : Int) := by omega
    have k3 : IntKind.u64.wrap (r : Int) = (r : Int) := by rw [IntKind.wrap_u64]; omega
    rw [hk, ← hX0] at cS
    have cE := Lib.hid fun w => exact_any (mOf r) (eOf r) w (by omega) (by omega) (by omega)
    have cH := Lib.hid fun w => exact_any (2 * mOf r + 1) (eOf r - 1) w (by omega) (by omega) (by omega)
    rw [← g1] at cE
    rw [← g2] at cH
    rw [← hX0]
    obtain ⟨M, hM⟩ : ∃ M, M = mOf r := ⟨_, rfl⟩
    obtain ⟨E, hE⟩ : ∃ E, E = eOf r := ⟨_, rfl⟩
    obtain ⟨M2, hM2⟩ : ∃ M2, M2 = 2 * M + 1 := ⟨_, rfl⟩
    obtain ⟨MT, hMT⟩ : ∃ MT, MT = 2 * M := ⟨_, rfl⟩
    obtain ⟨E1, hE1⟩ : ∃ E1, E1 = E - 1 := ⟨_, rfl⟩
    obtain ⟨M3, hM3⟩ : ∃ M3, M3 = mOf (r - 1) := ⟨_, rfl⟩
    obtain ⟨E3, hE3⟩ : ∃ E3, E3 = eOf (r - 1) := ⟨_, rfl⟩
    obtain ⟨M4, hM4⟩ : ∃ M4, M4 = 2 * M3 + 1 := ⟨_, rfl⟩
    obtain ⟨MU, hMU⟩ : ∃ MU, MU = 2 * M3 := ⟨_, rfl⟩
    obtain ⟨E4, hE4⟩ : ∃ E4 : Int, E4 = if r = 1 then -1074 else E3 := ⟨_, rfl⟩
    obtain ⟨E5, hE5⟩ : ∃ E5, E5 = E4 - 1 := ⟨_, rfl⟩
    have hm3 : M3 < 9007199254740992 := by
      rw [hM3]; unfold mOf
      split
      · omega
      · split <;> omega
    have hlow : vN (r - 1) + vN r = M4 * 2 ^ (E5 + 1075).toNat := by
      by_cases h1 : r = 1
      · rw [if_pos h1] at hE4
        subst h1
        rw [hE5, hE4, hM4, hM3, show mOf (1 - 1) = 0 from rfl]
        exact mid_none
      · rw [if_neg h1] at hE4
        have := (mid_split (p := r - 1) (by omega) (by omega)).2
        rw [show r - 1 + 1 = r by omega] at this
        rw [this, hE5, hE4, hM4, hM3, hE3]
    have hE5b : -1075 ≤ E5 ∧ E5 ≤ 971 := by rw [hE5, hE4]; split <;> omega
    have cL := Lib.hid fun w => exact_any M4 E5 w (by omega) (by omega) hE5b
    rw [← hlow] at cL
    have cQ := Lib.hid fun w => refSplit_any false (r - 1) (by omega) w
    rw [show pat false (r - 1) = r - 1 from rfl, ← hM3, ← hE3] at cQ
    rw [← hM, ← hE] at cS cE
    rw [← hM, ← hE, ← hM2, ← hE1] at cH
    obtain ⟨R1, hR1⟩ : ∃ R1, R1 = r - 1 := ⟨_, rfl⟩
    rw [← hR1] at cQ
    have v1 : IntKind.u64.wrap (2 * (M : Int)) = (MT : Int) := by rw [IntKind.wrap_u64]; omega
    have v2 : IntKind.u64.wrap ((MT : Int) + 1) = (M2 : Int) := by rw [IntKind.wrap_u64]; omega
    have v3 : wrap64 (E - 1) = E1 := by unfold wrap64; omega
    have v4 : IntKind.u64.wrap ((r : Int) - 1) = (R1 : Int) := by rw [IntKind.wrap_u64]; omega
    have v5 : IntKind.u64.wrap (2 * (M3 : Int)) = (MU : Int) := by rw [IntKind.wrap_u64]; omega
    have v6 : IntKind.u64.wrap ((MU : Int) + 1) = (M4 : Int) := by rw [IntKind.wrap_u64]; omega
    have v7 : wrap64 (E4 - 1) = E5 := by unfold wrap64; omega
    have HK := Lib.hid hk
    have hE4b : (r = 1 ∧ E4 = -1074) ∨ (r ≠ 1 ∧ E4 = E3) := by
      by_cases h1 : r = 1
      · exact .inl ⟨h1, by rw [hE4, if_pos h1]⟩
      · exact .inr ⟨h1, by rw [hE4, if_neg h1]⟩
    generalize kOf (r - 1) = kq at *
    have hRr : (r : Int) ≤ 9218868437227405311 := by omega
    clear hY0 hk r0 rm he he1 g1 g2 hmb hX0 hM hE hM2 hMT hE1 hM3 hE3 hM4 hMU hE4 hE5 hm3 hlow hE5b hR1
    obtain ⟨rz, hrz⟩ : ∃ rz : Int, rz = (r : Int) := ⟨_, rfl⟩
    rw [← hrz] at k2 k3 v4
    have d1 : ((rz == 1) = true ∧ E4 = -1074) ∨ ((rz == 1) = false ∧ E4 = E3) := by
      rcases hE4b with ⟨h, e⟩ | ⟨h, e⟩
      · exact .inl ⟨by simp; omega, e⟩
      · exact .inr ⟨by simp; omega, e⟩
    have HRZ := Lib.hid hrz
    clear hE4b hRr hrz hr
    go_enter Tryz.func10, Tryz.ntmps10
    go_wp2_with fail
    refine cS.out.mono ?_
    rintro e w5 ⟨rfl, hw5⟩; subst w5
    clear cS
    go_wp2_with fail
    refine (cE.out _).mono ?_
    rintro e w1 ⟨⟨D, X, rfl, hD⟩, B1⟩
    have HD := Lib.hid hD; have HB1 := Lib.hid B1
    clear hD B1 cE
    go_wp2_with fail
    refine (cH.out _).mono ?_
    rintro e w2 ⟨⟨hi, u, rfl, hH⟩, B2⟩
    have HH := Lib.hid hH; have HB2 := Lib.hid (HB1.out.trans (B2.mono HB1.out.size))
    clear hH B2 cH HB1
    go_wp2_with fail
    refine (cQ.out _).mono ?_
    rintro e w5 ⟨rfl, hw5⟩; subst w5
    clear cQ
    go_upto_if 60 with fail
    go_cut [8] (fun v8 wx => v8 = .int .i64 E4 ∧ wx = w2)
    case first =>
      rcases d1 with ⟨b1, b2⟩ | ⟨b1, b2⟩
      all_goals
        go_wp2_with fail
        go_meet
        exact ⟨by rw [b2], rfl⟩
    case rest =>
      obtain ⟨rfl, rfl⟩ := hcut
      clear d1 k1 k2 k3 v1 v2 v3 v4
      go_wp2_with fail
      refine (cL.out _).mono ?_
      rintro e w3 ⟨⟨lo, t, rfl, hL⟩, B3⟩
      have HB3 := Lib.hid (HB2.out.trans (B3.mono HB2.out.size))
      obtain ⟨W, z, hh⟩ := hand_of HK.out HD.out hL HH.out
      have HA := Lib.hid hh
      have hlen : D.length ≤ 2000 := Nat.le_trans hh.len hh.wb
      have HLN := Lib.hid hlen
      have HXB : Hid (-1000000 ≤ X - 1 ∧ X + 1 ≤ 1000000) := show _ ∧ _ by have := hh.wx; have := hh.wb; omega
      clear hL B3 cL HB2 HD HH hh hlen v5 v6 v7
      go_wp2_with fail
      go_loopw [16] (fun v wr => ∃ n : Nat, v = .int .i64 (n : Int) ∧ 1 ≤ n ∧ (∀ j, 1 ≤ j → j < n → ¬ Hit r (VV r) (W - j)) ∧ Below w.heap.size w wr) (fun v _ => D.length - (intOf v).toNat)
      case atStart => exact ⟨1, rfl, Nat.le_refl _, fun j h1 h2 => by omega, HB3.out⟩
      case round =>
        clear HB3
        obtain ⟨n, rfl, h1, hm, hB⟩ := hrel
        have H1 := Lib.hid h1; have HM := Lib.hid hm; have HB := Lib.hid hB
        clear h1 hm hB
        by_cases hn : n < D.length
        · have b1 : decide ((n : Int) < (D.length : Int)) = true := by simp; exact hn
          have s1 := upto_s12 D n (by omega)
          have s2 := from_s12 D n (n : Int) rfl (by omega)
          have HN := Lib.hid hn
          go_wp2_with fail
          go_quiet (fail)
          have hBd : Below w.heap.size w (wr.drewN nq) := HB.out.trans ⟨rfl, rfl, rfl, Nat.le_refl _, fun _ _ => rfl⟩
          have HBD := Lib.hid hBd
          clear hBd
          generalize wr.drewN nq = w4 at *
          have S1 := Lib.hid s1
          obtain ⟨b, hb⟩ : ∃ b, b = D.drop n := ⟨_, rfl⟩
          rw [← hb]
          have Hb := Lib.hid hb
          have HTL : Hid ((D.take n).length ≤ 2000) := show _ ≤ _ by rw [List.length_take]; have := HLN.out; omega
          clear s1 s2 hb b1 hn
          generalize hA0 : D.take n = A0 at *
          have HA0 := Lib.hid hA0
          clear hA0
          go_upto_block 2 with fail
          go_cut [17] (fun v17 wx => wx = w4 ∧ ∃ a i, v17 = .string ⟨(a : List UInt8).toArray⟩ ∧ A0 = a ++ List.replicate i 48 ∧ Tl a)
          case first =>
            go_wp2_with fail
            go_loopw [17] (fun v wx => wx = w4 ∧ ∃ (a : List UInt8) (i : Nat), v = .string ⟨a.toArray⟩ ∧ A0 = a ++ List.replicate i 48) (fun v _ => strLen12 v)
            case atStart => exact ⟨rfl, A0, 0, rfl, by simp⟩
            case round =>
              obtain ⟨rfl, a, i, rfl, hai⟩ := hrel
              have hal : a.length ≤ 2000 := by
                have := congrArg List.length hai
                rw [List.length_append] at this
                have := HTL.out
                omega
              rcases List.eq_nil_or_concat a with he | ⟨m, c, he⟩
              · subst he
                have HAI := Lib.hid hai
                clear hai hal
                go_wp2_with fail
                go_meet
                exact ⟨rfl, [], i, rfl, HAI.out, by simp [Tl]⟩
              · rw [List.concat_eq_append] at he
                have hl : a.length = m.length + 1 := by rw [he]; simp
                have hg : a.getD m.length 0 = c := by rw [he]; simp
                have htk : a.take m.length = m := by rw [he]; simp
                have b1 : decide ((0 : Int) < (a.length : Int)) = true := by simp; omega
                have b1n : decide (0 < a.length) = true := by simp; omega
                have q1 : wrap64 ((a.length : Int) - 1) = (m.length : Int) := by unfold wrap64; omega
                have q2 := at_s12 a (m.length : Int) m.length rfl (by omega)
                rw [hg] at q2
                have q3 := upto_s12 a m.length (by omega)
                rw [htk] at q3
                have HLT : Hid (m.length < a.length) := show _ < _ by omega
                by_cases hc : c = 48
                · have HAI : Hid (A0 = m ++ List.replicate (i + 1) 48) := show _ = _ by
                    rw [hai, he, hc, List.replicate_succ]; simp
                  have b2 : ((c.toNat : Int) == 48) = true := by rw [hc]; rfl
                  clear he hl hg htk hc hai hal
                  go_wp2_with fail
                  go_roundw
                  case rel => exact ⟨trivial, m, i + 1, rfl, HAI.out⟩
                  case measure => simpa [strLen12, ByteArray.size] using HLT.out
                · have b2 : ((c.toNat : Int) == 48) = false := by
                    simp only [beq_eq_false_iff_ne]
                    exact fun e => hc (UInt8.toNat_inj.1 (by show c.toNat = 48; omega))
                  have HAI := Lib.hid hai
                  have HT : Hid (Tl a) := show Tl a by rw [he]; unfold Tl; simp [hc]
                  clear he hl hg htk hc hai hal
                  go_wp2_with fail
                  go_meet
                  exact ⟨rfl, a, i, rfl, HAI.out, HT.out⟩
          case rest =>
            obtain ⟨rfl, a, i, rfl, hai, htl⟩ := hcut
            have HAI := Lib.hid hai; have HTA := Lib.hid htl
            have cM := Lib.hid fun w => more_any A0 X w (by have := HTL.out; omega) (by have := HXB.out; omega)
            have s1 := S1.out
            have cW := Lib.hid fun (b e : Int) (w : World) => within_any r b e w
            rw [← HRZ.out] at cW
            clear hai htl
            go_wp2_with fail
            refine (cM.out _).mono ?_
            rintro e w5 ⟨⟨c, carry, y, rfl, hy, hmr⟩, B5⟩
            have HB5 := Lib.hid (HBD.out.trans (B5.mono HBD.out.size))
            rw [← HA0.out] at hmr
            have hai := HAI.out
            rw [← HA0.out] at hai
            have HR := Lib.hid (HA.out.round H1.out HN.out HM.out hai HTA.out hmr hy)
            clear cM B5 hy hmr s1 hai HBD
            obtain ⟨f, hf⟩ : ∃ f, f = withinB r (cmpD a X lo t) (cmpD a X hi u) := ⟨_, rfl⟩
            obtain ⟨g, hg⟩ : ∃ g, g = withinB r (cmpD c y lo t) (cmpD c y hi u) := ⟨_, rfl⟩
            have w1 := Lib.hid fun w => cmpDec_any a lo X t w
            have w2 := Lib.hid fun w => cmpDec_any a hi X u w
            have w3 := Lib.hid fun w => cW.out (cmpD a X lo t) (cmpD a X hi u) w
            have w4 := Lib.hid fun w => cmpDec_any c lo y t w
            have w5' := Lib.hid fun w => cmpDec_any c hi y u w
            have w6 := Lib.hid fun w => cW.out (cmpD c y lo t) (cmpD c y hi u) w
            rw [← hf] at w3 HR
            rw [← hg] at w6 HR
            clear hf hg
            generalize cmpD a X lo t = f1 at *
            generalize cmpD a X hi u = f2 at *
            generalize cmpD c y lo t = g1 at *
            generalize cmpD c y hi u = g2 at *
            clear cW
            go_wp2_with fail
            refine (w1.out _).mono ?_
            rintro e w7 ⟨rfl, hw7⟩; subst w7
            go_wp2_with fail
            refine (w2.out _).mono ?_
            rintro e w7 ⟨rfl, hw7⟩; subst w7
            go_wp2_with fail
            refine (w3.out _).mono ?_
            rintro e w7 ⟨rfl, hw7⟩; subst w7
            clear w1 w2 w3
            go_wp2_with fail
            refine (w4.out _).mono ?_
            rintro e w7 ⟨rfl, hw7⟩; subst w7
            go_wp2_with fail
            refine (w5'.out _).mono ?_
            rintro e w7 ⟨rfl, hw7⟩; subst w7
            go_wp2_with fail
            refine (w6.out _).mono ?_
            rintro e w7 ⟨rfl, hw7⟩; subst w7
            clear w4 w5' w6
            cases f with
            | false =>
              cases g with
              | false =>
                have q1 : wrap64 ((n : Int) + 1) = ((n + 1 : Nat) : Int) := by have := HN.out; have := HLN.out; unfold wrap64; omega
                have HNO := Lib.hid (HR.out.2.2 rfl rfl)
                have HLT := Lib.hid HN.out
                clear HR
                go_wp2_with fail
                refine ⟨⟨n + 1, by first | rfl | (rw [q1]) | (simp [q1]; done), by omega, HNO.out, HB5.out⟩, ?_⟩
                rw [q1]
                have := HLT.out
                simp [intOf]
                omega
              | true =>
                have HS := Lib.hid (HR.out.2.1 rfl (.inl rfl))
                clear HR
                go_wp2_with fail
                go_ret3
                exact ⟨⟨c, y, true, rfl, .inr ⟨HK.out, HS.out, rfl⟩⟩, HB5.out⟩
            | true =>
              cases g with
              | false =>
                have HS := Lib.hid (HR.out.1 rfl (.inl rfl))
                clear HR
                go_wp2_with fail
                go_ret3
                exact ⟨⟨a, X, true, rfl, .inr ⟨HK.out, HS.out, rfl⟩⟩, HB5.out⟩
              | true =>
                obtain ⟨k, hk⟩ : ∃ k, n = k + 1 := ⟨n - 1, by have := H1.out; omega⟩
                have q1 : wrap64 ((n : Int) - 1) = (k : Int) := by have := HN.out; have := HLN.out; unfold wrap64; omega
                have q2 := at_s12 D (k : Int) k rfl (by have := HN.out; omega)
                obtain ⟨ch, hch⟩ : ∃ ch, ch = D.getD (n - 1) 0 := ⟨_, rfl⟩
                rw [show D.getD k 0 = ch by rw [hch]; congr 1; omega] at q2
                have hdg : isD12 ch := by
                  rw [hch]
                  have hl := HN.out
                  rw [List.getD_eq_getElem?_getD, List.getElem?_eq_getElem (by omega)]
                  exact HA.out.trim.dgs _ (List.getElem_mem _)
                unfold isD12 at hdg
                rw [← hch] at HR
                obtain ⟨par, hpar⟩ : ∃ par, par = dv ch % 2 := ⟨_, rfl⟩
                rw [← hpar] at HR
                unfold dv at hpar
                obtain ⟨v0, hv0⟩ : ∃ v0 : Int, v0 = (ch.toNat : Int) - 48 := ⟨_, rfl⟩
                have q3 : IntKind.u8.wrap ((ch.toNat : Int) - 48) = v0 := by rw [IntKind.wrap_u8]; omega
                have q4 : v0.tmod 2 = (par : Int) := by rw [Int.tmod_eq_emod_of_nonneg (by omega)]; omega
                have q5 : v0 % 2 = (par : Int) := by omega
                rw [← Hb.out] at HR
                clear hk hch hdg hpar hv0
                go_wp2_with fail
                · have h1 : Op.bytesLess b [53] = true := by assumption
                  go_ret3
                  exact ⟨⟨a, X, true, rfl, .inr ⟨HK.out, HR.out.1 trivial (.inr (.inl h1)), rfl⟩⟩, HB5.out⟩
                · have h2 : b = [53] := by assumption
                  have h3 : ((par : Int) == 0) = true := by assumption
                  have h4 : par = 0 := by simpa using h3
                  go_ret3
                  exact ⟨⟨a, X, true, rfl, .inr ⟨HK.out, HR.out.1 trivial (.inr (.inr ⟨h2, h4⟩)), rfl⟩⟩, HB5.out⟩
                · have h1 : ¬ Op.bytesLess b [53] = true := by assumption
                  have h3 : ((par : Int) == 0) = false := by assumption
                  have h4 : par ≠ 0 := by simpa using h3
                  go_ret3
                  exact ⟨⟨c, y, true, rfl, .inr ⟨HK.out, HR.out.2.1 trivial (.inr (fun k => k.elim h1 (fun k => h4 k.2))), rfl⟩⟩, HB5.out⟩
                · have h1 : ¬ Op.bytesLess b [53] = true := by assumption
                  have h2 : ¬ b = [53] := by assumption
                  go_ret3
                  exact ⟨⟨c, y, true, rfl, .inr ⟨HK.out, HR.out.2.1 trivial (.inr (fun k => k.elim h1 (fun k => h2 k.1))), rfl⟩⟩, HB5.out⟩
        · have b1 : decide ((n : Int) < (D.length : Int)) = false := by simp; omega
          have HS := Lib.hid (HA.out.done (fun j j1 j2 => HM.out j j1 (by omega)))
          go_wp2_with fail
          go_ret3
          exact ⟨⟨D, X, true, rfl, .inr ⟨HK.out, HS.out, rfl⟩⟩, HB.out⟩
  · have d2 : (kOf r == 2) = false := by simpa using hk
    have d3 : (kOf r != 2) = true := by simpa using hk
    have HK := Lib.hid hk
    have HB := Lib.hid (Below.refl w.heap.size w)
    generalize kOf r = kk at cS d2 d3
    clear hr hk
    go_enter Tryz.func10, Tryz.ntmps10
    go_wp2_with fail
    refine cS.out.mono ?_
    rintro x w5 ⟨rfl, hw5⟩; subst w5
    clear cS
    go_wp2_with fail
    go_ret3
    exact ⟨⟨[], 0, false, rfl, .inl ⟨HK.out, rfl, rfl, rfl⟩⟩, HB.out⟩
end Go.Proofs.YtojpfmlmalmlcaaGreatDoor
