/-
  What the document's Lexeme does; no condition but the text's length.
-/
import Derived.Test.YtojpfmlmalmlcaaGreatDoorRefL12
import Derived.Deep.Cut
import Derived.Deep.DeepCutAuto
import Derived.Deep.CutBlock
namespace Go.Proofs.YtojpfmlmalmlcaaGreatDoor
open Go.RowKit
set_option maxHeartbeats 1000000 in
theorem refLexeme_any (s : List UInt8) (hs : s.length ≤ 1000000000) (w : World) :
    Calls Tryz.prog 15 #[.string ⟨s.toArray⟩] w fun x w' => x = .returned (.int .i64 (lexD s : Int)) ∧ Below w.heap.size w w' := by
  obtain ⟨r, hr⟩ : ∃ r, r = lexD s := ⟨_, rfl⟩
  rw [← hr]
  have B0 := Below.refl w.heap.size w
  by_cases h0 : s = []
  · subst h0
    have HE : Hid (r = 0) := hr
    have C : Hid (∀ w, Calls Tryz.prog 32 #[.string ⟨#[]⟩] w fun x w' => x = .returned (.int .i64 0) ∧ w' = w) := fun w => run_any [] (by decide) w
    clear hr hs
    go_enter Tryz.func15, Tryz.ntmps15
    go_wp2_with (go_at_call 32; with_reducible refine (C.out _).mono ?_; rintro e w2 ⟨rfl, hw⟩; subst hw; refine Hid.out ?_)
    refine Lib.hid ?_
    go_wp2_with fail
    go_ret
    exact ⟨by rw [HE.out]; rfl, B0⟩
  have hcase := minus_cases s h0
  have htl := trim_le s
  have HR : Hid (r = if run (trim s) = 0 ∨ ((trim s).getD 0 0 = 48 ∧ 1 < run (trim s)) then 0 else lexFrac ((trim s).drop (run (trim s)))) := hr
  clear hr h0
  generalize trim s = u at hcase htl HR
  have hul : u.length ≤ 1000000000 := by omega
  have cR := Lib.hid (fun w => run_any u hul w)
  have hrl := run_le u
  have hsl := fun w => slice_from u (run u) _ rfl hrl w
  have hdr : (u.drop (run u)).length ≤ 1000000000 := by rw [List.length_drop]; omega
  have hpn : run u ≠ 0 → ∀ w : World, (Instr.index 9 (.string ⟨u.toArray⟩) (.int .i64 0)).run Tryz.prog w = .ok (.int .u8 ((u.getD 0 0).toNat : Int)) w := fun h w => at_txt u .i64 0 0 rfl (by omega) w
  clear hs htl
  generalize hn : run u = n at cR hrl hsl HR hpn hdr
  have HNB : Hid ((n : Int) ≤ 1000000000) := show _ ≤ _ by omega
  clear hrl hn hul
  generalize u.drop n = v at hsl HR hdr
  have HDR := Lib.hid hdr
  clear hdr
  have hcase2 : (decide (0 < (s.length : Int)) = true ∧ decide (0 < s.length) = true ∧ (∀ w : World, (Instr.index 9 (.string ⟨s.toArray⟩) (.int .i64 0)).run Tryz.prog w = .ok (.int .u8 45) w) ∧ (∀ w : World, (Instr.slice 9 (.string ⟨s.toArray⟩) (some (.int .i64 1)) none none).run Tryz.prog w = .ok (.string ⟨u.toArray⟩) w)) ∨
      (u = s ∧ decide (0 < (u.length : Int)) = true ∧ decide (0 < u.length) = true ∧ (∀ w : World, (Instr.index 9 (.string ⟨u.toArray⟩) (.int .i64 0)).run Tryz.prog w = .ok (.int .u8 ((u.getD 0 0).toNat : Int)) w) ∧ (((u.getD 0 0).toNat : Int) == 45) = false) := by
    rcases hcase with ⟨q1, q1n, q2, q3, -⟩ | ⟨hu, q1, q1n, q2, q3⟩
    · exact .inl ⟨q1, q1n, q2, q3⟩
    · subst hu
      exact .inr ⟨rfl, q1, q1n, fun w => at_txt u .i64 0 0 rfl (List.length_pos_iff.2 q2) w, q3⟩
  clear hcase
  generalize u.getD 0 0 = c0 at HR hpn hcase2
  have HPN := Lib.hid hpn
  clear hpn
  rcases hcase2 with ⟨q1, q1n, q2, q3⟩ | ⟨hu, q1, q1n, q2, q3⟩
  all_goals (
    try subst hu
    go_enter Tryz.func15, Tryz.ntmps15
    go_wp2_with (go_at_call 32; with_reducible refine (cR.out _).mono ?_; rintro e w2 ⟨rfl, hw⟩; subst hw; refine Hid.out ?_)
    refine Lib.hid ?_
    by_cases z : n = 0
    · subst z
      have HE : Hid (r = 0) := show _ = _ by rw [HR.out, if_pos (.inl rfl)]
      clear hsl
      go_wp2_with fail
      go_ret
      exact ⟨by rw [HE.out]; rfl, B0⟩
    have x0 := HPN.out z
    have e1 : ((n : Int) == 0) = false := beq_eq_false_iff_ne.2 (by omega)
    have z' : ¬ ((n : Int) = 0) := by omega
    clear HPN
    by_cases hb : c0 = 48 ∧ 1 < n
    · have HE : Hid (r = 0) := show _ = _ by rw [HR.out, if_pos (.inr hb)]
      have g1 : ((c0.toNat : Int) == 48) = true := by rw [hb.1]; rfl
      have g2 : decide (1 < (n : Int)) = true := by have := hb.2; simp; omega
      have g2n : decide (1 < n) = true := by simpa using hb.2
      clear hb hsl
      go_wp2_with fail
      go_ret
      exact ⟨by rw [HE.out]; rfl, B0⟩
    have HR2 : Hid (r = lexFrac v) := show _ = _ by rw [HR.out, if_neg (by rintro (h | h); exact z h; exact hb h)]
    have hg := nought_cases hb
    clear hb HR
    rcases hg with g1 | ⟨g1, g2, g2n⟩
    all_goals (
      go_upto_region 8 with fail
      clear hsl x0 q1 q1n q2
      cases v with
      | nil =>
        have HE : Hid (r = 1) := HR2
        go_wp2_with fail
        go_ret
        exact ⟨by rw [HE.out]; rfl, B0⟩
      | cons c1 t =>
        have htl : t.length ≤ 1000000000 := by have := HDR.out; simp at this; omega
        by_cases hd : c1 = 46
        · have HR3 : Hid (r = if run t = 0 then 0 else lexExp 2 (t.drop (run t))) := show _ = _ by rw [HR2.out]; simp only [lexFrac]; rw [if_pos hd]
          have g4 : ((c1.toNat : Int) == 46) = true := by rw [hd]; rfl
          have cR2 := Lib.hid (fun w => run_any t htl w)
          have hrl2 := run_le t
          have hsl2 := fun w => dot_slice c1 t (run t) hrl2 w
          have hdr2 : (t.drop (run t)).length ≤ 1000000000 := by rw [List.length_drop]; omega
          clear HR2 hd HDR
          have hp2 := head_facts c1 t
          obtain ⟨v2, hv2⟩ : ∃ v2, v2 = c1 :: t := ⟨_, rfl⟩
          rw [← hv2] at hp2 hsl2 ⊢
          obtain ⟨p2a, p2b, p2c, p2d, p2e, p2f⟩ := hp2
          clear hv2
          generalize hn2 : run t = n2 at cR2 hrl2 HR3 hsl2 hdr2
          have w1 : IntKind.i64.wrap (1 + (n2 : Int)) = 1 + (n2 : Int) := by rw [IntKind.wrap_i64]; omega
          clear hn2 hrl2
          go_wp2_with (go_at_call 32; with_reducible refine (cR2.out _).mono ?_; rintro e w3 ⟨rfl, hw⟩; subst hw; refine Hid.out ?_)
          refine Lib.hid ?_
          by_cases z2 : n2 = 0
          · subst z2
            have HE : Hid (r = 0) := show _ = _ by rw [HR3.out]; rfl
            go_wp2_with fail
            go_ret
            exact ⟨by rw [HE.out]; rfl, B0⟩
          · have e2 : ((n2 : Int) == 0) = false := beq_eq_false_iff_ne.2 (by omega)
            have z2' : ¬ ((n2 : Int) = 0) := by omega
            have HR4 : Hid (r = lexExp 2 (t.drop n2)) := show _ = _ by rw [HR3.out, if_neg z2]
            clear HR3 cR2
            generalize t.drop n2 = v4 at hsl2 HR4 hdr2
            go_upto_region 12 with fail
            go_quiet (fail)
            have B4 := drawn_below B0 nq
            generalize w3.drewN nq = w4 at B4 ⊢
            clear hsl2 p2c p2d
            go_upto_region 13 with fail
            cases v4 with
            | nil =>
              have HE : Hid (r = 2) := show _ = _ by rw [HR4.out]; rfl
              go_wp2_with fail
              go_ret
              exact ⟨by rw [HE.out]; rfl, B4⟩
            | cons c3 x =>
              have hxl : x.length ≤ 1000000000 := by simp at hdr2; omega
              have hp3 := head_facts c3 x
              obtain ⟨v3, hv3⟩ : ∃ v3, v3 = c3 :: x := ⟨_, rfl⟩
              rw [← hv3] at hp3 ⊢
              obtain ⟨p3a, p3b, p3c, p3d, p3e, p3f⟩ := hp3
              clear hv3
              by_cases he : isE c3 = true
              · have HX : Hid (r = if run (unsign x) = 0 then 0 else lexEnd 2 ((unsign x).drop (run (unsign x)))) := show _ = _ by rw [HR4.out]; simp only [lexExp]; rw [if_pos he]
                have hc3 := isE_cases he
                clear HR4 he
                have B8 := B4
                by_cases hx0 : x = []
                · subst hx0
                  have HE : Hid (r = 0) := HX
                  have C0 : Hid (∀ w, Calls Tryz.prog 32 #[.string ⟨#[]⟩] w fun x w' => x = .returned (.int .i64 0) ∧ w' = w) := fun w => run_any [] (by decide) w
                  clear HX
                  rcases hc3 with g3 | ⟨g3, g3'⟩
                  all_goals (
                    go_wp2_with (go_at_call 32; with_reducible refine (C0.out _).mono ?_; rintro e w8 ⟨rfl, hw⟩; subst hw; refine Hid.out ?_)
                    refine Lib.hid ?_
                    go_wp2_with fail
                    go_ret
                    exact ⟨by rw [HE.out]; rfl, B8⟩)
                · obtain ⟨s1, s1n, cq, s2, s3⟩ := sign_cases x hx0
                  have cR3 := Lib.hid (fun w => run_any (unsign x) (by have := unsign_le x; omega) w)
                  have hrl3 := run_le (unsign x)
                  have hs3 := fun w => slice_from (unsign x) (run (unsign x)) _ rfl hrl3 w
                  generalize unsign x = y at s3 cR3 hrl3 hs3 HX
                  generalize run y = n3 at cR3 hrl3 hs3 HX
                  clear hrl3 hx0
                  rcases hc3 with g3 | ⟨g3, g3'⟩
                  all_goals (
                    rcases s3 with ⟨hy, s4, s5⟩ | ⟨s4, s5 | ⟨s5, s6⟩⟩
                    all_goals (
                      try subst hy
                      go_wp2_with (go_at_call 32; with_reducible refine (cR3.out _).mono ?_; rintro e w8 ⟨rfl, hw⟩; subst hw; refine Hid.out ?_)
                      refine Lib.hid ?_
                      by_cases z3 : n3 = 0
                      · subst z3
                        have HE : Hid (r = 0) := show _ = _ by rw [HX.out]; rfl
                        go_wp2_with fail
                        go_ret
                        exact ⟨by rw [HE.out]; rfl, B8⟩
                      · have HX2 : Hid (r = lexEnd 2 (y.drop n3)) := show _ = _ by rw [HX.out, if_neg z3]
                        have e3 : ((n3 : Int) == 0) = false := beq_eq_false_iff_ne.2 (by omega)
                        have z3' : ¬ ((n3 : Int) = 0) := by omega
                        clear HX cR3
                        generalize y.drop n3 = zz at hs3 HX2
                        go_wp2_with fail
                        go_quiet (fail)
                        have B9 := drawn_below B8 nq
                        generalize w8.drewN nq = w9 at B9 ⊢
                        clear hs3
                        cases zz with
                        | nil =>
                          have HE : Hid (r = 2) := HX2
                          go_wp2_with fail
                          go_ret
                          exact ⟨by rw [HE.out]; rfl, B9⟩
                        | cons c4 t4 =>
                          have HE : Hid (r = 0) := HX2
                          go_wp2_with fail
                          go_ret
                          exact ⟨by rw [HE.out]; rfl, B9⟩))
              · have he' : isE c3 = false := by simpa using he
                have HE : Hid (r = 0) := show _ = _ by rw [HR4.out]; simp [lexExp, he']
                obtain ⟨g3, g3'⟩ := isE_not he'
                clear HR4 he he'
                go_wp2_with fail
                go_ret
                exact ⟨by rw [HE.out]; rfl, B4⟩
        · have g4 : ((c1.toNat : Int) == 46) = false := beq_eq_false_iff_ne.2 (by have := byte_ne hd; have e : (46 : UInt8).toNat = 46 := rfl; omega)
          have HR4 : Hid (r = lexExp 1 (c1 :: t)) := show _ = _ by rw [HR2.out]; simp only [lexFrac]; rw [if_neg hd]
          clear HR2 hd
          have hxl := htl
          have hp2 := head_facts c1 t
          obtain ⟨v2, hv2⟩ : ∃ v2, v2 = c1 :: t := ⟨_, rfl⟩
          rw [← hv2] at hp2 ⊢
          obtain ⟨p2a, p2b, p2c, p2d, p2e, p2f⟩ := hp2
          clear hv2
          go_upto_region 13 with fail
          by_cases he : isE c1 = true
          · have HX : Hid (r = if run (unsign t) = 0 then 0 else lexEnd 2 ((unsign t).drop (run (unsign t)))) := show _ = _ by rw [HR4.out]; simp only [lexExp]; rw [if_pos he]
            have hc3 := isE_cases he
            clear HR4 he
            have B8 := B0
            by_cases hx0 : t = []
            · subst hx0
              have HE : Hid (r = 0) := HX
              have C0 : Hid (∀ w, Calls Tryz.prog 32 #[.string ⟨#[]⟩] w fun x w' => x = .returned (.int .i64 0) ∧ w' = w) := fun w => run_any [] (by decide) w
              clear HX
              rcases hc3 with g3 | ⟨g3, g3'⟩
              all_goals (
                go_wp2_with (go_at_call 32; with_reducible refine (C0.out _).mono ?_; rintro e w8 ⟨rfl, hw⟩; subst hw; refine Hid.out ?_)
                refine Lib.hid ?_
                go_wp2_with fail
                go_ret
                exact ⟨by rw [HE.out]; rfl, B8⟩)
            · obtain ⟨s1, s1n, cq, s2, s3⟩ := sign_cases t hx0
              have cR3 := Lib.hid (fun w => run_any (unsign t) (by have := unsign_le t; omega) w)
              have hrl3 := run_le (unsign t)
              have hs3 := fun w => slice_from (unsign t) (run (unsign t)) _ rfl hrl3 w
              generalize unsign t = y at s3 cR3 hrl3 hs3 HX
              generalize run y = n3 at cR3 hrl3 hs3 HX
              clear hrl3 hx0
              rcases hc3 with g3 | ⟨g3, g3'⟩
              all_goals (
                rcases s3 with ⟨hy, s4, s5⟩ | ⟨s4, s5 | ⟨s5, s6⟩⟩
                all_goals (
                  try subst hy
                  go_wp2_with (go_at_call 32; with_reducible refine (cR3.out _).mono ?_; rintro e w8 ⟨rfl, hw⟩; subst hw; refine Hid.out ?_)
                  refine Lib.hid ?_
                  by_cases z3 : n3 = 0
                  · subst z3
                    have HE : Hid (r = 0) := show _ = _ by rw [HX.out]; rfl
                    go_wp2_with fail
                    go_ret
                    exact ⟨by rw [HE.out]; rfl, B8⟩
                  · have HX2 : Hid (r = lexEnd 2 (y.drop n3)) := show _ = _ by rw [HX.out, if_neg z3]
                    have e3 : ((n3 : Int) == 0) = false := beq_eq_false_iff_ne.2 (by omega)
                    have z3' : ¬ ((n3 : Int) = 0) := by omega
                    clear HX cR3
                    generalize y.drop n3 = zz at hs3 HX2
                    go_wp2_with fail
                    go_quiet (fail)
                    have B9 := drawn_below B8 nq
                    generalize w8.drewN nq = w9 at B9 ⊢
                    clear hs3
                    cases zz with
                    | nil =>
                      have HE : Hid (r = 2) := HX2
                      go_wp2_with fail
                      go_ret
                      exact ⟨by rw [HE.out]; rfl, B9⟩
                    | cons c4 t4 =>
                      have HE : Hid (r = 0) := HX2
                      go_wp2_with fail
                      go_ret
                      exact ⟨by rw [HE.out]; rfl, B9⟩))
          · have he' : isE c1 = false := by simpa using he
            have HE : Hid (r = 0) := show _ = _ by rw [HR4.out]; simp [lexExp, he']
            obtain ⟨g3, g3'⟩ := isE_not he'
            clear HR4 he he'
            go_wp2_with fail
            go_ret
            exact ⟨by rw [HE.out]; rfl, B0⟩))
end Go.Proofs.YtojpfmlmalmlcaaGreatDoor
