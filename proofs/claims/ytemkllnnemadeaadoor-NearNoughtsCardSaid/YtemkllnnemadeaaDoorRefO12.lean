/-
  The document's Join: the pattern of a number, if there is one, by halving and doubling. No condition but the arguments' own bounds.
-/
import Derived.Test.YtemkllnnemadeaaDoorDblMath
import Derived.Test.YtemkllnnemadeaaDoorRefS12
import Derived.Test.YtemkllnnemadeaaDoorBase
namespace Go.Proofs.YtemkllnnemadeaaDoor
open Go.RowKit

/-- The pattern of an answer; 0 where there is none. -/
def jPat (s : Bool) : Option Nat → Nat
  | some r => pat s r
  | none => 0

set_option maxHeartbeats 400000 in
theorem refJoin_nil (s : Bool) (e : Int) (w : World) :
    Calls Tryd.prog 26 #[.bool s, .int .u64 0, .int .i64 e] w fun r w' => r = .returned (.tuple #[.int .u64 ((pat s 0 : Nat) : Int), .bool true]) ∧ w' = w := by
  cases s
  · go_enter Tryd.func26, Tryd.ntmps26
    go_wp2_with fail
    go_ret2
    exact ⟨rfl, rfl⟩
  · go_enter Tryd.func26, Tryd.ntmps26
    go_wp2_with fail
    go_ret2
    exact ⟨rfl, rfl⟩

set_option maxHeartbeats 400000 in
theorem refJoin_away (s : Bool) (m e : Int) (w : World) (m0 : (m == 0) = false) (d : decide (e < -1138) = true ∨ (decide (e < -1138) = false ∧ decide (1023 < e) = true)) :
    Calls Tryd.prog 26 #[.bool s, .int .u64 m, .int .i64 e] w fun r w' => r = .returned (.tuple #[.int .u64 0, .bool false]) ∧ w' = w := by
  rcases d with d | ⟨d, d2⟩ <;> cases s
  all_goals
    go_enter Tryd.func26, Tryd.ntmps26
    go_wp2_with fail
    go_ret2
    exact ⟨rfl, rfl⟩

/-- Halving, as the walk spells it. -/
theorem halves (u : Nat) (hu : 2 * u < 18446744073709551616) : ((2 * u : Nat) : Int).tmod 2 = 0 ∧ ((2 * u : Nat) : Int) % 2 = 0 ∧ ((2 * u : Nat) : Int).tdiv 2 = (u : Int) ∧ ((2 * u : Nat) : Int) / 2 = (u : Int) ∧ IntKind.u64.wrap (u : Int) = (u : Int) := by
  refine ⟨by rw [Int.tmod_eq_emod_of_nonneg (by omega)]; omega, by omega, by rw [Int.tdiv_eq_ediv_of_nonneg (by omega)]; omega, by omega, by rw [IntKind.wrap_u64]; omega⟩
theorem odds (v : Nat) (h : v % 2 = 1) : (v : Int).tmod 2 = 1 ∧ (v : Int) % 2 = 1 := ⟨by rw [Int.tmod_eq_emod_of_nonneg (by omega)]; omega, by omega⟩

/-- The sign as the document lays it. -/
def topS (s : Bool) : Int := if s then 9223372036854775808 else 0

theorem no_facts {m o t l : Nat} {e : Int} (ho : OddOf m o t l) (h : e < uOf l e) : 9007199254740992 ≤ o ∨ (o < 9007199254740992 ∧ e < -1074) := by
  rcases Nat.lt_or_ge o 9007199254740992 with h1 | h1
  · right
    refine ⟨h1, ?_⟩
    have hl : l ≤ 53 := by
      apply Nat.le_of_not_lt
      intro hlt
      have a1 : 2 ^ 53 ≤ 2 ^ (l - 1) := Nat.pow_le_pow_right (by decide) (by omega)
      have := ho.lo
      omega
    unfold uOf at h
    split at h <;> omega
  · exact .inl h1
theorem yes_facts {m o t l : Nat} {e : Int} (ho : OddOf m o t l) (h : ¬ e < uOf l e) : o < 9007199254740992 ∧ -1074 ≤ e ∧ -1074 ≤ uOf l e ∧
    ∃ J : Nat, (J : Int) = e - uOf l e ∧ (∀ j, j < J → o * 2 ^ j < 4503599627370496) ∧ 0 < o * 2 ^ J ∧ o * 2 ^ J < 9007199254740992 ∧ (4503599627370496 ≤ o * 2 ^ J ∨ (o * 2 ^ J < 4503599627370496 ∧ uOf l e = -1074)) := by
  have hu : -1074 ≤ uOf l e := by unfold uOf; split <;> omega
  obtain ⟨J, hJ⟩ : ∃ J : Nat, (J : Int) = e - uOf l e := ⟨(e - uOf l e).toNat, by omega⟩
  have hlj : l + J ≤ 53 := by unfold uOf at hJ; split at hJ <;> omega
  have hi := ho.hi
  have lo := ho.lo
  have hpos := ho.pos
  have h0 : 0 < o := Nat.lt_of_lt_of_le (Nat.two_pow_pos _) lo
  have up : ∀ j, o * 2 ^ j < 2 ^ (l + j) := fun j => by
    rw [Nat.pow_add]
    exact Nat.mul_lt_mul_of_pos_right hi (Nat.two_pow_pos j)
  refine ⟨?_, by omega, hu, J, hJ, ?_, Nat.mul_pos h0 (Nat.two_pow_pos J), ?_, ?_⟩
  · have a2 : 2 ^ l ≤ 2 ^ 53 := Nat.pow_le_pow_right (by decide) (by omega)
    omega
  · intro j hj
    have a1 := up j
    have a2 : 2 ^ (l + j) ≤ 2 ^ 52 := Nat.pow_le_pow_right (by decide) (by omega)
    omega
  · have a1 := up J
    have a2 : 2 ^ (l + J) ≤ 2 ^ 53 := Nat.pow_le_pow_right (by decide) hlj
    omega
  · by_cases c : e + (l : Int) - 53 < -1074
    · rcases Nat.lt_or_ge (o * 2 ^ J) 4503599627370496 with h1 | h1
      · exact .inr ⟨h1, by unfold uOf; rw [if_pos c]⟩
      · exact .inl h1
    · left
      have hue : uOf l e = e + (l : Int) - 53 := by unfold uOf; rw [if_neg c]
      have h53 : l - 1 + J = 52 := by omega
      have a1 : 2 ^ (l - 1) * 2 ^ J ≤ o * 2 ^ J := Nat.mul_le_mul_right _ lo
      rw [← Nat.pow_add, h53] at a1
      omega

/-- The document's sum makes the same pattern. -/
theorem ref_low {s : Bool} {M : Nat} {P : Int} {u : Int} (hM : M < 9007199254740992) (hu : u = -1074) (hP : P = ((pat s (M + (u + 1074).toNat * 4503599627370496) : Nat) : Int)) : IntKind.u64.wrap (topS s + (M : Int)) = P := by
  subst hu
  rw [hP, IntKind.wrap_u64]
  cases s <;> simp [topS, pat] <;> omega
theorem ref_high {s : Bool} {M : Nat} {P u x y z q : Int} (hM : M < 9007199254740992) (hM1 : 4503599627370496 ≤ M) (hu : -1074 ≤ u ∧ u ≤ 971) (hP : P = ((pat s (M + (u + 1074).toNat * 4503599627370496) : Nat) : Int))
    (hq : q = (u + 1075) * 4503599627370496) (hx : x = IntKind.u64.wrap q) (hy : y = IntKind.u64.wrap (topS s + x)) (hz : z = IntKind.u64.wrap (y + (M : Int))) : IntKind.u64.wrap (z - 4503599627370496) = P := by
  obtain ⟨n, hn⟩ : ∃ n : Nat, (n : Int) = u + 1074 := ⟨(u + 1074).toNat, by omega⟩
  rw [show (u + 1074).toNat = n by omega] at hP
  rw [IntKind.wrap_u64] at *
  have hn2 : n ≤ 2045 := by omega
  have hq2 : q = ((n : Int) + 1) * 4503599627370496 := by rw [hq]; congr 1; omega
  have hP2 : P = topS s + (M : Int) + (n : Int) * 4503599627370496 := by
    rw [hP]
    cases s <;> simp [topS, pat] <;> omega
  have hs : topS s = 0 ∨ topS s = 9223372036854775808 := by cases s <;> simp [topS]
  generalize topS s = g at *
  clear hP hq hu hn
  have hx2 : x = q := by omega
  rcases hs with rfl | rfl <;> omega

set_option maxHeartbeats 2000000 in
theorem refJoin_main (s : Bool) (m o t l : Nat) (e e2 : Int) (w : World) (m0 : ((m : Int) == 0) = false) (d1 : decide (e < -1138) = false) (d2 : decide (1023 < e) = false) (hm : Hid (m < 18446744073709551616)) (hb : Hid (-1138 ≤ e ∧ e ≤ 1023))
    (ho : Hid (OddOf m o t l)) (he2 : Hid (e2 = e + (t : Int))) (sg : Int) (hsg : Hid (sg = topS s)) :
    Calls Tryd.prog 26 #[.bool s, .int .u64 (m : Int), .int .i64 e] w fun r w' => r = .returned (.tuple #[.int .u64 ((jPat s (joinO o l e2) : Nat) : Int), .bool (joinO o l e2).isSome]) ∧ w' = w := by
  obtain ⟨P, hP⟩ : ∃ P : Int, P = ((jPat s (joinO o l e2) : Nat) : Int) := ⟨_, rfl⟩
  obtain ⟨B, hB⟩ : ∃ B : Bool, B = (joinO o l e2).isSome := ⟨_, rfl⟩
  rw [← hP, ← hB]
  replace hP := Lib.hid hP
  replace hB := Lib.hid hB
  have hs : (s = true ∧ sg = 9223372036854775808) ∨ (s = false ∧ sg = 0) := by
    have := hsg.out
    cases s
    · exact .inr ⟨rfl, this⟩
    · exact .inl ⟨rfl, this⟩
  clear hsg
  obtain ⟨S, hS⟩ : ∃ S, Hid (S = s) := ⟨_, Lib.hid rfl⟩
  go_enter Tryd.func26, Tryd.ntmps26
  rcases hs with ⟨hs1, hs2⟩ | ⟨hs1, hs2⟩
  all_goals
    subst hs1
    subst hs2
    go_wp2_with fail
    go_loopw [1, 2] (fun mm ee wr => wr = w ∧ ∃ (i v : Nat) (E : Int), i ≤ t ∧ v = o * 2 ^ i ∧ mm = .int .u64 (v : Int) ∧ ee = .int .i64 E ∧ E = e2 - (i : Int)) (fun mm _ _ => (intOf mm).toNat)
    case atStart => exact ⟨rfl, t, m, e, Nat.le_refl _, ho.out.eq, rfl, rfl, by have := he2.out; omega⟩
    case round =>
      obtain ⟨hwr, i, v, E, hi, hv, rfl, rfl, hE⟩ := hrel
      subst hwr
      have hvm : v ≤ m := by rw [hv, ho.out.eq]; exact Nat.mul_le_mul_left o (Nat.pow_le_pow_right (by decide) hi)
      have ht : t ≤ 64 := by have := ho.out.fit; omega
      rcases Nat.eq_zero_or_pos i with h0 | h0
      · subst h0
        obtain rfl : v = o := by simpa using hv
        obtain rfl : E = e2 := by omega
        obtain ⟨z1, z2⟩ := odds v ho.out.odd
        clear hv hE hi
        by_cases c : E < uOf l E
        · have hj : joinO v l E = none := by unfold joinO; rw [if_pos c]
          have hP2 : P = 0 := by rw [hP.out, hj]; rfl
          have hB2 : B = false := by rw [hB.out, hj]; rfl
          subst hP2
          subst hB2
          rcases no_facts ho.out c with c1 | ⟨c1, c2⟩
          · have t1 : decide ((9007199254740992 : Int) ≤ (v : Int)) = true := by simp; omega
            clear c1 c hvm
            go_wp2_with fail
            go_ret2
            exact ⟨rfl, rfl⟩
          · have t1 : decide ((9007199254740992 : Int) ≤ (v : Int)) = false := by simp; omega
            have t2 : decide (E < -1074) = true := by simp; omega
            clear c1 c2 c hvm
            go_wp2_with fail
            go_ret2
            exact ⟨rfl, rfl⟩
        · obtain ⟨c1, c2, c3, J, hJ, HJ, HM0, HM, HH⟩ := yes_facts ho.out c
          have hj : joinO v l E = if 971 < uOf l E then none else some (v * 2 ^ J + (uOf l E + 1074).toNat * 4503599627370496) := by
            unfold joinO; rw [if_neg c, show (E - uOf l E).toNat = J by omega]
          have hP2 := hP.out
          have hB2 := hB.out
          rw [hj] at hP2 hB2
          obtain ⟨u, hu⟩ : ∃ u, u = uOf l E := ⟨_, rfl⟩
          rw [← hu] at hP2 hB2 HH hJ c3
          replace hP2 := Lib.hid hP2
          replace hB2 := Lib.hid hB2
          replace HH := Lib.hid HH
          replace HJ := Lib.hid HJ
          replace HM0 := Lib.hid HM0
          replace HM := Lib.hid HM
          have hJb : J ≤ 2200 := by have := hb.out; have := he2.out; omega
          have hub : -1074 ≤ u ∧ u ≤ 1100 := by have := hb.out; have := he2.out; omega
          replace hJ := Lib.hid hJ
          replace hJb := Lib.hid hJb
          replace hub := Lib.hid hub
          have t1 : decide ((9007199254740992 : Int) ≤ (v : Int)) = false := by simp; omega
          have t2 : decide (E < -1074) = false := by simp; omega
          have hEb : -1074 ≤ E := c2
          replace hEb := Lib.hid hEb
          clear c1 c2 c3 c hu hj hvm hP hB
          go_wp2_with fail
          obtain ⟨W0, HW⟩ : ∃ W0, W0 = wr := ⟨_, rfl⟩
          go_loopw [1, 2] (fun mm ee wx => wx = W0 ∧ ∃ (j M : Nat) (F : Int), j ≤ J ∧ M = v * 2 ^ j ∧ mm = .int .u64 (M : Int) ∧ ee = .int .i64 F ∧ F = E - (j : Int)) (fun _ ee _ => (intOf ee + 1100).toNat)
          case atStart => exact ⟨HW.symm, 0, v, E, by omega, by simp, rfl, rfl, by omega⟩
          case round =>
            obtain ⟨hwr, j, M, F, hj, hM, rfl, rfl, hF⟩ := hrel
            have HWR : Hid (wr = _) := hwr.trans HW
            have HW0 := Lib.hid hwr
            clear hwr HW
            rcases Nat.lt_or_ge j J with h0 | h0
            · have b1 := HJ.out j h0
              rw [← hM] at b1
              have hFb : -1074 < F ∧ F ≤ 1100 := by have := hJ.out; have := hub.out; have := hb.out; have := he2.out; omega
              have t3 : decide ((M : Int) < 4503599627370496) = true := by simp; omega
              have t4 : decide (-1074 < F) = true := by simp; omega
              have hM2 : Hid (M * 2 = v * 2 ^ (j + 1)) := show _ = _ by rw [hM, Nat.pow_succ]; grind
              obtain ⟨F2, hF2⟩ : ∃ F2, F2 = F - 1 := ⟨_, rfl⟩
              have y1 : IntKind.u64.wrap ((M : Int) * 2) = ((M * 2 : Nat) : Int) := by rw [IntKind.wrap_u64]; omega
              have y2 : wrap64 (F - 1) = F2 := by rw [hF2]; exact in64 (by omega)
              generalize hN : M * 2 = N at *
              replace hF2 := Lib.hid hF2
              replace hF := Lib.hid hF
              replace hFb := Lib.hid hFb
              replace h0 := Lib.hid h0
              clear b1 hM hj hN
              go_wp2_with fail
              go_roundw
              case rel => exact ⟨HW0.out, j + 1, N, F2, by have := h0.out; omega, hM2.out, rfl, by rw [y2], by have := hF2.out; have := hF.out; omega⟩
              case measure => have := hF2.out; have := hFb.out; simp [intOf, y2]; omega
            · obtain rfl : j = J := by omega
              have hFu : F = u := by have := hJ.out; omega
              rw [← hM] at hP2 hB2 HH HM HM0
              have hub2 := hub.out
              subst hFu
              clear hF hj h0 HJ hJ hJb hM
              have hMl := HM.out
              by_cases c5 : 971 < F
              · have hP3 := hP2.out
                have hB3 := hB2.out
                rw [if_pos c5] at hP3 hB3
                obtain rfl : P = 0 := hP3
                obtain rfl : B = false := hB3
                have t3 : decide ((M : Int) < 4503599627370496) = false := by
                  rcases HH.out with h | ⟨_, h⟩
                  · simp; omega
                  · omega
                have t5 : decide (971 < F) = true := by simp; omega
                clear hub2 hMl c5 hub hP2 hB2
                go_wp2_with fail
                go_ret2
                exact ⟨rfl, HWR.out⟩
              · have hP3 := hP2.out
                have hB3 := hB2.out
                rw [if_neg c5] at hP3 hB3
                obtain rfl : B = true := hB3
                have t5 : decide (971 < F) = false := by simp; omega
                rcases HH.out with h | ⟨h1, h2⟩
                · have t3 : decide ((M : Int) < 4503599627370496) = false := by simp; omega
                  obtain ⟨q, hq⟩ : ∃ q : Int, q = (F + 1075) * 4503599627370496 := ⟨_, rfl⟩
                  obtain ⟨x, hx⟩ : ∃ x : Int, x = IntKind.u64.wrap q := ⟨_, rfl⟩
                  obtain ⟨y, hy⟩ : ∃ y : Int, y = IntKind.u64.wrap (topS S + x) := ⟨_, rfl⟩
                  rw [hS.out] at hy
                  obtain ⟨z, hz⟩ : ∃ z : Int, z = IntKind.u64.wrap (y + (M : Int)) := ⟨_, rfl⟩
                  have hend := ref_high hMl h (by omega) hP3 hq hx hy hz
                  simp only [topS, if_true, Bool.false_eq_true, if_false] at hy
                  obtain ⟨K, hK⟩ : ∃ K, K = F + 1075 := ⟨_, rfl⟩
                  have y0 : wrap64 (F + 1075) = K := by rw [hK]; exact in64 (by omega)
                  have y1 : IntKind.u64.wrap K = K := by rw [hK, IntKind.wrap_u64]; omega
                  rw [← hK] at hq
                  have y2 : IntKind.u64.wrap (K * 4503599627370496) = x := by rw [hx, hq]
                  have y3 := hy.symm
                  have y3' := y3
                  try rw [Int.zero_add] at y3'
                  have y4 := hz.symm
                  clear hq hx hy hz hK hub2 hMl c5 hub hP2 hB2 hP3 h HH HM HM0
                  go_wp2_with fail
                  go_ret2
                  exact ⟨rfl, HWR.out⟩
                · have t3 : decide ((M : Int) < 4503599627370496) = true := by simp; omega
                  have t4 : decide (-1074 < F) = false := by simp; omega
                  have y3 := ref_low hMl h2 hP3
                  simp only [topS, if_true, Bool.false_eq_true, if_false] at y3
                  have y3' := y3
                  try rw [Int.zero_add] at y3'
                  clear hub2 hMl c5 hub hP2 hB2 hP3 h1 h2 HH HM HM0
                  go_wp2_with fail
                  go_ret2
                  exact ⟨rfl, HWR.out⟩
      · obtain ⟨k, rfl⟩ : ∃ k, i = k + 1 := ⟨i - 1, by omega⟩
        obtain ⟨y, hy⟩ : ∃ y, y = o * 2 ^ k := ⟨_, rfl⟩
        have hvy : v = 2 * y := by rw [hv, Nat.pow_succ, hy]; grind
        subst hvy
        have hml := hm.out
        have hy0 : 0 < y := by
          rw [hy]
          exact Nat.mul_pos (by have := ho.out.odd; omega) (Nat.two_pow_pos k)
        obtain ⟨z1, z2, z3, z4, z5⟩ := halves y (by omega)
        obtain ⟨E2, hE2⟩ : ∃ E2, E2 = E + 1 := ⟨_, rfl⟩
        have z6 : wrap64 (E + 1) = E2 := by rw [hE2]; have := hb.out; have := he2.out; exact in64 (by omega)
        replace hE := Lib.hid hE
        replace hE2 := Lib.hid hE2
        replace hi := Lib.hid hi
        replace hy := Lib.hid hy
        replace hy0 := Lib.hid hy0
        clear hv hvm hml h0 ht
        generalize hx : 2 * y = x at *
        replace hx := Lib.hid hx
        go_wp2_with fail
        go_roundw
        case rel => exact ⟨trivial, k, y, E2, by have := hi.out; omega, hy.out, rfl, by rw [z6], by have := hE2.out; have := hE.out; omega⟩
        case measure => have := hx.out; have := hy0.out; simp [intOf]; omega

/-- The document's Join. -/
theorem refJoin_any (s : Bool) (m : Nat) (e : Int) (hm : m < 18446744073709551616) (w : World) :
    Calls Tryd.prog 26 #[.bool s, .int .u64 (m : Int), .int .i64 e] w fun r w' => r = .returned (.tuple #[.int .u64 ((jPat s (joinP m e) : Nat) : Int), .bool (joinP m e).isSome]) ∧ w' = w := by
  by_cases m0 : m = 0
  · subst m0
    exact refJoin_nil s e w
  have m1 : ((m : Int) == 0) = false := by simp only [beq_eq_false_iff_ne]; omega
  by_cases c : e < -1138 ∨ 1023 < e
  · rw [join_far (by omega) hm (by omega)]
    refine refJoin_away s (m : Int) e w m1 ?_
    by_cases d : e < -1138
    · exact .inl (by simpa using d)
    · exact .inr ⟨by simpa using d, by have : 1023 < e := by omega
                                       simpa using this⟩
  have ej : joinP m e = joinO (oOf m) (lOf m) (e + (tOf m : Int)) := by unfold joinP; rw [if_neg m0]
  rw [ej]
  exact refJoin_main s m _ (tOf m) _ e _ w m1 (by simp; omega) (by simp; omega) (Lib.hid hm) (show _ ∧ _ by omega) (Lib.hid (odd_of (by omega) hm)) (Lib.hid rfl) _ (Lib.hid rfl)

set_option maxHeartbeats 400000 in
theorem ofInt_low (v x y V : Int) (p : Nat) (b : Bool) (w : World) (h0 : decide (v < 0) = true) (h1 : wrap64 (v + 1) = x) (h2 : wrap64 (-x) = y) (h3 : IntKind.u64.wrap y = y) (h4 : IntKind.u64.wrap (y + 1) = V)
    (cJ : Hid (∀ w, Calls Tryd.prog 26 #[.bool true, .int .u64 V, .int .i64 0] w fun r w' => r = .returned (.tuple #[.int .u64 (p : Int), .bool b]) ∧ w' = w)) :
    Calls Tryd.prog 13 #[.int .i64 v] w fun r w' => r = .returned (.tuple #[.int .u64 (p : Int), .bool b]) ∧ w' = w := by
  go_enter Tryd.func13, Tryd.ntmps13
  go_wp2_with fail
  refine (cJ.out _).mono ?_
  rintro r w1 ⟨rfl, hw⟩; subst w1
  go_wp2_with fail
  go_ret2
  exact ⟨rfl, rfl⟩
set_option maxHeartbeats 400000 in
theorem ofInt_high (v V : Int) (p : Nat) (b : Bool) (w : World) (h0 : decide (v < 0) = false) (h1 : IntKind.u64.wrap v = V)
    (cJ : Hid (∀ w, Calls Tryd.prog 26 #[.bool false, .int .u64 V, .int .i64 0] w fun r w' => r = .returned (.tuple #[.int .u64 (p : Int), .bool b]) ∧ w' = w)) :
    Calls Tryd.prog 13 #[.int .i64 v] w fun r w' => r = .returned (.tuple #[.int .u64 (p : Int), .bool b]) ∧ w' = w := by
  go_enter Tryd.func13, Tryd.ntmps13
  go_wp2_with fail
  refine (cJ.out _).mono ?_
  rintro r w1 ⟨rfl, hw⟩; subst w1
  go_wp2_with fail
  go_ret2
  exact ⟨rfl, rfl⟩

/-- The document's OfInt. -/
theorem ofInt_any (v : Int) (hv : -9223372036854775808 ≤ v ∧ v ≤ 9223372036854775807) (w : World) :
    Calls Tryd.prog 13 #[.int .i64 v] w fun r w' => r = .returned (.tuple #[.int .u64 ((jPat (decide (v < 0)) (joinP v.natAbs 0) : Nat) : Int), .bool (joinP v.natAbs 0).isSome]) ∧ w' = w := by
  by_cases c : v < 0
  · rw [show decide (v < 0) = true from decide_eq_true c]
    exact ofInt_low v (v + 1) (-(v + 1)) (v.natAbs : Int) _ _ w (decide_eq_true c) (in64 (by omega)) (in64 (by omega)) (by rw [IntKind.wrap_u64]; omega) (by rw [IntKind.wrap_u64]; omega)
      (Lib.hid fun w => refJoin_any true v.natAbs 0 (by omega) w)
  · rw [show decide (v < 0) = false from decide_eq_false c]
    exact ofInt_high v (v.natAbs : Int) _ _ w (decide_eq_false c) (by rw [IntKind.wrap_u64]; omega)
      (Lib.hid fun w => refJoin_any false v.natAbs 0 (by omega) w)

end Go.Proofs.YtemkllnnemadeaaDoor
