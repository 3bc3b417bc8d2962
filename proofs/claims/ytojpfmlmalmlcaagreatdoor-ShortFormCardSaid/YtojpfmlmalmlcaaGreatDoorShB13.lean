/-
  What short's tensBelow, quotient and times do. No condition beyond what each contract says.
  What the methods of short's reach and fewest do. No condition beyond what each contract says.
-/
import Derived.Test.YtojpfmlmalmlcaaGreatDoorNearC12
import Derived.Test.YtojpfmlmalmlcaaGreatDoorShortPure
import Derived.Test.YtojpfmlmalmlcaaGreatDoorOfStr
import Derived.Test.YtojpfmlmalmlcaaGreatDoorNMem
import Derived.Laws.ResultCell
import Derived.Deep.DeepCutAuto
import Derived.BigQuiet
namespace Go.Proofs.YtojpfmlmalmlcaaGreatDoor.G
open Go.RowKit
theorem len2_one {O x y : Nat} (h : Len2 O x) (k : Len2 O y) : x = y := by
  rcases Nat.lt_trichotomy x y with c | c | c
  · exact absurd (h.less k c) (Nat.lt_irrefl _)
  · exact c
  · exact absurd (k.less h c) (Nat.lt_irrefl _)
theorem top_u64 {m : Nat} (h : m < 18446744073709551616) : m < top := Nat.lt_of_lt_of_le h (Nat.le_trans (show 18446744073709551616 ≤ 65536 ^ 4 by decide) (lim_le (k := 4) (by decide)))

set_option maxHeartbeats 1000000 in
theorem tens_any (m : Nat) (e : Int) (L H : Nat) (w : World) (h0 : m ≠ 0) (hm : m < 18446744073709551616) (hL : Len2 m L) (hH : (H : Int) = (L : Int) - 1 + e + 1074) (hb : H < 2098) (hLb : L ≤ 64) :
    Calls Tryz.prog 18 #[.int .u64 (m : Int), .int .i64 e] w fun x w' => x = .returned (.int .i64 ((TT H : Int) - 1074)) ∧ Below w.heap.size w w' := by
  have c1 := Lib.hid (of_any9 m hm w)
  have c2 := Lib.hid fun R k w h => bits_yes R (dg m).length k m w h (top_u64 hm) (dg_pos_len h0 rfl)
  have hl : bv (dg m) (dg m).length = L := len2_one (len2_bv rfl h0) hL
  rw [hl] at c2
  obtain ⟨h, hh⟩ : ∃ h : Int, h = (H : Int) - 1074 := ⟨_, rfl⟩
  obtain ⟨p, hp⟩ : ∃ p : Int, p = h * 78913 := ⟨_, rfl⟩
  have ht := tt_prog hh
  rw [← hp] at ht
  obtain ⟨q, hq⟩ : ∃ q : Int, q = (TT H : Int) - 1074 := ⟨_, rfl⟩
  rw [← hq] at ht ⊢
  obtain ⟨l, hl1⟩ : ∃ l : Int, l = (L : Int) - 1 := ⟨_, rfl⟩
  have w1 : wrap64 ((L : Int) - 1) = l := by unfold wrap64; omega
  have w2 : wrap64 (l + e) = h := by unfold wrap64; omega
  have w3 : wrap64 (h * 78913) = p := by unfold wrap64; omega
  have w4 : p / 2 ^ 18 = q := ht
  clear hl hh hp hq hl1 hH hb hLb hL h0 hm
  go_enter Tryz.func18, Tryz.ntmps18
  go_wp2_with fail
  refine c1.out.mono ?_
  rintro x w1 ⟨R, k, rfl, D, B⟩
  have HD := Lib.hid D; have HB := Lib.hid B
  clear D B c1
  go_wp2_with fail
  refine (c2.out _ _ _ HD.out).mono ?_
  rintro x w5 ⟨rfl, hw5⟩; subst w5
  clear HD c2
  go_wp2_with fail
  go_ret
  exact ⟨by first | rfl | (simp [ht, w4]; done), HB.out⟩

set_option maxHeartbeats 2000000 in
set_option maxRecDepth 100000 in
theorem quotient_any (x y : Int) (w : World) (hx : -2000 ≤ x ∧ x ≤ 1400) (hy : -700 ≤ y ∧ y ≤ 700) :
    Calls Tryz.prog 41 #[.int .i64 x, .int .i64 y] w fun e w' => ∃ R k S j, e = .returned (.tuple #[.slice R (dg (10 ^ y.toNat * 2 ^ x.toNat)).length k, .slice S (dg (10 ^ (-y).toNat * 2 ^ (-x).toNat)).length j]) ∧
      Digs w' R (dg (10 ^ y.toNat * 2 ^ x.toNat)).length (dg (10 ^ y.toNat * 2 ^ x.toNat)) ∧ Digs w' S (dg (10 ^ (-y).toNat * 2 ^ (-x).toNat)).length (dg (10 ^ (-y).toNat * 2 ^ (-x).toNat)) ∧ Below w.heap.size w w' := by
  obtain ⟨z, hz⟩ : ∃ z : Int, z = -y := ⟨_, rfl⟩
  have wz : wrap64 (-y) = z := by unfold wrap64; omega
  obtain ⟨v, hv⟩ : ∃ v : Int, v = -x := ⟨_, rfl⟩
  have wv : wrap64 (-x) = v := by unfold wrap64; omega
  have cO := Lib.hid fun w => of_any9 1 (by decide) w
  rw [show ((1 : Nat) : Int) = 1 from rfl] at cO
  obtain ⟨a, ha⟩ : ∃ a : Nat, a = x.toNat := ⟨_, rfl⟩
  obtain ⟨b, hb⟩ : ∃ b : Nat, b = (-x).toNat := ⟨_, rfl⟩
  obtain ⟨e, he⟩ : ∃ e : Nat, e = y.natAbs := ⟨_, rfl⟩
  have cE := Lib.hid fun w => power10 e (by omega) (e : Int) rfl w
  have tE : 10 ^ e < top := ten_top (by omega)
  have t1 : 1 < top := one_top
  rw [← ha, ← hb]
  have hX : (x < 0 ∧ 0 < v ∧ (a : Int) = 0 ∧ (b : Int) = v) ∨ (x = 0 ∧ v = 0 ∧ (a : Int) = 0 ∧ (b : Int) = 0) ∨ (0 < x ∧ v < 0 ∧ (a : Int) = x ∧ (b : Int) = 0) := by omega
  by_cases hn : y < 0
  · have d1 : decide (y < 0) = true := decide_eq_true hn
    rw [show y.toNat = 0 by omega, show (-y).toNat = e by omega, Nat.pow_zero]
    have cU := Lib.hid fun R k w h => up_yes R (dg 1).length k 1 a w h t1 (by omega)
    have cV := Lib.hid fun R k w h => up_yes R (dg (10 ^ e)).length k (10 ^ e) b w h tE (by omega)
    rw [show (e : Int) = z by omega] at cE
    have f1 : y < z := by omega
    generalize 10 ^ e = E at *
    generalize 1 * 2 ^ a = P at *
    generalize E * 2 ^ b = Q at *
    clear hz hv ha hb he tE t1 hx hy hn
    rcases hX with ⟨g1, g2, g3, g4⟩ | ⟨g1, g2, g3, g4⟩ | ⟨g1, g2, g3, g4⟩
    all_goals
      rw [g3] at cU
      rw [g4] at cV
      clear g3 g4
      try subst g1
      try subst g2
      go_enter Tryz.func41, Tryz.ntmps41
      go_wp2_with fail
      refine (cE.out _).mono ?_
      rintro r w1 ⟨R1, k1, rfl, D1, B1⟩
      have HD1 := Lib.hid D1; have HB1 := Lib.hid B1
      clear D1 B1 cE
      go_wp2_with fail
      refine (cO.out _).mono ?_
      rintro r w2 ⟨R2, k2, rfl, D2, B2⟩
      have HD2 := Lib.hid D2; have HB2 := Lib.hid (HB1.out.trans (B2.mono HB1.out.size)); have HD3 := Lib.hid (HD1.out.below B2)
      clear D2 B2 cO HB1 HD1
      go_wp2_with fail
      refine (cU.out _ _ _ HD2.out).mono ?_
      rintro r w3 ⟨R4, k4, rfl, D4, B4⟩
      have HD4 := Lib.hid D4; have HB4 := Lib.hid (HB2.out.trans (B4.mono HB2.out.size)); have HD6 := Lib.hid (HD3.out.below B4)
      clear D4 B4 cU HB2 HD2 HD3
      go_wp2_with fail
      refine (cV.out _ _ _ HD6.out).mono ?_
      rintro r w4 ⟨R5, k5, rfl, D5, B5⟩
      have HD5 := Lib.hid D5; have HB5 := Lib.hid (HB4.out.trans (B5.mono HB4.out.size)); have HD7 := Lib.hid (HD4.out.below B5)
      clear D5 B5 cV HB4 HD4
      go_wp2_with fail
      go_ret2
      exact ⟨_, _, _, _, rfl, HD7.out, HD5.out, HB5.out⟩
  · have d1 : decide (y < 0) = false := decide_eq_false hn
    rw [show y.toNat = e by omega, show (-y).toNat = 0 by omega, Nat.pow_zero]
    have cU := Lib.hid fun R k w h => up_yes R (dg (10 ^ e)).length k (10 ^ e) a w h tE (by omega)
    have cV := Lib.hid fun R k w h => up_yes R (dg 1).length k 1 b w h t1 (by omega)
    rw [show (e : Int) = y by omega] at cE
    have hyz : (y = 0 ∧ z = 0) ∨ z < y := by omega
    generalize 10 ^ e = E at *
    generalize 1 * 2 ^ b = P at *
    generalize E * 2 ^ a = Q at *
    clear hz hv ha hb he tE t1 hx hy hn
    rcases hyz with ⟨f1, f2⟩ | f1
    all_goals
      rcases hX with ⟨g1, g2, g3, g4⟩ | ⟨g1, g2, g3, g4⟩ | ⟨g1, g2, g3, g4⟩
    all_goals
      rw [g3] at cU
      rw [g4] at cV
      clear g3 g4
      try subst g1
      try subst g2
      try subst f1
      try subst f2
      go_enter Tryz.func41, Tryz.ntmps41
      go_wp2_with fail
      refine (cE.out _).mono ?_
      rintro r w1 ⟨R1, k1, rfl, D1, B1⟩
      have HD1 := Lib.hid D1; have HB1 := Lib.hid B1
      clear D1 B1 cE
      go_wp2_with fail
      refine (cO.out _).mono ?_
      rintro r w2 ⟨R2, k2, rfl, D2, B2⟩
      have HD2 := Lib.hid D2; have HB2 := Lib.hid (HB1.out.trans (B2.mono HB1.out.size)); have HD3 := Lib.hid (HD1.out.below B2)
      clear D2 B2 cO HB1 HD1
      go_wp2_with fail
      refine (cU.out _ _ _ HD3.out).mono ?_
      rintro r w3 ⟨R4, k4, rfl, D4, B4⟩
      have HD4 := Lib.hid D4; have HB4 := Lib.hid (HB2.out.trans (B4.mono HB2.out.size)); have HD6 := Lib.hid (HD2.out.below B4)
      clear D4 B4 cU HB2 HD2 HD3
      go_wp2_with fail
      refine (cV.out _ _ _ HD6.out).mono ?_
      rintro r w4 ⟨R5, k5, rfl, D5, B5⟩
      have HD5 := Lib.hid D5; have HB5 := Lib.hid (HB4.out.trans (B5.mono HB4.out.size)); have HD7 := Lib.hid (HD4.out.below B5)
      clear D5 B5 cV HB4 HD4
      go_wp2_with fail
      go_ret2
      exact ⟨_, _, _, _, rfl, HD7.out, HD5.out, HB5.out⟩

set_option maxHeartbeats 2000000 in
set_option maxRecDepth 100000 in
theorem shTimes_any (n : Nat) (A : Option Addr) (a c : Nat) (O : Nat) (B : Option Addr) (m d : Nat) (U : Nat) (w : World) (h1 : Digs w A a (dg O)) (h2 : Digs w B m (dg U)) (hn : n < 18446744073709551616) (hO : O < top) (hU : U < top) (hU0 : U ≠ 0) (hP : n * O < top) (hq : n * O / U < 18446744073709551616) :
    Calls Tryz.prog 42 #[.int .u64 (n : Int), .slice A a c, .slice B m d] w fun e w' => e = .returned (.tuple #[.int .u64 ((n * O / U : Nat) : Int), .bool (decide (n * O % U = 0))]) ∧ Below w.heap.size w w' := by
  have c1 := Lib.hid (of_any9 n hn w)
  have c2 := Lib.hid fun R k w h h' => mul_yes R (dg n).length k n A a c O w h h' (top_u64 hn) hO
  have c3 := Lib.hid fun R k w h h' => div_yes R (dg (n * O)).length k (n * O) B m d U w h h' hP hU hU0
  have t4 : (dg (n * O / U)).length ≤ 4 := (dg_len _ 4).2 (Nat.lt_of_lt_of_le hq (by decide))
  have c4 := Lib.hid fun R k w h => small_yes R (dg (n * O / U)).length k (n * O / U) w h (top_u64 hq) t4
  have H1 := Lib.hid h1; have H2 := Lib.hid h2
  have HZ : Hid (decide (n * O % U = 0) = (((dg (n * O % U)).length : Int) == 0)) := show _ = _ by
    by_cases h0 : n * O % U = 0
    · rw [h0, dg_zero]; rfl
    · rw [dg_pos h0]; simp only [List.length_cons, h0]
      simp; omega
  generalize n * O / U = q at *
  generalize n * O % U = r at *
  generalize n * O = P at *
  clear h1 h2 hn hO hU hU0 hP hq t4
  go_enter Tryz.func42, Tryz.ntmps42
  go_wp2_with fail
  refine c1.out.mono ?_
  rintro e w1 ⟨R1, k1, rfl, D1, B1⟩
  have HD1 := Lib.hid D1; have HB1 := Lib.hid B1; have H1b := Lib.hid (H1.out.below B1); have H2b := Lib.hid (H2.out.below B1)
  clear D1 B1 c1 H1 H2
  go_wp2_with fail
  refine (c2.out _ _ _ HD1.out H1b.out).mono ?_
  rintro e w2 ⟨R2, k2, rfl, D2, B2⟩
  have HD2 := Lib.hid D2; have HB2 := Lib.hid (HB1.out.trans (B2.mono HB1.out.size)); have H2c := Lib.hid (H2b.out.below B2)
  clear D2 B2 c2 HB1 HD1 H1b H2b
  go_wp2_with fail
  refine (c3.out _ _ _ HD2.out H2c.out).mono ?_
  rintro e w3 ⟨R3, R4, k3, k4, rfl, D3, D4, B3⟩
  have HD3 := Lib.hid D3; have HB3 := Lib.hid (HB2.out.trans (B3.mono HB2.out.size))
  clear D3 D4 B3 c3 HB2 HD2 H2c
  go_wp2_with fail
  refine (c4.out _ _ _ HD3.out).mono ?_
  rintro e w4 ⟨rfl, hw4⟩; subst w4
  go_wp2_with fail
  go_ret2
  exact ⟨by rw [HZ.out]; rfl, HB3.out⟩
end Go.Proofs.YtojpfmlmalmlcaaGreatDoor.G

namespace Go.Proofs.YtojpfmlmalmlcaaGreatDoor
open Go.RowKit

/-- Where a double lies, as the program has it. -/
def rv (A : Nat) (j : Bool) (l m : Nat) : Value := .agg #[.int .u64 (A : Int), .bool j, .int .u64 (l : Int), .int .u64 (m : Int)]
/-- Divisions of numbers that are not below 0, as the walk spells them. -/
theorem nat_rem (a s : Nat) : (a : Int).tmod (s : Int) = ((a % s : Nat) : Int) := rfl
theorem nat_quo (a s : Nat) : (a : Int).tdiv (s : Int) = ((a / s : Nat) : Int) := rfl
theorem u64_in {x : Int} (h0 : 0 ≤ x) (h1 : x ≤ 18446744073709551615) : IntKind.u64.wrap x = x := by rw [IntKind.wrap_u64]; omega

theorem below_box (w : World) (o : Obj) (n : Nat) : Below w.heap.size w ((w.alloc o).drewN n) := ((Below.refl _ _).alloc (Nat.le_refl _) o).trans ⟨rfl, rfl, rfl, Nat.le_refl _, fun _ _ => rfl⟩

set_option maxHeartbeats 1000000 in
theorem nearUp_any (A : Nat) (j : Bool) (l m s : Nat) (w : World) (hA : A < 18446744073709551616) (hs : s < 18446744073709551616) (hs0 : 0 < s) :
    Calls Tryz.prog 78 #[rv A j l m, .int .u64 (s : Int)] w fun e w' => e = .returned (.bool (nearUp A s j)) ∧ Below w.heap.size w w' := by
  obtain ⟨r, hr⟩ : ∃ r, r = nearUp A s j := ⟨_, rfl⟩
  rw [← hr]
  unfold rv
  unfold nearUp at hr
  obtain ⟨L, hL⟩ : ∃ L, L = A % s := ⟨_, rfl⟩
  obtain ⟨Q, hQ⟩ : ∃ Q, Q = A / s := ⟨_, rfl⟩
  obtain ⟨P, hP⟩ : ∃ P, P = s / 2 := ⟨_, rfl⟩
  obtain ⟨T, hT⟩ : ∃ T, T = Q % 2 := ⟨_, rfl⟩
  rw [← hL, ← hP, ← hQ, ← hT] at hr
  have lL : L < s := by rw [hL]; exact Nat.mod_lt _ hs0
  have lQ : Q ≤ A := by rw [hQ]; exact Nat.div_le_self _ _
  have z1 : ¬ (s : Int) = 0 := by omega
  have z2 : (A : Int).tmod (s : Int) = (L : Int) := by rw [nat_rem, hL]
  have z3 : (A : Int).tdiv (s : Int) = (Q : Int) := by rw [nat_quo, hQ]
  have z4 : (s : Int) / 2 = (P : Int) := by omega
  have z5 : (s : Int).tdiv 2 = (P : Int) := by rw [show (2 : Int) = ((2 : Nat) : Int) from rfl, nat_quo, hP]
  have z6 : (Q : Int).tmod 2 = (T : Int) := by rw [show (2 : Int) = ((2 : Nat) : Int) from rfl, nat_rem, hT]
  have z7 : (Q : Int) % 2 = (T : Int) := by omega
  have u1 : IntKind.u64.wrap (Q : Int) = (Q : Int) := u64_in (by omega) (by omega)
  have u2 : IntKind.u64.wrap (P : Int) = (P : Int) := u64_in (by omega) (by omega)
  have u3 : IntKind.u64.wrap (L : Int) = (L : Int) := u64_in (by omega) (by omega)
  clear hL hQ hP hT lL lQ hA hs hs0
  go_enter Tryz.func78, Tryz.ntmps78
  go_wp2_with fail
  all_goals
    go_ret
    refine ⟨?_, (Below.refl _ _).alloc (Nat.le_refl _) _⟩
    rw [hr]
    refine congrArg (fun b => Ending.returned (Value.bool b)) ?_
    clear z1 z2 z3 z4 z5 z6 z7 u1 u2 u3 hr
    try subst j
    simp
    first | done | omega | (intros; omega) | (rename_i h; rw [if_pos (by omega), Bool.eq_iff_iff]; simp; omega) | (rename_i h; rw [if_pos (by omega)]; simp; omega)

set_option maxHeartbeats 2000000 in
theorem nearest_any13 (A : Nat) (j : Bool) (l m s : Nat) (w : World) (hA : A ≤ 9000000000000000000) (hs : s ≤ 9000000000000000000) (hs0 : 0 < s) :
    Calls Tryz.prog 40 #[rv A j l m, .int .u64 (s : Int)] w fun e w' => e = .returned (.tuple #[.int .u64 (((nrst A l m s j).getD 0 : Nat) : Int), .bool (nrst A l m s j).isSome]) ∧ Below w.heap.size w w' := by
  obtain ⟨r, hr⟩ : ∃ r, r = nrst A l m s j := ⟨_, rfl⟩
  rw [← hr]
  have cN := Lib.hid fun w => nearUp_any A j l m s w (by omega) (by omega) hs0
  unfold rv at cN ⊢
  unfold nrst at hr
  obtain ⟨L, hL⟩ : ∃ L, L = A % s := ⟨_, rfl⟩
  have lL : L < s := by rw [hL]; exact Nat.mod_lt _ hs0
  have lA : L ≤ A := by rw [hL]; exact Nat.mod_le _ _
  obtain ⟨D, hD⟩ : ∃ D, D = A - L := ⟨_, rfl⟩
  obtain ⟨U, hU⟩ : ∃ U, U = D + s := ⟨_, rfl⟩
  rw [← hL, ← hD, ← hU] at hr
  have z1 : ¬ (s : Int) = 0 := by omega
  have z2 : (A : Int).tmod (s : Int) = (L : Int) := by rw [nat_rem, hL]
  have u1 : IntKind.u64.wrap ((A : Int) - (L : Int)) = (D : Int) := (u64_in (by omega) (by omega)).trans (by omega)
  have u2 : IntKind.u64.wrap ((D : Int) + (s : Int)) = (U : Int) := (u64_in (by omega) (by omega)).trans (by omega)
  have u3 : IntKind.u64.wrap (L : Int) = (L : Int) := u64_in (by omega) (by omega)
  clear hL hD hU lL lA hA hs hs0
  generalize nearUp A s j = N at *
  have HR := Lib.hid hr
  clear hr
  cases N
  all_goals
    go_enter Tryz.func40, Tryz.ntmps40
    go_wp2_with fail
    go_quiet (fail)
    go_wp2_with (go_at_call 78; refine (cN.out _).mono ?_; rintro e w5 ⟨rfl, hb⟩)
  all_goals
    go_ret2
    refine ⟨?_, ?_⟩
    · rw [HR.out]
      first
      | (rw [if_pos (by omega)]; rfl)
      | (rw [if_neg (by omega), if_pos (by first | omega | exact .inr ⟨by omega, trivial⟩)]; rfl)
      | (rw [if_neg (by omega), if_neg (by first | omega | (simp; omega))]; rfl)
    · first
      | exact below_box _ _ _
      | exact (below_box _ _ _).trans (hb.mono (below_box _ _ _).size)

/-- While the step grows. -/
def StepAt (A : Nat) (v : Value) : Prop := ∃ i s : Nat, s = 10 ^ i ∧ s ≤ A ∧ v = .int .u64 (s : Int)
/-- While the step falls. -/
def FallAt (A : Nat) (j : Bool) (l m : Nat) (w0 : World) (g K : Nat) (v a b : Value) (wr : World) : Prop :=
  ∃ i s : Nat, s = 10 ^ i ∧ i ≤ K ∧ (∀ k, i < k → k ≤ K → nrst A l m (10 ^ k) j = none) ∧ v = .int .u64 (s : Int) ∧ a = .int .u64 (((nrst A l m (10 ^ i) j).getD 0 : Nat) : Int) ∧ b = .bool (nrst A l m (10 ^ i) j).isSome ∧
    wr.cell? ⟨g, 0, none⟩ = some (.int .u64 (A : Int)) ∧ wr.cell? ⟨g, 1, none⟩ = some (.bool j) ∧ wr.cell? ⟨g, 2, none⟩ = some (.int .u64 (l : Int)) ∧ wr.cell? ⟨g, 3, none⟩ = some (.int .u64 (m : Int)) ∧ Below w0.heap.size w0 wr
def natOf : Value → Nat
  | .int _ x => x.toNat
  | _ => 0

theorem pow_le_of {a b : Nat} (h : 10 ^ a < 10 ^ (b + 1)) : a ≤ b := by
  apply Nat.le_of_not_lt
  intro hlt
  exact absurd h (Nat.not_lt.2 (Nat.pow_le_pow_right (by decide) hlt))
theorem cell_lt13 {w : World} {p : Addr} {v : Value} (h : w.cell? p = some v) : p.block < w.heap.size := World.block_lt_of_cell? w p h

set_option maxHeartbeats 2000000 in
set_option maxRecDepth 100000 in
theorem fewest_any (A : Nat) (j : Bool) (l m : Nat) (w : World) (hA : A ≤ 9000000000000000000) (hA1 : 1 ≤ A) (k0 : Nat) (hk0 : 1 ≤ k0) (hk1 : 10 ^ k0 ≤ A) (hk2 : nrst A l m (10 ^ k0) j ≠ none) :
    Calls Tryz.prog 20 #[rv A j l m] w fun e w' => (∃ N : Nat, e = .returned (.int .u64 (N : Int)) ∧ FewR A j l m N) ∧ Below w.heap.size w w' := by
  have cN := Lib.hid fun s w (h : s ≤ 9000000000000000000) (h0 : 0 < s) => nearest_any13 A j l m s w hA h h0
  have HK0 := Lib.hid hk0; have HK1 := Lib.hid hk1; have HK2 := Lib.hid hk2; have HA := Lib.hid hA; have HA1 := Lib.hid hA1
  have z1 : (A : Int).tdiv 10 = ((A / 10 : Nat) : Int) := rfl
  have z2 : (A : Int) / 10 = ((A / 10 : Nat) : Int) := rfl
  obtain ⟨T, hT⟩ : ∃ T, T = A / 10 := ⟨_, rfl⟩
  rw [← hT] at z1 z2
  have HT := Lib.hid hT
  have u1 : IntKind.u64.wrap (T : Int) = (T : Int) := u64_in (by omega) (by omega)
  clear hk0 hk1 hk2 hA hA1 hT
  have B1 : Hid (Below w.heap.size w (w.alloc (.cells #[.int .u64 (A : Int), .bool j, .int .u64 (l : Int), .int .u64 (m : Int)] 41))) := show Below _ _ _ from (Below.refl _ _).alloc (Nat.le_refl _) _
  unfold rv at cN ⊢
  go_enter Tryz.func20, Tryz.ntmps20
  go_wp2_with fail
  go_loopw [3] (fun v wr => StepAt A v ∧ wr = w.alloc (.cells #[.int .u64 (A : Int), .bool j, .int .u64 (l : Int), .int .u64 (m : Int)] 41)) (fun v _ => A - natOf v)
  case atStart => exact ⟨⟨0, 1, rfl, HA1.out, rfl⟩, rfl⟩
  case round =>
    obtain ⟨⟨i, s, hs, hsA, rfl⟩, rfl⟩ := hrel
    have HS := Lib.hid hs; have HSA := Lib.hid hsA
    by_cases hle : s ≤ T
    · have d1 : decide ((s : Int) ≤ (T : Int)) = true := by simp; exact hle
      have s1 : s * 10 ≤ A := by have := HT.out; omega
      have s0 : 0 < s := by rw [hs]; exact ten_pos i
      have w1 : IntKind.u64.wrap ((s : Int) * 10) = ((s * 10 : Nat) : Int) := by rw [u64_in (by omega) (by have := HA.out; omega)]; omega
      have HS1 := Lib.hid s1; have HS0 := Lib.hid s0
      clear hs hsA s1 s0
      go_wp2_with fail
      go_roundw
      case rel => exact ⟨⟨i + 1, s * 10, by rw [HS.out, Nat.pow_succ], HS1.out, by simp⟩, trivial⟩
      case measure => have := HS1.out; have := HS0.out; simp [natOf]; omega
    · have d1 : decide ((s : Int) ≤ (T : Int)) = false := by simp; omega
      have hlt : A < 10 ^ (i + 1) := by rw [Nat.pow_succ, ← hs]; have := HT.out; omega
      have s0 : 0 < s := by rw [hs]; exact ten_pos i
      have HLT := Lib.hid hlt
      have c1 := Lib.hid fun w => cN.out s w (by have := HA.out; omega) s0
      have d1n : ¬ s ≤ T := hle
      clear hs hsA hlt s0 hle
      go_wp2_with fail
      refine (c1.out _).mono ?_
      rintro e w5 ⟨rfl, hb⟩
      have HB := Lib.hid (B1.out.trans (hb.mono B1.out.size))
      have k0c : w5.cell? ⟨w.heap.size, 0, none⟩ = some (.int .u64 (A : Int)) := (hb.cell (p := ⟨w.heap.size, 0, none⟩) (by simp)).trans (by simp [go_sem])
      have k1c : w5.cell? ⟨w.heap.size, 1, none⟩ = some (.bool j) := (hb.cell (p := ⟨w.heap.size, 1, none⟩) (by simp)).trans (by simp [go_sem])
      have k2c : w5.cell? ⟨w.heap.size, 2, none⟩ = some (.int .u64 (l : Int)) := (hb.cell (p := ⟨w.heap.size, 2, none⟩) (by simp)).trans (by simp [go_sem])
      have k3c : w5.cell? ⟨w.heap.size, 3, none⟩ = some (.int .u64 (m : Int)) := (hb.cell (p := ⟨w.heap.size, 3, none⟩) (by simp)).trans (by simp [go_sem])
      have F0 : Hid (FallAt A j l m w w.heap.size i (.int .u64 (s : Int)) (.int .u64 (((nrst A l m s j).getD 0 : Nat) : Int)) (.bool (nrst A l m s j).isSome) w5) :=
        show FallAt _ _ _ _ _ _ _ _ _ _ _ from ⟨i, s, HS.out, Nat.le_refl _, fun k h1 h2 => absurd h2 (Nat.not_le.2 h1), rfl, by rw [HS.out], by rw [HS.out], k0c, k1c, k2c, k3c, HB.out⟩
      have HG : Hid (10 ^ i ≤ A) := show _ ≤ _ by rw [← HS.out]; exact HSA.out
      clear k0c k1c k2c k3c hb c1 d1 d1n HS HSA HB B1
      go_wp2_with fail
      go_loopw [3, 4, 5] (fun v a b wr => FallAt A j l m w w.heap.size i v a b wr) (fun v _ _ _ => natOf v)
      case atStart => exact F0.out
      case round =>
        clear F0
        obtain ⟨n, s2, hs2, hni, hno, rfl, rfl, rfl, k0c, k1c, k2c, k3c, hB⟩ := hrel
        have HS2 := Lib.hid hs2; have HNI := Lib.hid hni; have HNO := Lib.hid hno; have HB := Lib.hid hB
        obtain ⟨r, hr⟩ : ∃ r, r = nrst A l m (10 ^ n) j := ⟨_, rfl⟩
        rw [← hr]
        have HR := Lib.hid hr
        clear hs2 hni hno hB hr
        cases r with
        | some N =>
          have HF : Hid (FewR A j l m N) := show FewR _ _ _ _ _ by
            refine ⟨i, n, HG.out, HLT.out, ?_, HNI.out, HNO.out, HR.out.symm⟩
            refine Decidable.byContradiction fun hc => HK2.out (HNO.out k0 (by have := HK0.out; omega) ?_)
            exact pow_le_of (Nat.lt_of_le_of_lt HK1.out HLT.out)
          simp only [Option.getD_some, Option.isSome_some]
          go_wp2_with fail
          go_ret
          exact ⟨⟨N, rfl, HF.out⟩, HB.out⟩
        | none =>
          simp only [Option.getD_none, Option.isSome_none]
          have hn1 : 2 ≤ n := by
            have h0 := HK0.out
            rcases Nat.lt_trichotomy k0 n with c | c | c
            · omega
            · subst c; exact absurd HR.out.symm HK2.out
            · exact absurd (HNO.out k0 c (pow_le_of (Nat.lt_of_le_of_lt HK1.out HLT.out))) HK2.out
          obtain ⟨n1, rfl⟩ : ∃ n1, n = n1 + 1 := ⟨n - 1, by omega⟩
          obtain ⟨p, hp⟩ : ∃ p, p = 10 ^ n1 := ⟨_, rfl⟩
          have hp2 : s2 = p * 10 := by rw [HS2.out, hp, Nat.pow_succ]
          have p0 : 0 < p := by rw [hp]; exact ten_pos _
          have hpA : s2 ≤ A := by
            rw [HS2.out]
            exact Nat.le_trans (Nat.pow_le_pow_right (by decide) HNI.out) HG.out
          have hA9 := HA.out
          have y1 : (s2 : Int).tdiv 10 = (p : Int) := by rw [show (10 : Int) = ((10 : Nat) : Int) from rfl, nat_quo]; omega
          have y2 : (s2 : Int) / 10 = (p : Int) := by omega
          have y3 : IntKind.u64.wrap (p : Int) = (p : Int) := u64_in (by omega) (by omega)
          have HM : Hid (p < s2) := show _ < _ by omega
          have c1 := Lib.hid fun w => cN.out p w (by omega) p0
          have HP := Lib.hid hp
          have HNO2 : Hid (∀ k, n1 < k → k ≤ i → nrst A l m (10 ^ k) j = none) := show ∀ k, n1 < k → k ≤ i → nrst A l m (10 ^ k) j = none by
            intro k h1 h2
            by_cases hk : k = n1 + 1
            · subst hk; exact HR.out.symm
            · exact HNO.out k (by omega) h2
          clear hn1 hp hp2 p0 hpA hA9
          go_wp2_with fail
          refine (c1.out _).mono ?_
          rintro e w6 ⟨rfl, hb⟩
          have HB6 := Lib.hid (HB.out.trans (hb.mono HB.out.size))
          have j0 := (hb.cell (cell_lt13 k0c)).trans k0c
          have j1 := (hb.cell (cell_lt13 k1c)).trans k1c
          have j2 := (hb.cell (cell_lt13 k2c)).trans k2c
          have j3 := (hb.cell (cell_lt13 k3c)).trans k3c
          clear k0c k1c k2c k3c hb c1
          go_wp2_with fail
          go_roundw
          case rel => exact ⟨n1, p, HP.out, by have := HNI.out; omega, HNO2.out, rfl, by rw [HP.out], by rw [HP.out], j0, j1, j2, j3, HB6.out⟩
          case measure => have := HM.out; simp [natOf]; omega

end Go.Proofs.YtojpfmlmalmlcaaGreatDoor
