/-
  What math/bits' Div64 does where the upper half is below the divisor (else Go panics); no other condition.
-/
import Derived.Test.YtpkfklhhljaekaaWideC
import Derived.Deep.CutBlock
import Derived.Deep.DeepCutAuto
namespace Go.Proofs.Ytpkfklhhljaekaa
open Go.RowKit

theorem below_drewN (w : World) (n : Nat) : Below w.heap.size w (w.drewN n) := ⟨rfl, rfl, rfl, Nat.le_refl _, fun _ _ => rfl⟩
theorem div_val {l y : Nat} (hl : l < 18446744073709551616) : IntKind.u64.wrap ((l : Int) / (y : Int)) = ((l / y : Nat) : Int) := by
  have e : ((l : Int) / (y : Int)) = ((l / y : Nat) : Int) := by simp
  rw [e]
  exact wrapN _ (Nat.lt_of_le_of_lt (Nat.div_le_self _ _) hl)
theorem tdiv_val {l y : Nat} : ((l : Int).tdiv (y : Int)) = ((l / y : Nat) : Int) := by rw [Int.tdiv_eq_ediv_of_nonneg (by omega)]; simp
theorem tmod_val {l y : Nat} : ((l : Int).tmod (y : Int)) = ((l % y : Nat) : Int) := by rw [Int.tmod_eq_emod_of_nonneg (by omega)]; simp

set_option maxHeartbeats 1000000 in
set_option maxRecDepth 100000 in
theorem div64_low (l y q r : Nat) (hy : 0 < y) (HQ : Hid (q = l / y ∧ r = l % y ∧ l < 18446744073709551616)) (w : World) :
    Calls Try.prog 35 #[.int .u64 0, .int .u64 (l : Int), .int .u64 (y : Int)] w fun e w' => e = .returned (.tuple #[.int .u64 (q : Int), .int .u64 (r : Int)]) ∧ Below w.heap.size w w' := by
  have y1 : (0 : Int) < (y : Int) := by omega
  have y3 : ¬ (y : Int) = 0 := by omega
  have y4 : ¬ y = 0 := by omega
  have e1 := div_val (y := y) HQ.out.2.2
  have e2 := tdiv_val (l := l) (y := y)
  have e3 := tmod_val (l := l) (y := y)
  rw [← HQ.out.1] at e1 e2
  rw [← HQ.out.2.1] at e3
  go_enter Try.func35, Try.ntmps35
  have e4 : IntKind.u64.wrap (q : Int) = (q : Int) := wrapN _ (by rw [HQ.out.1]; exact Nat.lt_of_le_of_lt (Nat.div_le_self _ _) HQ.out.2.2)
  go_wp2_with fail
  go_quiet (fail)
  go_wp2_with fail
  go_ret2
  exact ⟨rfl, below_drewN _ _⟩

/-- What a quotient, as the walk may spell it, is. -/
structure DivIs (u n g : Nat) : Prop where
  a : IntKind.u64.wrap ((u : Int) / (n : Int)) = (g : Int)
  b : (u : Int).tdiv (n : Int) = (g : Int)
  c : (u : Int) / (n : Int) = (g : Int)
  d : IntKind.u64.wrap (g : Int) = (g : Int)
  e : 0 < n
theorem DivIs.of {u n g : Nat} (hg : g = u / n) (hu : u < 18446744073709551616) (hn : 0 < n) : DivIs u n g := by
  subst hg
  exact ⟨div_val hu, tdiv_val, by simp, wrapN _ (Nat.lt_of_le_of_lt (Nat.div_le_self _ _) hu), hn⟩

/-- What a round reckons, as the walk spells it: the guess g with its rest r; the halves of the divisor n1, n0; the next digit d. -/
structure RoundIs (g r n1 n0 d : Nat) (a c e g' r' : Nat) : Prop where
  isA : IntKind.u64.wrap ((g : Int) * (n0 : Int)) = (a : Int)
  isC : IntKind.u64.wrap (4294967296 * (r : Int)) = (c : Int)
  isE : IntKind.u64.wrap ((c : Int) + (d : Int)) = (e : Int)
  isG : IntKind.u64.wrap ((g : Int) - 1) = (g' : Int)
  isR : IntKind.u64.wrap ((r : Int) + (n1 : Int)) = (r' : Int)
theorem mul_small {g n : Nat} (hg : g ≤ 4294967297) (hn : n < 4294967296) : g * n < 18446744073709551616 := by
  have h : g * n ≤ 4294967297 * 4294967295 := Nat.mul_le_mul hg (by omega)
  omega
theorem RoundIs.of {g r n1 n0 d : Nat} (hg : g ≤ 4294967297) (hg1 : 1 ≤ g) (hr : r < 4294967296) (h1 : n1 < 4294967296) (h0 : n0 < 4294967296) (hd : d < 4294967296) :
    RoundIs g r n1 n0 d (g * n0) (r * 4294967296) (r * 4294967296 + d) (g - 1) (r + n1) := by
  refine ⟨?_, ?_, ?_, ?_, ?_⟩
  · rw [mulN]; exact wrapN _ (mul_small hg h0)
  · rw [IntKind.wrap_u64]; omega
  · rw [IntKind.wrap_u64]; omega
  · rw [IntKind.wrap_u64]; omega
  · rw [IntKind.wrap_u64]; omega
/-- All that a digit's loop leans on. -/
structure DigitOf (U Y d n1 n0 q : Nat) : Prop where
  hu : U < Y
  hd : d < 4294967296
  hy : 9223372036854775808 ≤ Y
  hyt : Y < 18446744073709551616
  hn1 : n1 = Y / 4294967296
  hn0 : n0 = Y % 4294967296
  hq : q = (U * 4294967296 + d) / Y
theorem DigitOf.bounds {U Y d n1 n0 q : Nat} (h : DigitOf U Y d n1 n0 q) : n1 < 4294967296 ∧ n0 < 4294967296 := by
  have h1 := h.hn1; have h0 := h.hn0; have := h.hyt
  omega
theorem lt_cases {a b : Nat} : (decide (a < b) = true ∧ decide ((a : Int) < (b : Int)) = true ∧ a < b) ∨ (decide (a < b) = false ∧ decide ((a : Int) < (b : Int)) = false ∧ ¬ a < b) := by
  by_cases h : a < b
  · exact .inl ⟨decide_eq_true h, decide_eq_true (by omega), h⟩
  · exact .inr ⟨decide_eq_false h, decide_eq_false (by omega), h⟩
theorem great_cases (a : Nat) : (decide ((4294967296 : Int) ≤ (a : Int)) = true ∧ decide ((4294967296 : Nat) ≤ a) = true ∧ 4294967296 ≤ a) ∨ (decide ((4294967296 : Int) ≤ (a : Int)) = false ∧ decide ((4294967296 : Nat) ≤ a) = false ∧ ¬ 4294967296 ≤ a) := by
  by_cases h : 4294967296 ≤ a
  · exact .inl ⟨decide_eq_true (by omega), decide_eq_true h, h⟩
  · exact .inr ⟨decide_eq_false (by omega), decide_eq_false h, h⟩
/-- The guess is not the digit: one less, and either it is the digit or it is looked at again. -/
theorem digit_less {U Y d n1 n0 q g r : Nat} (h : DigitOf U Y d n1 n0 q) (hg : Guess U Y d g r) (hb : 4294967296 ≤ g ∨ r * 4294967296 + d < g * n0) :
    1 ≤ g ∧ (4294967296 ≤ r + n1 → g - 1 = q) ∧ (¬ 4294967296 ≤ r + n1 → Guess U Y d (g - 1) (r + n1)) := by
  have hl : (U * 4294967296 + d) / Y ≤ g - 1 ∧ 1 ≤ g := by
    rcases hb with hb | hb
    · exact guess_high hg h.hu h.hd hb
    · exact guess_more hg h.hu (by rw [← h.hn0]; exact hb)
  refine ⟨hl.2, fun hr => ?_, fun hr => ?_⟩
  · rw [h.hq]; exact guess_stop hg (Nat.lt_of_lt_of_le (by omega) h.hy) hl.1 hl.2 (by rw [← h.hn1]; exact hr)
  · rw [h.hn1]; exact guess_next hg hl.1 hl.2 (by rw [← h.hn1]; omega)
theorem digit_is {U Y d n1 n0 q g r : Nat} (h : DigitOf U Y d n1 n0 q) (hg : Guess U Y d g r) (hb : ¬ r * 4294967296 + d < g * n0) : g = q := by
  rw [h.hq]; exact guess_good hg (Nat.lt_of_lt_of_le (by omega) h.hy) (by rw [← h.hn0]; exact hb)

set_option maxHeartbeats 4000000 in
set_option maxRecDepth 100000 in
theorem div64_core (h l y s Y n1 n0 H t M U V d1 d0 g0 p0 r0 q1 a1 a2 a3 r1 g1 p1 z1 q0 b1 b2 b3 b4 c1 Q R : Nat) (hh : 0 < h) (hy : h < y)
    (CL : Hid (∀ w, Calls Try.prog 38 #[.int .u64 (y : Int)] w fun e w' => e = .returned (.int .i64 (s : Int)) ∧ w = w'))
    (es : IntKind.u64.wrap (s : Int) = (s : Int)) (em : min s 64 = s) (et : IntKind.u64.wrap (64 - (s : Int)) = (t : Int)) (en : min t 64 = t)
    (eY : IntKind.u64.wrap ((y : Int) * 2 ^ s) = (Y : Int)) (e1 : (Y : Int) / 4294967296 = (n1 : Int)) (e0 : bits .and .u64 (Y : Int) 4294967295 = (n0 : Int))
    (eH : IntKind.u64.wrap ((h : Int) * 2 ^ s) = (H : Int)) (eM : (l : Int) / 2 ^ t = (M : Int)) (eU : bits .or .u64 (H : Int) (M : Int) = (U : Int))
    (eV : IntKind.u64.wrap ((l : Int) * 2 ^ s) = (V : Int)) (ed1 : (V : Int) / 4294967296 = (d1 : Int)) (ed0 : bits .and .u64 (V : Int) 4294967295 = (d0 : Int))
    (D0 : Hid (DivIs U n1 g0)) (ep0 : IntKind.u64.wrap ((g0 : Int) * (n1 : Int)) = (p0 : Int)) (er0 : IntKind.u64.wrap ((U : Int) - (p0 : Int)) = (r0 : Int))
    (G0 : Hid (Guess U Y d1 g0 r0)) (O1 : Hid (DigitOf U Y d1 n1 n0 q1))
    (f1 : IntKind.u64.wrap ((U : Int) * 4294967296) = (a1 : Int)) (f2 : IntKind.u64.wrap ((a1 : Int) + (d1 : Int)) = (a2 : Int)) (f3 : IntKind.u64.wrap ((q1 : Int) * (Y : Int)) = (a3 : Int)) (f4 : IntKind.u64.wrap ((a2 : Int) - (a3 : Int)) = (r1 : Int))
    (D1 : Hid (DivIs r1 n1 g1)) (f5 : IntKind.u64.wrap ((g1 : Int) * (n1 : Int)) = (p1 : Int)) (f6 : IntKind.u64.wrap ((r1 : Int) - (p1 : Int)) = (z1 : Int))
    (G1 : Hid (Guess r1 Y d0 g1 z1)) (O2 : Hid (DigitOf r1 Y d0 n1 n0 q0))
    (f7 : IntKind.u64.wrap ((q1 : Int) * 4294967296) = (b1 : Int)) (f8 : IntKind.u64.wrap ((b1 : Int) + (q0 : Int)) = (Q : Int)) (f9 : IntKind.u64.wrap ((r1 : Int) * 4294967296) = (b2 : Int)) (f10 : IntKind.u64.wrap ((b2 : Int) + (d0 : Int)) = (b3 : Int))
    (f11 : IntKind.u64.wrap ((q0 : Int) * (Y : Int)) = (b4 : Int)) (f12 : IntKind.u64.wrap ((b3 : Int) - (b4 : Int)) = (c1 : Int)) (f13 : (c1 : Int) / 2 ^ s = (R : Int))
    (w : World) :
    Calls Try.prog 35 #[.int .u64 (h : Int), .int .u64 (l : Int), .int .u64 (y : Int)] w fun e w' => e = .returned (.tuple #[.int .u64 (Q : Int), .int .u64 (R : Int)]) ∧ w = w' := by
  have F1 := Lib.hid f1; have F2 := Lib.hid f2; have F3 := Lib.hid f3; have F4 := Lib.hid f4; have F5 := Lib.hid f5; have F6 := Lib.hid f6; have F7 := Lib.hid f7
  have F8 := Lib.hid f8; have F9 := Lib.hid f9; have F10 := Lib.hid f10; have F11 := Lib.hid f11; have F12 := Lib.hid f12; have F13 := Lib.hid f13; have EM := Lib.hid em; have ES := Lib.hid es
  clear f1 f2 f3 f4 f5 f6 f7 f8 f9 f10 f11 f12 f13
  have y1 : (0 : Int) < (y : Int) := by omega
  have y3 : ¬ (y : Int) = 0 := by omega
  have y4 : ¬ y = 0 := by omega
  have y5 : (h : Int) < (y : Int) := by omega
  have y6 : decide ((y : Int) ≤ (h : Int)) = false := by simp; omega
  have y7 : decide (y ≤ h) = false := by simp; omega
  have y8 : (0 : Int) < (h : Int) := by omega
  have y9 : ¬ h = 0 := by omega
  have k1 := D0.out.a; have k2 := D0.out.b; have k3 := D0.out.c; have k4 := D0.out.d; have k5 := D0.out.e
  have k6 : (0 : Int) < (n1 : Int) := by omega
  have k7 : ¬ n1 = 0 := by omega
  go_enter Try.func35, Try.ntmps35
  go_upto_block 0 with (refine (CL.out _).mono ?_; rintro e w' ⟨rfl, rfl⟩)
  clear es em et en eY e1 e0 eH eM eU eV ed1 ed0 ep0 er0 y1 y3 y4 y5 y6 y7 y8 y9 k1 k2 k3 k4 hh hy
  go_cut [15, 16] (fun v15 _ wx => wx = w ∧ v15 = .int .u64 (q1 : Int))
  case first =>
    go_wp2_with fail
    go_loopw [15, 16] (fun v15 v16 wr => wr = w ∧ ∃ g r : Nat, v15 = .int .u64 (g : Int) ∧ v16 = .int .u64 (r : Int) ∧ Guess U Y d1 g r) (fun v15 _ _ => (intOf v15).toNat)
    case atStart => exact ⟨rfl, g0, r0, rfl, rfl, G0.out⟩
    case round =>
      obtain ⟨rfl, g, r, rfl, rfl, hG⟩ := hrel
      have HG := Lib.hid hG
      have hb := O1.out.bounds
      have hdd := O1.out.hd
      obtain ⟨-, -, hg2, hr2⟩ := hG
      rcases great_cases g with ⟨t1, t1n, hK⟩ | ⟨t1, t1n, hK⟩
      · obtain ⟨hg1, hstop, hnext⟩ := digit_less O1.out HG.out (.inl hK)
        obtain ⟨-, -, -, x4, x5⟩ := RoundIs.of hg2 hg1 hr2 hb.1 hb.2 hdd
        have HST := Lib.hid hstop
        have HNX := Lib.hid hnext
        have HG1 := Lib.hid hg1
        rcases great_cases (r + n1) with ⟨t2, t2n, hR⟩ | ⟨t2, t2n, hR⟩
        · have HE := Lib.hid (HST.out hR)
          clear hR hK hstop hnext hg1 hg2 hr2 hb hdd
          generalize g - 1 = g' at *
          generalize r + n1 = r' at *
          go_wp2_with fail
          go_meet
          exact ⟨rfl, by rw [HE.out]⟩
        · have HE := Lib.hid (HNX.out hR)
          have HM : Hid (g - 1 < g) := Nat.sub_lt hg1 (by omega)
          clear hR hK hstop hnext hg1 hg2 hr2 hb hdd
          generalize g - 1 = g' at *
          generalize r + n1 = r' at *
          go_wp2_with fail
          go_roundw
          case rel => exact ⟨trivial, g', r', rfl, rfl, HE.out⟩
          case measure => simp [intOf]; exact HM.out
      · rcases lt_cases (a := r * 4294967296 + d1) (b := g * n0) with ⟨t3, t3i, hT⟩ | ⟨t3, t3i, hT⟩
        · obtain ⟨hg1, hstop, hnext⟩ := digit_less O1.out HG.out (.inr hT)
          obtain ⟨x1, x2, x3, x4, x5⟩ := RoundIs.of hg2 hg1 hr2 hb.1 hb.2 hdd
          have HST := Lib.hid hstop
          have HNX := Lib.hid hnext
          rcases great_cases (r + n1) with ⟨t2, t2n, hR⟩ | ⟨t2, t2n, hR⟩
          · have HE := Lib.hid (HST.out hR)
            clear hR hK hT hstop hnext hg1 hg2 hr2 hb hdd HG
            generalize g - 1 = g' at *
            generalize r + n1 = r' at *
            generalize r * 4294967296 + d1 = e' at *
            generalize r * 4294967296 = c' at *
            generalize g * n0 = a' at *
            go_wp2_with fail
            go_meet
            exact ⟨rfl, by rw [HE.out]⟩
          · have HE := Lib.hid (HNX.out hR)
            have HM : Hid (g - 1 < g) := Nat.sub_lt hg1 (by omega)
            clear hR hK hT hstop hnext hg1 hg2 hr2 hb hdd HG
            generalize g - 1 = g' at *
            generalize r + n1 = r' at *
            generalize r * 4294967296 + d1 = e' at *
            generalize r * 4294967296 = c' at *
            generalize g * n0 = a' at *
            go_wp2_with fail
            go_roundw
            case rel => exact ⟨trivial, g', r', rfl, rfl, HE.out⟩
            case measure => simp [intOf]; exact HM.out
        · have HE := Lib.hid (digit_is O1.out HG.out hT)
          by_cases hg1 : 1 ≤ g
          · obtain ⟨x1, x2, x3, x4, x5⟩ := RoundIs.of hg2 hg1 hr2 hb.1 hb.2 hdd
            clear hK hT hg1 hg2 hr2 hb hdd HG x4 x5
            generalize r * 4294967296 + d1 = e' at *
            generalize r * 4294967296 = c' at *
            generalize g * n0 = a' at *
            go_wp2_with fail
            go_meet
            exact ⟨rfl, by rw [HE.out]⟩
          · obtain rfl : g = 0 := by omega
            obtain ⟨-, x2, x3, -, -⟩ := RoundIs.of (g := 1) (by omega) (Nat.le_refl _) hr2 hb.1 hb.2 hdd
            have x1 : IntKind.u64.wrap (((0 : Nat) : Int) * (n0 : Int)) = ((0 * n0 : Nat) : Int) := by simp [IntKind.wrap_u64]
            clear hK hT hg1 hg2 hr2 hb hdd HG
            generalize r * 4294967296 + d1 = e' at *
            generalize r * 4294967296 = c' at *
            generalize hz : 0 * n0 = a' at *
            generalize 0 = g at *
            clear hz
            go_wp2_with fail
            go_meet
            exact ⟨rfl, by rw [HE.out]⟩
  case rest =>
    obtain ⟨rfl, rfl⟩ := hcut
    have f1 := F1.out; have f2 := F2.out; have f3 := F3.out; have f4 := F4.out; have f5 := F5.out; have f6 := F6.out
    have k1 := D1.out.a; have k2 := D1.out.b; have k3 := D1.out.c; have k4 := D1.out.d
    go_upto_block 2 with fail
    clear f1 f2 f3 f4 f5 f6 k1 k2 k3 k4
    go_cut [18, 16] (fun v18 _ wx => wx = wc ∧ v18 = .int .u64 (q0 : Int))
    case first =>
      go_wp2_with fail
      go_loopw [18, 16] (fun v18 v16 wr => wr = wc ∧ ∃ g r : Nat, v18 = .int .u64 (g : Int) ∧ v16 = .int .u64 (r : Int) ∧ Guess r1 Y d0 g r) (fun v18 _ _ => (intOf v18).toNat)
      case atStart => exact ⟨rfl, g1, z1, rfl, rfl, G1.out⟩
      case round =>
        obtain ⟨rfl, g, r, rfl, rfl, hG⟩ := hrel
        have HG := Lib.hid hG
        have hb := O2.out.bounds
        have hdd := O2.out.hd
        obtain ⟨-, -, hg2, hr2⟩ := hG
        rcases great_cases g with ⟨t1, t1n, hK⟩ | ⟨t1, t1n, hK⟩
        · obtain ⟨hg1, hstop, hnext⟩ := digit_less O2.out HG.out (.inl hK)
          obtain ⟨-, -, -, x4, x5⟩ := RoundIs.of hg2 hg1 hr2 hb.1 hb.2 hdd
          have HST := Lib.hid hstop
          have HNX := Lib.hid hnext
          have HG1 := Lib.hid hg1
          rcases great_cases (r + n1) with ⟨t2, t2n, hR⟩ | ⟨t2, t2n, hR⟩
          · have HE := Lib.hid (HST.out hR)
            clear hR hK hstop hnext hg1 hg2 hr2 hb hdd
            generalize g - 1 = g' at *
            generalize r + n1 = r' at *
            go_wp2_with fail
            go_meet
            exact ⟨rfl, by rw [HE.out]⟩
          · have HE := Lib.hid (HNX.out hR)
            have HM : Hid (g - 1 < g) := Nat.sub_lt hg1 (by omega)
            clear hR hK hstop hnext hg1 hg2 hr2 hb hdd
            generalize g - 1 = g' at *
            generalize r + n1 = r' at *
            go_wp2_with fail
            go_roundw
            case rel => exact ⟨trivial, g', r', rfl, rfl, HE.out⟩
            case measure => simp [intOf]; exact HM.out
        · rcases lt_cases (a := r * 4294967296 + d0) (b := g * n0) with ⟨t3, t3i, hT⟩ | ⟨t3, t3i, hT⟩
          · obtain ⟨hg1, hstop, hnext⟩ := digit_less O2.out HG.out (.inr hT)
            obtain ⟨x1, x2, x3, x4, x5⟩ := RoundIs.of hg2 hg1 hr2 hb.1 hb.2 hdd
            have HST := Lib.hid hstop
            have HNX := Lib.hid hnext
            rcases great_cases (r + n1) with ⟨t2, t2n, hR⟩ | ⟨t2, t2n, hR⟩
            · have HE := Lib.hid (HST.out hR)
              clear hR hK hT hstop hnext hg1 hg2 hr2 hb hdd HG
              generalize g - 1 = g' at *
              generalize r + n1 = r' at *
              generalize r * 4294967296 + d0 = e' at *
              generalize r * 4294967296 = c' at *
              generalize g * n0 = a' at *
              go_wp2_with fail
              go_meet
              exact ⟨rfl, by rw [HE.out]⟩
            · have HE := Lib.hid (HNX.out hR)
              have HM : Hid (g - 1 < g) := Nat.sub_lt hg1 (by omega)
              clear hR hK hT hstop hnext hg1 hg2 hr2 hb hdd HG
              generalize g - 1 = g' at *
              generalize r + n1 = r' at *
              generalize r * 4294967296 + d0 = e' at *
              generalize r * 4294967296 = c' at *
              generalize g * n0 = a' at *
              go_wp2_with fail
              go_roundw
              case rel => exact ⟨trivial, g', r', rfl, rfl, HE.out⟩
              case measure => simp [intOf]; exact HM.out
          · have HE := Lib.hid (digit_is O2.out HG.out hT)
            by_cases hg1 : 1 ≤ g
            · obtain ⟨x1, x2, x3, x4, x5⟩ := RoundIs.of hg2 hg1 hr2 hb.1 hb.2 hdd
              clear hK hT hg1 hg2 hr2 hb hdd HG x4 x5
              generalize r * 4294967296 + d0 = e' at *
              generalize r * 4294967296 = c' at *
              generalize g * n0 = a' at *
              go_wp2_with fail
              go_meet
              exact ⟨rfl, by rw [HE.out]⟩
            · obtain rfl : g = 0 := by omega
              obtain ⟨-, x2, x3, -, -⟩ := RoundIs.of (g := 1) (by omega) (Nat.le_refl _) hr2 hb.1 hb.2 hdd
              have x1 : IntKind.u64.wrap (((0 : Nat) : Int) * (n0 : Int)) = ((0 * n0 : Nat) : Int) := by simp [IntKind.wrap_u64]
              clear hK hT hg1 hg2 hr2 hb hdd HG
              generalize r * 4294967296 + d0 = e' at *
              generalize r * 4294967296 = c' at *
              generalize hz : 0 * n0 = a' at *
              generalize 0 = g at *
              clear hz
              go_wp2_with fail
              go_meet
              exact ⟨rfl, by rw [HE.out]⟩
    case rest =>
      obtain ⟨rfl, rfl⟩ := hcut
      have f7 := F7.out; have f8 := F8.out; have f9 := F9.out; have f10 := F10.out; have f11 := F11.out; have f12 := F12.out; have f13 := F13.out
      have em := EM.out
      go_wp2_with fail
      go_ret2
      exact ⟨rfl, rfl⟩

end Go.Proofs.Ytpkfklhhljaekaa
