/-
  Both Splits, the program's and the document's: what a pattern tells. For all patterns; no condition.
  The program's.
  What short's Digits does: the fewest digits, as one predicate that has one solution. No condition but that the package-level variables hold what the statement lists.
-/
import Derived.Test.YtojpfmlmalmlcaaGreatDoorDecMath
import Derived.Test.YtojpfmlmalmlcaaGreatDoorShC13
import Derived.Test.YtojpfmlmalmlcaaGreatDoorNShelf
import Derived.Test.YtojpfmlmalmlcaaGreatDoorNearF12
import Derived.Laws.Bits64b
namespace Go.Proofs.YtojpfmlmalmlcaaGreatDoor
open Go.RowKit
set_option maxHeartbeats 400000 in
theorem own_nan (X S B E f : Int) (s : Bool) (w : World) (hS : bits .and .u64 X 9223372036854775808 = S) (hs : (S != 0) = s) (hB : X / 4503599627370496 = B) (hB1 : wrap64 B = B) (hE : bits .and .i64 B 2047 = E) (hf : bits .and .u64 X 4503599627370495 = f) (e0 : E = 2047) (f0 : (f == 0) = false) :
    Calls Tryz.prog 17 #[.int .u64 X] w fun e w' => e = .returned (.tuple #[.int .i64 4, .bool s, .int .u64 0, .int .i64 0]) ∧ w' = w := by
  go_enter Tryz.func17, Tryz.ntmps17
  go_wp2_with fail
  (try simp only [Exit.inBlock, Exit.then])
  refine bodyPost_ret (results_tmp4 rfl _ _ _) rfl ?_
  exact ⟨rfl, rfl⟩
set_option maxHeartbeats 400000 in
theorem own_inf (X S B E f : Int) (s : Bool) (w : World) (hS : bits .and .u64 X 9223372036854775808 = S) (hs : (S != 0) = s) (hB : X / 4503599627370496 = B) (hB1 : wrap64 B = B) (hE : bits .and .i64 B 2047 = E) (hf : bits .and .u64 X 4503599627370495 = f) (e0 : E = 2047) (f0 : f = 0) :
    Calls Tryz.prog 17 #[.int .u64 X] w fun e w' => e = .returned (.tuple #[.int .i64 3, .bool s, .int .u64 0, .int .i64 0]) ∧ w' = w := by
  go_enter Tryz.func17, Tryz.ntmps17
  go_wp2_with fail
  (try simp only [Exit.inBlock, Exit.then])
  refine bodyPost_ret (results_tmp4 rfl _ _ _) rfl ?_
  exact ⟨rfl, rfl⟩
set_option maxHeartbeats 400000 in
theorem own_zero (X S B E f : Int) (s : Bool) (w : World) (hS : bits .and .u64 X 9223372036854775808 = S) (hs : (S != 0) = s) (hB : X / 4503599627370496 = B) (hB1 : wrap64 B = B) (hE : bits .and .i64 B 2047 = E) (hf : bits .and .u64 X 4503599627370495 = f) (e0 : E = 0) (f0 : f = 0) :
    Calls Tryz.prog 17 #[.int .u64 X] w fun e w' => e = .returned (.tuple #[.int .i64 1, .bool s, .int .u64 0, .int .i64 0]) ∧ w' = w := by
  go_enter Tryz.func17, Tryz.ntmps17
  go_wp2_with fail
  (try simp only [Exit.inBlock, Exit.then])
  refine bodyPost_ret (results_tmp4 rfl _ _ _) rfl ?_
  exact ⟨rfl, rfl⟩
set_option maxHeartbeats 400000 in
theorem own_low (X S B E f : Int) (s : Bool) (w : World) (hS : bits .and .u64 X 9223372036854775808 = S) (hs : (S != 0) = s) (hB : X / 4503599627370496 = B) (hB1 : wrap64 B = B) (hE : bits .and .i64 B 2047 = E) (hf : bits .and .u64 X 4503599627370495 = f) (e0 : E = 0) (f0 : (f == 0) = false) :
    Calls Tryz.prog 17 #[.int .u64 X] w fun e w' => e = .returned (.tuple #[.int .i64 2, .bool s, .int .u64 f, .int .i64 (-1074)]) ∧ w' = w := by
  go_enter Tryz.func17, Tryz.ntmps17
  go_wp2_with fail
  (try simp only [Exit.inBlock, Exit.then])
  refine bodyPost_ret (results_tmp4 rfl _ _ _) rfl ?_
  exact ⟨rfl, rfl⟩
set_option maxHeartbeats 400000 in
theorem own_high (X S B E f m e : Int) (s : Bool) (w : World) (hS : bits .and .u64 X 9223372036854775808 = S) (hs : (S != 0) = s) (hB : X / 4503599627370496 = B) (hB1 : wrap64 B = B) (hE : bits .and .i64 B 2047 = E) (hf : bits .and .u64 X 4503599627370495 = f) (e0 : (E == 2047) = false) (e1 : (E == 0) = false) (hm : IntKind.u64.wrap (4503599627370496 + f) = m) (he : wrap64 (E - 1075) = e) :
    Calls Tryz.prog 17 #[.int .u64 X] w fun x w' => x = .returned (.tuple #[.int .i64 2, .bool s, .int .u64 m, .int .i64 e]) ∧ w' = w := by
  go_enter Tryz.func17, Tryz.ntmps17
  go_wp2_with fail
  (try simp only [Exit.inBlock, Exit.then])
  refine bodyPost_ret (results_tmp4 rfl _ _ _) rfl ?_
  exact ⟨by simp [he], rfl⟩
theorem and_top (s : Bool) (r : Nat) (hr : r < 9223372036854775808) : bits .and .u64 ((pat s r : Nat) : Int) 9223372036854775808 = if s then 9223372036854775808 else 0 := by
  have h := bits_and_u64_nat (pat s r) 9223372036854775808 (pat_lt hr) (by decide)
  have e : pat s r &&& 9223372036854775808 = if s then 9223372036854775808 else 0 := by
    have hrr : r < 2 ^ 63 := by omega
    have key : ∀ q : Nat, q = 2 ^ 63 → pat s r &&& q = if s then q else 0 := by
      intro q hq
      have hp : pat s r = if s then q + r else r := by cases s <;> simp [pat, hq]
      rw [hp]
      subst hq
      apply Nat.eq_of_testBit_eq
      intro i
      rw [Nat.testBit_and, Nat.testBit_two_pow]
      by_cases hi : 63 = i
      · subst hi
        cases s
        · simp only [Bool.false_eq_true, if_false, Nat.testBit_lt_two_pow hrr, Bool.false_and, Nat.zero_testBit]
        · simp only [if_true, Nat.testBit_two_pow_add_eq, Nat.testBit_lt_two_pow hrr, Nat.testBit_two_pow, Bool.not_false, Bool.true_and]
      · cases s
        · simp only [Bool.false_eq_true, if_false, hi, decide_false, Bool.and_false, Nat.zero_testBit]
        · simp only [if_true, hi, decide_false, Bool.and_false, Nat.testBit_two_pow]
    exact key 9223372036854775808 (by decide)
  rw [e] at h
  cases s
  · simpa using h
  · simpa using h
theorem and_2047i (y : Nat) (hy : y < 4096) : bits .and .i64 (y : Int) 2047 = ((y % 2048 : Nat) : Int) := by
  have h := bits_mask .i64 63 (by decide) (fun n h0 h1 => by rw [IntKind.wrap_i64]; omega) 11 (by decide) (y : Int) (by omega) (by omega)
  simpa using h
/-- The program's Split. -/
theorem split_any (s : Bool) (r : Nat) (hr : r < 9223372036854775808) (w : World) :
    Calls Tryz.prog 17 #[.int .u64 ((pat s r : Nat) : Int)] w fun x w' => x = .returned (.tuple #[.int .i64 (kOf r), .bool s, .int .u64 (mOf r : Int), .int .i64 (eOf r)]) ∧ w' = w := by
  have hx := pat_lt (s := s) hr
  have hA := and_top s r hr
  have h52 := pat_frac s r
  have hE0 := pat_exp s r hr
  generalize pat s r = x at *
  have hB : (x : Int) / 4503599627370496 = ((x / 4503599627370496 : Nat) : Int) := by omega
  have hB1 : wrap64 ((x / 4503599627370496 : Nat) : Int) = ((x / 4503599627370496 : Nat) : Int) := in64 (by omega)
  have hE := and_2047i (x / 4503599627370496) (by omega)
  rw [hE0] at hE
  have hf := and_52 x hx
  rw [h52] at hf
  have hs : ((if s then (9223372036854775808 : Int) else 0) != 0) = s := by cases s <;> rfl
  clear h52 hE0
  by_cases c1 : r < 4503599627370496
  · rw [show r / 4503599627370496 = 0 by omega] at hE
    rw [show r % 4503599627370496 = r by omega] at hf
    by_cases c2 : r = 0
    · subst c2
      exact own_zero x _ _ _ _ s w hA hs hB hB1 hE hf rfl rfl
    · obtain ⟨z1, z2, z3⟩ := tells_low c2 c1
      rw [z1, z2, z3]
      exact own_low x _ _ _ _ s w hA hs hB hB1 hE hf rfl (by simp; omega)
  · by_cases c2 : r < 9218868437227405312
    · obtain ⟨z1, z2, z3⟩ := tells_high c1 c2
      rw [z1, z2, z3]
      exact own_high x _ _ _ _ _ _ s w hA hs hB hB1 hE hf (by simp only [beq_eq_false_iff_ne]; omega) (by simp only [beq_eq_false_iff_ne]; omega) (by rw [IntKind.wrap_u64]; omega) (in64 (by omega))
    · rw [show r / 4503599627370496 = 2047 by omega] at hE
      by_cases c3 : r = 9218868437227405312
      · rw [show r % 4503599627370496 = 0 by omega] at hf
        subst c3
        obtain ⟨z1, z2, z3⟩ := tells_inf
        rw [z1, z2, z3]
        exact own_inf x _ _ _ _ s w hA hs hB hB1 hE hf rfl rfl
      · obtain ⟨z1, z2, z3⟩ := tells_nan (r := r) (by omega)
        rw [z1, z2, z3]
        exact own_nan x _ _ _ _ s w hA hs hB hB1 hE hf rfl (by simp only [beq_eq_false_iff_ne]; omega)
end Go.Proofs.YtojpfmlmalmlcaaGreatDoor

namespace Go.Proofs.YtojpfmlmalmlcaaGreatDoor
open Go.RowKit
open Go.Lib (decDigits itoa)

/-- What the calls of this layer lean on. -/
structure L13 (w : World) : Prop where
  low : L12 w
  pows : Pows w
theorem Pows.after {w w' : World} (h : Pows w) (hb : Below w.heap.size w w') : Pows w' := by
  have hg : Tryz.prog.globalNamed "internal/strconv.uint64pow10" = some 0 := by kernel_rfl
  have h1 := h
  have hlt : 0 < w.heap.size := by
    unfold Pows Lib.TabIs World.var? at h
    rw [hg, Option.bind_some] at h
    split at h
    · rename_i heq
      exact block_lt heq
    · cases h
  unfold Pows Lib.TabIs World.var? at *
  rw [hg] at *
  simp only [Option.bind_some] at *
  rw [hb.block _ hlt]
  exact h1
theorem L13.after {w w' : World} (h : L13 w) (hb : Below w.heap.size w w') : L13 w' := ⟨h.low.after hb, h.pows.after hb⟩

theorem two_big {N : Nat} (h : N ≤ 4096) {a : Nat} (k : a < 2 ^ N) : a < G.top := G.top_two h k
theorem ovr_lt {e unit : Int} {N : Nat} (he : -1074 ≤ e ∧ e ≤ 971) (hu : -400 ≤ unit ∧ unit ≤ 400) (hN : 2700 ≤ N) : ovr e unit < 2 ^ N ∧ und e unit < 2 ^ N := by
  have key : ∀ a b N : Nat, 4 * a + b < N → 10 ^ a * 2 ^ b < 2 ^ N := by
    intro a b N h
    have h1 : 10 ^ a * 2 ^ b ≤ 2 ^ (4 * a) * 2 ^ b := Nat.mul_le_mul_right _ (G.ten_two (Nat.le_refl _))
    rw [← Nat.pow_add] at h1
    exact Nat.lt_of_le_of_lt h1 (Nat.pow_lt_pow_right (by decide) h)
  unfold ovr und
  exact ⟨key _ _ _ (by omega), key _ _ _ (by omega)⟩
theorem dgs_top {e unit : Int} {n : Nat} (he : -1074 ≤ e ∧ e ≤ 971) (hu : -400 ≤ unit ∧ unit ≤ 400) (hn : n < 18446744073709551616) : n * ovr e unit < G.top := by
  obtain ⟨N, hN⟩ : ∃ N, N = 2700 := ⟨_, rfl⟩
  have h1 := (ovr_lt (N := N) he hu (by omega)).1
  refine two_big (N := 64 + N) (by omega) ?_
  rw [Nat.pow_add]
  refine Nat.lt_of_le_of_lt (Nat.mul_le_mul_left n (Nat.le_of_lt h1)) ?_
  exact Nat.mul_lt_mul_of_pos_right hn (Nat.two_pow_pos N)

set_option maxHeartbeats 1000000 in
theorem reach_any {r m L H k T : Nat} {e unit : Int} {U : Nat} (h : Starts r m L H k T e unit U) (w : World) :
    ∃ A l M just, Lies r U A l M just ∧ 10 ^ 17 ≤ A ∧ A ≤ 9000000000000000000 ∧ Calls Tryz.prog 21 #[.int .u64 (m : Int), .int .i64 e, .int .i64 unit] w fun x w' => x = .returned (rv A just l M) ∧ Below w.heap.size w w' := by
  have hm := h.mb
  have he := h.eb
  have ht := h.tb
  have hU := h.u_
  have hu : -400 ≤ unit ∧ unit ≤ 400 := by omega
  obtain ⟨n1, n2, n3, n4⟩ := h.nums
  obtain ⟨N, hN⟩ : ∃ N, N = 2700 := ⟨_, rfl⟩
  have tO := two_big (N := N) (by omega) (ovr_lt he hu (by omega)).1
  have tU := two_big (N := N) (by omega) (ovr_lt he hu (by omega)).2
  have hP := fun n hn => dgs_top (n := n) he hu hn
  have hlow : lowM m e ≤ 4 * m + 2 := by unfold lowM; split <;> omega
  have hlq : lowM m e * ovr e unit / und e unit ≤ (4 * m + 2) * ovr e unit / und e unit := Nat.div_le_div_right (Nat.mul_le_mul_right _ hlow)
  have hu0 : und e unit ≠ 0 := by have := und_pos (e := e) (unit := unit); omega
  refine ⟨_, _, _, _, h.lies, n1, by omega, ?_⟩
  have cQ := G.quotient_any (e - 2) (-unit) (w.alloc zr) (by omega) (by omega)
  rw [show 10 ^ (-unit).toNat * 2 ^ (e - 2).toNat = ovr e unit from rfl, show 10 ^ (- -unit).toNat * 2 ^ (-(e - 2)).toNat = und e unit from rfl] at cQ
  refine (reach_core m e unit w (ovr e unit) (und e unit) (lowM m e) _ _ _ _ _ _ hm he (by omega) (Lib.hid cQ) (Lib.hid fun R k S j2 w h1 h2 => G.shTimes_any (4 * m) R _ k (ovr e unit) S _ j2 (und e unit) w h1 h2 (by omega) tO tU hu0 (hP _ (by omega)) (by omega))
    (Lib.hid fun R k S j2 w h1 h2 => G.shTimes_any (lowM m e) R _ k (ovr e unit) S _ j2 (und e unit) w h1 h2 (by omega) tO tU hu0 (hP _ (by omega)) (by omega))
    (Lib.hid fun R k S j2 w h1 h2 => G.shTimes_any (4 * m + 2) R _ k (ovr e unit) S _ j2 (und e unit) w h1 h2 (by omega) tO tU hu0 (hP _ (by omega)) (by omega)) rfl (by omega) (by omega)).mono fun x w' ⟨hx, hb⟩ => ⟨?_, hb⟩
  rw [hx]
  simp only [decide_eq_true_eq]

theorem few_bounds {A l m N : Nat} {just : Bool} (h17 : 10 ^ 17 ≤ A) (hf : FewR A just l m N) : 100 ≤ N ∧ N ≤ 2 * A := by
  obtain ⟨K, i, h1, h2, h3, h4, h5, h6⟩ := hf
  have hs : 10 ^ i ≤ A := Nat.le_trans (Nat.pow_le_pow_right (by decide) h4) h1
  have hs0 := ten_pos i
  generalize 10 ^ i = s at *
  have e1 : 1 ≤ A / s := (Nat.le_div_iff_mul_le hs0).2 (by omega)
  have e2 : 1 * s ≤ A / s * s := Nat.mul_le_mul_right _ e1
  have e3 := down_is A s
  have e4 := Nat.mod_lt A hs0
  have e5 := Nat.mod_le A s
  unfold nrst at h6
  split at h6
  · cases h6
  · split at h6
    · cases h6; omega
    · cases h6; omega

set_option maxHeartbeats 2000000 in
set_option maxRecDepth 100000 in
theorem digits_any (s : Bool) (r : Nat) (hr : r < 9223372036854775808) (w : World) (hL : L13 w) :
    Calls Tryz.prog 9 #[.int .u64 ((pat s r : Nat) : Int)] w fun e w' => (∃ d x ok, e = .returned (.tuple #[.string ⟨d.toArray⟩, .int .i64 x, .bool ok]) ∧ DigAns r d x ok) ∧ Below w.heap.size w w' := by
  have cS := Lib.hid (split_any s r hr w)
  by_cases hk : kOf r = 2
  · obtain ⟨m, L, H, k, T, e, unit, U, st⟩ := starts_of hk
    have ST := Lib.hid st
    have hm := st.mb
    have he := st.eb
    have ht := st.tb
    have hun := st.u_
    have hm0 : m ≠ 0 := by omega
    have cT := Lib.hid (G.tens_any m e L H w hm0 (by omega) st.l_ (by have := st.h_; have := st.k_; have := st.l_.1; omega) st.hb (by have := st.lb; omega))
    rw [← st.t_] at cT
    rw [hk, ← st.m_, ← st.e_] at cS
    have cR := Lib.hid fun w => reach_any st w
    obtain ⟨u1, hu1⟩ : ∃ u1 : Int, u1 = (T : Int) - 1074 := ⟨_, rfl⟩
    rw [← hu1] at cT
    obtain ⟨u2, hu2⟩ : ∃ u2 : Int, u2 = u1 + 1 := ⟨_, rfl⟩
    have w1 : wrap64 (u1 + 1) = u2 := by unfold wrap64; omega
    have w2 : wrap64 (u2 - 18) = unit := by unfold wrap64; omega
    have HU : Hid (-400 ≤ unit ∧ unit ≤ 400 ∧ (U : Int) = unit + 1074) := show _ ∧ _ ∧ _ from ⟨by omega, by omega, by have := st.U_; omega⟩
    have HK := Lib.hid hk; have HL := Lib.hid hL
    clear hm he ht hun hm0 hu1 hu2 st hk hL hr
    go_enter Tryz.func9, Tryz.ntmps9
    go_wp2_with fail
    refine cS.out.mono ?_
    rintro x w5 ⟨rfl, hw5⟩; subst w5
    clear cS
    go_wp2_with fail
    refine cT.out.mono ?_
    rintro x w1 ⟨rfl, B1⟩
    have HB1 := Lib.hid B1
    have HL1 := Lib.hid (HL.out.after B1)
    clear B1 cT
    go_wp2_with fail
    obtain ⟨A, l, M, just, hl, h17, h9, c⟩ := cR.out w1
    obtain ⟨k0, k1, k2, k3⟩ := few_some hl h17
    have cF := Lib.hid fun w => fewest_any A just l M w h9 (by omega) k0 k1 k2 k3
    have HLi := Lib.hid hl; have H17 := Lib.hid h17; have H9 := Lib.hid h9
    clear cR hl h17 h9 k1 k2 k3
    refine c.mono ?_
    rintro x w2 ⟨rfl, B2⟩
    have HB2 := Lib.hid (HB1.out.trans (B2.mono HB1.out.size)); have HL2 := Lib.hid (HL1.out.after B2)
    clear c B2 HB1 HL1
    go_wp2_with fail
    refine (cF.out _).mono ?_
    rintro x w3 ⟨⟨N, rfl, hf⟩, B3⟩
    have HB3 := Lib.hid (HB2.out.trans (B3.mono HB2.out.size)); have HL3 := Lib.hid (HL2.out.after B3)
    obtain ⟨n1, n2⟩ := few_bounds H17.out hf
    have n3 : N < 18446744073709551616 := by have := H9.out; omega
    have HA := Lib.hid (few_ans HLi.out HU.out.2.2 hf)
    have hlen : (decDigits N).length ≤ 20 := by rw [Lib.decDigits_length]; exact small_u64 n3 (by omega)
    have cU := Lib.hid (formatUint_any N n1 n3 w3 HL3.out.pows)
    clear hf B3 cF HB2 HL2 H17 H9 HLi n1 n2 n3
    generalize decDigits N = ds at *
    go_wp2_with fail
    refine cU.out.mono ?_
    rintro x w4 ⟨rfl, B4⟩
    have HB4 := Lib.hid (HB3.out.trans (B4.mono HB3.out.size))
    have cI := Lib.hid (trimRight_any ds (by omega) w4)
    clear B4 cU HB3
    go_wp2_with fail
    refine cI.out.mono ?_
    rintro x w5 ⟨rfl, hw5⟩; subst w5
    clear cI
    obtain ⟨v, hv⟩ : ∃ v : Int, v = (ds.length : Int) + unit := ⟨_, rfl⟩
    have wv : wrap64 ((ds.length : Int) + unit) = v := by have := HU.out; unfold wrap64; omega
    rw [← hv] at HA
    clear hv
    go_wp2_with fail
    go_ret3
    exact ⟨⟨_, v, true, by first | rfl | (simp [wv]; done) | (rw [← wv]; rfl), .inr ⟨HK.out, HA.out, rfl⟩⟩, HB4.out⟩
  · have d1 : (kOf r == 2) = false := by simpa using hk
    have d2 : (kOf r != 2) = true := by simpa using hk
    have HK := Lib.hid hk
    have hb := Below.refl w.heap.size w
    generalize kOf r = kk at cS d1 d2
    clear hL hr hk
    go_enter Tryz.func9, Tryz.ntmps9
    go_wp2_with fail
    refine cS.out.mono ?_
    rintro x w5 ⟨rfl, hw5⟩; subst w5
    clear cS
    go_wp2_with fail
    go_ret3
    exact ⟨⟨[], 0, false, rfl, .inl ⟨HK.out, rfl, rfl, rfl⟩⟩, hb⟩
end Go.Proofs.YtojpfmlmalmlcaaGreatDoor
