/-
  The law's first question (what the document's examples tell) is answered true. No condition but what the calls lean on (L13).
  The laws ShortDigits, ShortTexts, ShortForm and ShortBack, walked: each returns true and writes nothing that was there; for all patterns. No condition but what the calls lean on (L13).
  The law ShortLeast, walked: it returns true and writes nothing that was there; for all texts and exponents. No condition but what the calls lean on (L13).
  The walks of stage 13 in the form that the last texts take: arguments as they come in.
-/
import Derived.Test.YtojpfmlmalmlcaaGreatDoorShU13
import Derived.Test.YtojpfmlmalmlcaaGreatDoorRefT13
import Derived.Test.YtojpfmlmalmlcaaGreatDoorRefX12
import Derived.Deep.CutBlock
import Derived.Deep.DeepCutAuto
namespace Go.Proofs.YtojpfmlmalmlcaaGreatDoor
open Go.RowKit
open Go.Lib (decDigits itoa)

/-- A tenth's pattern. -/
def tenthP : Nat := 4591870180066957722
instance nearDec (A B p : Nat) : Decidable (NearIs A B p) := by unfold NearIs; infer_instance
theorem sh_tenth : ShAns tenthP [49] 0 :=
  ⟨⟨fun c hc => by rw [List.mem_singleton.1 hc]; exact ⟨by decide, by decide⟩, by decide, by decide, by decide⟩, 1074, 1, 1, by decide, by decide, by decide +kernel, by decide +kernel, fun j h1 h2 => by omega,
    .inl ⟨by decide +kernel, by decide +kernel, by decide +kernel⟩, by decide +kernel⟩
theorem dig_tenth {d : List UInt8} {x : Int} {ok : Bool} (h : DigAns tenthP d x ok) : d = [49] ∧ x = 0 ∧ ok = true := dig_one h (.inr ⟨by decide, sh_tenth, rfl⟩)
theorem text_tenth {t : List UInt8} (h : TextAns false tenthP t) : t = [48, 46, 49] := text_one h (.inr (.inr (.inr ⟨by decide, [49], 0, sh_tenth, by decide⟩)))
theorem text_minus {t : List UInt8} (h : TextAns true 0 t) : t = [45, 48] := text_one h (.inr (.inr (.inl ⟨by decide, by decide⟩)))

set_option maxHeartbeats 1000000 in
theorem awake_any (w : World) (hL : L13 w) : Calls Tryz.prog 8 #[] w fun e w' => e = .returned (.bool true) ∧ Below w.heap.size w w' := by
  have HL := Lib.hid hL
  have cD : Hid (∀ w, L13 w → Calls Tryz.prog 9 #[.int .u64 4591870180066957722] w fun e w' => e = .returned (.tuple #[.string ⟨#[49]⟩, .int .i64 0, .bool true]) ∧ Below w.heap.size w w') := fun w hL => by
    refine (digits_any false tenthP (by decide) w hL).mono ?_
    rintro e w' ⟨⟨d, x, ok, rfl, hd⟩, hb⟩
    obtain ⟨rfl, rfl, rfl⟩ := dig_tenth hd
    exact ⟨rfl, hb⟩
  have cT : Hid (∀ w, L13 w → Calls Tryz.prog 11 #[.int .u64 4591870180066957722] w fun e w' => e = .returned (.string ⟨#[48, 46, 49]⟩) ∧ Below w.heap.size w w') := fun w hL => by
    refine (text_any13 false tenthP (by decide) w hL).mono ?_
    rintro e w' ⟨⟨t, rfl, ht⟩, hb⟩
    obtain rfl := text_tenth ht
    exact ⟨rfl, hb⟩
  have cM : Hid (∀ w, L13 w → Calls Tryz.prog 11 #[.int .u64 9223372036854775808] w fun e w' => e = .returned (.string ⟨#[45, 48]⟩) ∧ Below w.heap.size w w') := fun w hL => by
    refine (text_any13 true 0 (by decide) w hL).mono ?_
    rintro e w' ⟨⟨t, rfl, ht⟩, hb⟩
    obtain rfl := text_minus ht
    exact ⟨rfl, hb⟩
  clear hL
  go_enter Tryz.func8, Tryz.ntmps8
  go_wp2_with fail
  refine (cD.out _ HL.out).mono ?_
  rintro r w1 ⟨rfl, hB1⟩
  have HB1 := Lib.hid hB1
  have HL1 := Lib.hid (HL.out.after hB1)
  clear hB1
  go_wp2_with fail
  refine (cT.out _ HL1.out).mono ?_
  rintro r w2 ⟨rfl, hB2⟩
  have HB2 : Hid (Below w.heap.size w w2) := HB1.out.trans (hB2.mono HB1.out.size)
  have HL2 := Lib.hid (HL1.out.after hB2)
  clear hB2
  go_wp2_with fail
  refine (cM.out _ HL2.out).mono ?_
  rintro r w3 ⟨rfl, hB3⟩
  have HB3 : Hid (Below w.heap.size w w3) := HB2.out.trans (hB3.mono HB2.out.size)
  clear hB3
  go_wp2_with fail
  go_ret
  exact ⟨rfl, HB3.out⟩
end Go.Proofs.YtojpfmlmalmlcaaGreatDoor

namespace Go.Proofs.YtojpfmlmalmlcaaGreatDoor
open Go.RowKit

theorem pat_arg {x : Int} (hx : 0 ≤ x ∧ x ≤ 18446744073709551615) : ∃ s r, r < 9223372036854775808 ∧ x = ((pat s r : Nat) : Int) := by
  obtain ⟨n, rfl⟩ : ∃ n : Nat, x = (n : Int) := ⟨x.toNat, by omega⟩
  obtain ⟨s, r, hr, rfl⟩ := pat_parts (x := n) (by omega)
  exact ⟨s, r, hr, rfl⟩

set_option maxHeartbeats 1000000 in
theorem digits13_walk (x : Int) (hx : 0 ≤ x ∧ x ≤ 18446744073709551615) (w : World) (hL : L13 w) :
    Calls Tryz.prog 3 #[.int .u64 x] w fun r w' => r = .returned (.bool true) ∧ Below w.heap.size w w' := by
  obtain ⟨s, r, hr, hxp⟩ := pat_arg hx
  have c1 := Lib.hid fun w hL => digits_any s r hr w hL
  have c2 := Lib.hid fun w => refDig_any s r hr w
  rw [← hxp] at c1 c2
  have cA := Lib.hid (awake_any w hL)
  have HL := Lib.hid hL
  clear hx hxp hr hL
  go_enter Tryz.func3, Tryz.ntmps3
  go_wp2_with fail
  refine cA.out.mono ?_
  rintro e w1 ⟨rfl, hB1⟩
  have HB1 := Lib.hid hB1
  have HL1 := Lib.hid (HL.out.after hB1)
  clear hB1 cA
  go_wp2_with fail
  refine (c1.out _ HL1.out).mono ?_
  rintro e w2 ⟨⟨d, y, ok, rfl, hd⟩, hB2⟩
  have HB2 : Hid (Below w.heap.size w w2) := HB1.out.trans (hB2.mono HB1.out.size)
  have HD := Lib.hid hd
  clear hB2 hd c1
  go_wp2_with fail
  refine (c2.out _).mono ?_
  rintro e w3 ⟨⟨d', y', ok', rfl, hd'⟩, hB3⟩
  have HB3 : Hid (Below w.heap.size w w3) := HB2.out.trans (hB3.mono HB2.out.size)
  obtain ⟨rfl, rfl, rfl⟩ := dig_one HD.out hd'
  clear hB3 hd' HD c2
  go_wp2_with fail
  go_ret
  exact ⟨by simp, HB3.out⟩

set_option maxHeartbeats 1000000 in
theorem texts13_walk (x : Int) (hx : 0 ≤ x ∧ x ≤ 18446744073709551615) (w : World) (hL : L13 w) :
    Calls Tryz.prog 4 #[.int .u64 x] w fun r w' => r = .returned (.bool true) ∧ Below w.heap.size w w' := by
  obtain ⟨s, r, hr, hxp⟩ := pat_arg hx
  have c1 := Lib.hid fun w hL => text_any13 s r hr w hL
  have c2 := Lib.hid fun w => refText_any s r hr w
  rw [← hxp] at c1 c2
  have cA := Lib.hid (awake_any w hL)
  have HL := Lib.hid hL
  clear hx hxp hr hL
  go_enter Tryz.func4, Tryz.ntmps4
  go_wp2_with fail
  refine cA.out.mono ?_
  rintro e w1 ⟨rfl, hB1⟩
  have HB1 := Lib.hid hB1
  have HL1 := Lib.hid (HL.out.after hB1)
  clear hB1 cA
  go_wp2_with fail
  refine (c1.out _ HL1.out).mono ?_
  rintro e w2 ⟨⟨t, rfl, ht⟩, hB2⟩
  have HB2 : Hid (Below w.heap.size w w2) := HB1.out.trans (hB2.mono HB1.out.size)
  have HT := Lib.hid ht
  clear hB2 ht c1
  go_wp2_with fail
  refine (c2.out _).mono ?_
  rintro e w3 ⟨⟨t', rfl, ht'⟩, hB3⟩
  have HB3 : Hid (Below w.heap.size w w3) := HB2.out.trans (hB3.mono HB2.out.size)
  obtain rfl := text_one HT.out ht'
  clear hB3 ht' HT c2
  go_wp2_with fail
  go_ret
  exact ⟨by simp, HB3.out⟩

theorem xor_top (s : Bool) (r : Nat) (hr : r < 9223372036854775808) : bits .xor .u64 ((pat s r : Nat) : Int) 9223372036854775808 = ((pat (!s) r : Nat) : Int) := by
  have h := bits_xor_u64_nat (pat s r) 9223372036854775808 (pat_lt hr) (by decide)
  have e : pat s r ^^^ 9223372036854775808 = pat (!s) r := by
    have hrr : r < 2 ^ 63 := by omega
    have key : ∀ q : Nat, q = 2 ^ 63 → r ^^^ q = q + r := by
      intro q hq
      subst hq
      apply Nat.eq_of_testBit_eq
      intro i
      rw [Nat.testBit_xor, Nat.testBit_two_pow]
      by_cases hi : 63 = i
      · subst hi
        simp only [Nat.testBit_two_pow_add_eq, Nat.testBit_lt_two_pow hrr, decide_true, Bool.not_false, Bool.false_xor]
      · rw [decide_eq_false hi, Bool.xor_false]
        rcases Nat.lt_or_ge i 63 with h | h
        · exact (Nat.testBit_two_pow_add_gt h r).symm
        · have h64 : 2 ^ 64 ≤ 2 ^ i := Nat.pow_le_pow_right (by decide) (by omega)
          rw [Nat.testBit_lt_two_pow (Nat.lt_of_lt_of_le (show r < 2 ^ 64 by omega) h64), Nat.testBit_lt_two_pow (Nat.lt_of_lt_of_le (show 2 ^ 63 + r < 2 ^ 64 by omega) h64)]
    have k := key 9223372036854775808 (by decide)
    cases s
    · exact k
    · show (9223372036854775808 + r) ^^^ 9223372036854775808 = r
      rw [← k, Nat.xor_assoc, Nat.xor_self, Nat.xor_zero]
  rw [e] at h
  exact h

theorem text_len {s : Bool} {r : Nat} {t : List UInt8} (h : TextAns s r t) : t.length ≤ 200 := by
  have key : ∀ b, b.length ≤ 100 → (shSign s b).length ≤ 200 := fun b hb => by have := sign_len s b; omega
  rcases h with ⟨_, rfl⟩ | ⟨h0, rfl⟩ | ⟨h0, rfl⟩ | ⟨h0, d, x, h1, rfl⟩
  · decide
  · exact key _ (by decide)
  · exact key _ (by decide)
  · exact key _ (size_len (.inr (.inr ⟨h0, d, x, h1, rfl⟩)))
set_option maxHeartbeats 2000000 in
theorem form13_walk (x : Int) (hx : 0 ≤ x ∧ x ≤ 18446744073709551615) (w : World) (hL : L13 w) :
    Calls Tryz.prog 7 #[.int .u64 x] w fun r w' => r = .returned (.bool true) ∧ Below w.heap.size w w' := by
  obtain ⟨s, r, hr, hxp⟩ := pat_arg hx
  have c1 := Lib.hid fun w hL => text_any13 s r hr w hL
  have c2 := Lib.hid fun w hL => text_any13 (!s) r hr w hL
  have c3 := Lib.hid fun w => refSplit_any s r hr w
  have hxor := xor_top s r hr
  rw [← hxp] at c1 c3 hxor
  obtain ⟨y, hy⟩ : ∃ y : Int, y = ((pat (!s) r : Nat) : Int) := ⟨_, rfl⟩
  rw [← hy] at c2 hxor
  have cA := Lib.hid (awake_any w hL)
  have HL := Lib.hid hL
  have hk : (kOf r = 4 ∧ (kOf r == 4) = true) ∨ (kOf r ≠ 4 ∧ (kOf r == 4) = false) := by
    by_cases h : kOf r = 4
    · exact .inl ⟨h, by simpa using h⟩
    · exact .inr ⟨h, by simpa using h⟩
  obtain ⟨v, hv⟩ : ∃ v : Int, v = kOf r := ⟨_, rfl⟩
  rw [← hv] at hk c3
  have HV := Lib.hid hv
  clear hx hxp hr hL hy hv
  rcases hk with ⟨h4, b1⟩ | ⟨h4, b1⟩
  all_goals
    have H4 := Lib.hid h4
    clear h4
  · go_enter Tryz.func7, Tryz.ntmps7
    go_wp2_with fail
    refine cA.out.mono ?_
    rintro e w1 ⟨rfl, hB1⟩
    have HB1 := Lib.hid hB1
    have HL1 := Lib.hid (HL.out.after hB1)
    clear hB1 cA
    go_wp2_with fail
    refine (c3.out _).mono ?_
    rintro e w5 ⟨rfl, hw5⟩; subst w5
    clear c3
    go_wp2_with fail
    refine (c1.out _ HL1.out).mono ?_
    rintro e w2 ⟨⟨t, rfl, ht⟩, hB2⟩
    have HB2 : Hid (Below w.heap.size w w2) := HB1.out.trans (hB2.mono HB1.out.size)
    have HL2 := Lib.hid (HL1.out.after hB2)
    have HT := Lib.hid ht
    clear hB2 ht c1
    go_wp2_with fail
    refine (c2.out _ HL2.out).mono ?_
    rintro e w3 ⟨⟨t', rfl, ht'⟩, hB3⟩
    have HB3 : Hid (Below w.heap.size w w3) := HB2.out.trans (hB3.mono HB2.out.size)
    obtain ⟨rfl, rfl⟩ := text_nan HT.out ht' (by rw [← HV.out]; exact H4.out)
    clear hB3 ht' HT c2
    unfold txNaN
    go_wp2_with fail
    go_ret
    exact ⟨rfl, HB3.out⟩
  · cases s with
    | true =>
      go_enter Tryz.func7, Tryz.ntmps7
      go_wp2_with fail
      refine cA.out.mono ?_
      rintro e w1 ⟨rfl, hB1⟩
      have HB1 := Lib.hid hB1
      have HL1 := Lib.hid (HL.out.after hB1)
      clear hB1 cA
      go_wp2_with fail
      refine (c3.out _).mono ?_
      rintro e w5 ⟨rfl, hw5⟩; subst w5
      clear c3
      go_wp2_with fail
      refine (c1.out _ HL1.out).mono ?_
      rintro e w2 ⟨⟨t, rfl, ht⟩, hB2⟩
      have HB2 : Hid (Below w.heap.size w w2) := HB1.out.trans (hB2.mono HB1.out.size)
      have HL2 := Lib.hid (HL1.out.after hB2)
      have HT := Lib.hid ht
      clear hB2 ht c1
      go_wp2_with fail
      refine (c2.out _ HL2.out).mono ?_
      rintro e w3 ⟨⟨t', rfl, ht'⟩, hB3⟩
      have HB3 : Hid (Below w.heap.size w w3) := HB2.out.trans (hB3.mono HB2.out.size)
      have hk4 : kOf r ≠ 4 := by rw [← HV.out]; exact H4.out
      have he := (text_form HT.out ht' hk4).1 rfl
      have hl := text_len ht'
      have k1 := dcat #[45] t'.toArray [45] t' rfl rfl (by simp; omega)
      rw [show [45] ++ t' = t from he.symm] at k1
      clear hB3 ht' HT c2 he hl hk4
      go_wp2_with fail
      go_ret
      exact ⟨by simp, HB3.out⟩
    | false =>
      go_enter Tryz.func7, Tryz.ntmps7
      go_wp2_with fail
      refine cA.out.mono ?_
      rintro e w1 ⟨rfl, hB1⟩
      have HB1 := Lib.hid hB1
      have HL1 := Lib.hid (HL.out.after hB1)
      clear hB1 cA
      go_wp2_with fail
      refine (c3.out _).mono ?_
      rintro e w5 ⟨rfl, hw5⟩; subst w5
      clear c3
      go_wp2_with fail
      refine (c1.out _ HL1.out).mono ?_
      rintro e w2 ⟨⟨t, rfl, ht⟩, hB2⟩
      have HB2 : Hid (Below w.heap.size w w2) := HB1.out.trans (hB2.mono HB1.out.size)
      have HL2 := Lib.hid (HL1.out.after hB2)
      have HT := Lib.hid ht
      clear hB2 ht c1
      go_wp2_with fail
      refine (c2.out _ HL2.out).mono ?_
      rintro e w3 ⟨⟨t', rfl, ht'⟩, hB3⟩
      have HB3 : Hid (Below w.heap.size w w3) := HB2.out.trans (hB3.mono HB2.out.size)
      have hk4 : kOf r ≠ 4 := by rw [← HV.out]; exact H4.out
      have he := (text_form HT.out ht' hk4).2 rfl
      have hl := text_len HT.out
      have k1 := dcat #[45] t.toArray [45] t rfl rfl (by simp; omega)
      rw [show [45] ++ t = t' from he.symm] at k1
      clear hB3 ht' HT c2 he hl hk4
      go_wp2_with fail
      go_ret
      exact ⟨by simp, HB3.out⟩

set_option maxHeartbeats 2000000 in
theorem back13_walk (x : Int) (hx : 0 ≤ x ∧ x ≤ 18446744073709551615) (w : World) (hL : L13 w) :
    Calls Tryz.prog 5 #[.int .u64 x] w fun r w' => r = .returned (.bool true) ∧ Below w.heap.size w w' := by
  obtain ⟨s, r, hr, hxp⟩ := pat_arg hx
  have c1 := Lib.hid fun w hL => text_any13 s r hr w hL
  have c3 := Lib.hid fun w => refSplit_any s r hr w
  rw [← hxp] at c1 c3
  have HXP := Lib.hid hxp
  have cA := Lib.hid (awake_any w hL)
  have HL := Lib.hid hL
  obtain ⟨v, hv⟩ : ∃ v : Int, v = kOf r := ⟨_, rfl⟩
  rw [← hv] at c3
  have HV := Lib.hid hv
  clear hx hxp hr hL hv
  go_enter Tryz.func5, Tryz.ntmps5
  go_wp2_with fail
  refine cA.out.mono ?_
  rintro e w1 ⟨rfl, hB1⟩
  have HB1 := Lib.hid hB1
  have HL1 := Lib.hid (HL.out.after hB1)
  clear hB1 cA
  go_wp2_with fail
  refine (c1.out _ HL1.out).mono ?_
  rintro e w2 ⟨⟨t, rfl, ht⟩, hB2⟩
  have HB2 : Hid (Below w.heap.size w w2) := HB1.out.trans (hB2.mono HB1.out.size)
  have HL2 := Lib.hid (HL1.out.after hB2)
  have HT := Lib.hid ht
  have hl := text_len ht
  have cP := Lib.hid (parse_ans t w2 (by omega) HL2.out.low (Lib.hid fun w => refLexeme_any t (by omega) w))
  have cX := Lib.hid fun w => refLexeme_any t (by omega) w
  rw [lexD_eq] at cX
  clear hB2 ht c1 hl
  go_wp2_with fail
  refine (c3.out _).mono ?_
  rintro e w5 ⟨rfl, hw5⟩; subst w5
  clear c3
  go_wp2_with fail
  refine cP.out.mono ?_
  rintro e w3 ⟨⟨a, er, rfl, hp⟩, hB3⟩
  have HB3 : Hid (Below w.heap.size w w3) := HB2.out.trans (hB3.mono HB2.out.size)
  have hall := back_all HT.out hp
  rw [← HV.out] at hall
  clear hB3 hp cP HT
  rcases hall with ⟨h2, rfl, rfl⟩ | ⟨h2, rfl, rfl, h3, h4⟩
  · have b1 : decide (2 < v) = true := decide_eq_true h2
    clear h2 cX
    go_wp2_with fail
    go_ret
    exact ⟨rfl, HB3.out⟩
  · have b1 : decide (2 < v) = false := decide_eq_false h2
    have b2 : (((pat s r : Nat) : Int) == x) = true := by rw [HXP.out]; simp
    have b3 : (((lexP t : Nat) : Int) != 0) = true := by simp; omega
    have b3n : ((lexP t : Nat) != 0) = true := by simp; omega
    have b4 : decide ((t.length : Int) ≤ 25) = true := by simp; omega
    obtain ⟨p, hp⟩ : ∃ p : Int, p = ((pat s r : Nat) : Int) := ⟨_, rfl⟩
    rw [← hp] at b2 ⊢
    have HNZ := Lib.hid h3; have H25 := Lib.hid h4
    generalize lexP t = q at *
    have hq0 : ¬ ((q : Int) == 0) = true := by simp; omega
    clear h2 hp h3 h4
    go_wp2_with fail
    refine (cX.out _).mono ?_
    rintro e w4 ⟨rfl, hB4⟩
    have HB4 : Hid (Below w.heap.size w w4) := HB3.out.trans (hB4.mono HB3.out.size)
    clear hB4
    go_wp2_with fail
    go_ret
    exact ⟨by first | rfl | (have := H25.out; simp; done) | (have := H25.out; have := HNZ.out; simp; omega), HB4.out⟩
end Go.Proofs.YtojpfmlmalmlcaaGreatDoor

namespace Go.Proofs.YtojpfmlmalmlcaaGreatDoor
open Go.RowKit

theorem rdp_lt {ds : List UInt8} {x : Int} {a : Nat} {b : Bool} (h : ReadAns ds x a b) : a ≤ 9218868437227405311 ∧ (b = false → a = 0) ∧ (b = true → Dgs ds ∧ NearIs (dA ds x) (dB ds x) a) := by
  rcases h with ⟨_, rfl, rfl⟩ | ⟨hg, p, hp, rfl, rfl⟩
  · exact ⟨by decide, fun _ => rfl, fun h => by cases h⟩
  · have hle := hp.1
    unfold rdP rdB
    by_cases c : p = 9218868437227405312
    · rw [if_pos c]
      exact ⟨by decide, fun _ => rfl, fun h => by simp [c] at h⟩
    · rw [if_neg c]
      exact ⟨by omega, fun h => by simp [c] at h, fun _ => ⟨hg.2.2, hp⟩⟩
/-- What is read of a pattern's own digits is the pattern. -/
theorem read_back {r a : Nat} {b : Bool} {d : List UInt8} {x : Int} (h0 : r ≠ 0) (hr : r ≤ 9218868437227405311) (hs : ShAns r d x) (h : ReadAns d x a b) : a = r ∧ b = true := by
  have hn := sh_near hs
  have hl := (sh_len h0 hr hs).1
  have h1 : 1 ≤ d.length := by have := List.length_pos_iff.2 hs.1.any; omega
  rcases h with ⟨hg, _⟩ | ⟨_, p, hp, rfl, rfl⟩
  · exact absurd ⟨h1, by omega, hs.1.dgs⟩ hg
  · cases near_one (dB_pos _ _) hp hn
    unfold rdP rdB
    rw [if_neg (by omega)]
    exact ⟨rfl, by simp; omega⟩

set_option maxHeartbeats 4000000 in
theorem least13_any (l : List UInt8) (x : Int) (hx : -9223372036854775808 ≤ x ∧ x ≤ 9223372036854775807) (w : World) (hL : L13 w) :
    Calls Tryz.prog 6 #[.string ⟨l.toArray⟩, .int .i64 x] w fun r w' => r = .returned (.bool true) ∧ Below w.heap.size w w' := by
  have cA := Lib.hid (awake_any w hL)
  have HL := Lib.hid hL
  by_cases hl : 300 < l.length
  · have d1 : decide (300 < (l.length : Int)) = true := by simp; omega
    have d1n : decide (300 < l.length) = true := decide_eq_true hl
    clear hl hL hx
    go_enter Tryz.func6, Tryz.ntmps6
    go_wp2_with fail
    refine cA.out.mono ?_
    rintro e w1 ⟨rfl, hB1⟩
    have HB1 := Lib.hid hB1
    clear hB1
    go_wp2_with fail
    go_ret
    exact ⟨rfl, HB1.out⟩
  · have d1 : decide (300 < (l.length : Int)) = false := by simp; omega
    have d1n : decide (300 < l.length) = false := decide_eq_false hl
    have HLE : Hid (l.length ≤ 300) := show _ ≤ _ by omega
    have cR := Lib.hid fun w hL => read_ans l x w hx (by have := HLE.out; omega) hL
    clear hl hL hx
    go_enter Tryz.func6, Tryz.ntmps6
    go_wp2_with fail
    refine cA.out.mono ?_
    rintro e w1 ⟨rfl, hB1⟩
    have HB1 := Lib.hid hB1
    have HL1 := Lib.hid (HL.out.after hB1)
    clear hB1 cA
    go_wp2_with fail
    refine (cR.out _ HL1.out.low).mono ?_
    rintro e w2 ⟨⟨a, b, rfl, hR⟩, hB2⟩
    have HB2 : Hid (Below w.heap.size w w2) := HB1.out.trans (hB2.mono HB1.out.size)
    have HL2 := Lib.hid (HL1.out.after hB2)
    obtain ⟨ha, hf, ht⟩ := rdp_lt hR
    have cD := Lib.hid fun w hL => digits_any false a (by omega) w hL
    rw [show pat false a = a from rfl] at cD
    have HA := Lib.hid ha; have HF := Lib.hid hf; have HT := Lib.hid ht
    clear hB2 hR ha hf ht cR
    go_wp2_with fail
    refine (cD.out _ HL2.out).mono ?_
    rintro e w3 ⟨⟨d, y, is, rfl, hd⟩, hB3⟩
    have HB3 : Hid (Below w.heap.size w w3) := HB2.out.trans (hB3.mono HB2.out.size)
    have HL3 := Lib.hid (HL2.out.after hB3)
    have HD := Lib.hid hd
    clear hB3 hd cD
    cases b with
    | false =>
      have his : is = false := by
        have h0 := HF.out rfl
        rcases HD.out with ⟨_, _, _, h⟩ | ⟨h, _⟩
        · exact h
        · rw [h0] at h; exact absurd h (by decide)
      subst his
      go_wp2_with fail
      go_ret
      exact ⟨rfl, HB3.out⟩
    | true =>
      by_cases h0 : a = 0
      · have b1 : ((a : Int) == 0) = true := by simp; omega
        clear h0
        cases is
        · go_wp2_with fail
          go_ret
          exact ⟨rfl, HB3.out⟩
        · go_wp2_with fail
          go_ret
          exact ⟨rfl, HB3.out⟩
      · have b1 : ((a : Int) == 0) = false := by simp; omega
        have h2 : kOf a = 2 := by unfold kOf; rw [if_neg h0, if_pos (by have := HA.out; omega)]
        obtain ⟨hs, his⟩ : ShAns a d y ∧ is = true := by
          rcases HD.out with ⟨h, _⟩ | ⟨_, h, h'⟩
          · exact absurd h2 h
          · exact ⟨h, h'⟩
        subst his
        have hlen := (sh_len h0 HA.out hs).1
        have hexp := sh_exp h0 HA.out hs
        have cQ := Lib.hid (read_ans d y w3 (by omega) (by omega) HL3.out.low)
        have HS := Lib.hid hs; have H0 := Lib.hid h0
        clear hs h0 h2 hlen hexp HD
        go_upto_block 0 with fail
        go_cut [0] (fun v wx => wx = w3 ∧ ∃ (k : Nat) (m : List UInt8), v = .string ⟨m.toArray⟩ ∧ l = List.replicate k 48 ++ m ∧ (m = [] ∨ m.getD 0 0 ≠ 48))
        case first =>
          go_wp2_with fail
          go_loopw [0] (fun v wx => wx = w3 ∧ ∃ (k : Nat) (m : List UInt8), v = .string ⟨m.toArray⟩ ∧ l = List.replicate k 48 ++ m) (fun v _ => strLen12 v)
          case atStart => exact ⟨rfl, 0, l, rfl, by simp⟩
          case round =>
            obtain ⟨rfl, k, m, rfl, hm⟩ := hrel
            cases m with
            | nil =>
              have HM := Lib.hid hm
              clear hm
              go_wp2_with fail
              go_meet
              exact ⟨rfl, k, [], rfl, HM.out, .inl rfl⟩
            | cons c m =>
              have b2 : decide ((0 : Int) < ((c :: m).length : Int)) = true := by simp
              have q2 := at_s12 (c :: m) 0 0 rfl (by simp)
              have q3 := from_s12 (c :: m) 1 1 rfl (by simp)
              rw [show (c :: m).getD 0 0 = c by simp] at q2
              rw [show (c :: m).drop 1 = m from rfl] at q3
              have b2n : (0 : Int) < ((c :: m).length : Int) := by simp
              have b2m : 0 < (c :: m).length := by simp
              have HLS : Hid (strLen12 (.string ⟨m.toArray⟩) < strLen12 (.string ⟨(c :: m).toArray⟩)) := show _ < _ from str_less (by simp)
              have HC : Hid (c ≠ 48 → (c :: m).getD 0 0 ≠ 48) := show c ≠ 48 → _ from fun h => by simpa using h
              have HM := Lib.hid hm
              have HM2 : Hid (c = 48 → l = List.replicate (k + 1) 48 ++ m) := show c = 48 → _ from fun h => by
                rw [hm, h, List.replicate_succ', List.append_assoc]; rfl
              clear hm
              generalize hz : c :: m = z at *
              clear hz
              by_cases hc : c = 48
              · have b3 : ((c.toNat : Int) == 48) = true := by rw [hc]; rfl
                have HM3 := Lib.hid (HM2.out hc)
                clear hc HM2
                go_wp2_with fail
                go_roundw
                case rel => exact ⟨trivial, k + 1, m, rfl, HM3.out⟩
                case measure => exact HLS.out
              · have b3 : ((c.toNat : Int) == 48) = false := by
                  simp only [beq_eq_false_iff_ne]
                  exact fun e => hc (UInt8.toNat_inj.1 (by show c.toNat = 48; omega))
                have HC2 := Lib.hid (HC.out hc)
                clear hc HC HM2
                go_wp2_with fail
                go_meet
                exact ⟨rfl, k, z, rfl, HM.out, .inr HC2.out⟩
        case rest =>
          obtain ⟨rfl, k, m, rfl, hm, hmf⟩ := hcut
          have HM := Lib.hid hm; have HMF := Lib.hid hmf
          have hmb : m.length ≤ 300 := by
            have := congrArg List.length hm
            rw [List.length_append] at this
            have := HLE.out
            omega
          have HMB := Lib.hid hmb
          clear hm hmf hmb
          go_upto_block 2 with fail
          go_cut [0] (fun v wx => wx = wc ∧ ∃ (j : Nat) (z : List UInt8), v = .string ⟨z.toArray⟩ ∧ m = z ++ List.replicate j 48)
          case first =>
            go_wp2_with fail
            go_loopw [0] (fun v wx => wx = wc ∧ ∃ (j : Nat) (z : List UInt8), v = .string ⟨z.toArray⟩ ∧ m = z ++ List.replicate j 48) (fun v _ => strLen12 v)
            case atStart => exact ⟨rfl, 0, m, rfl, by simp⟩
            case round =>
              obtain ⟨rfl, j, z, rfl, hz⟩ := hrel
              have hzl : z.length ≤ 300 := by
                have := congrArg List.length hz
                rw [List.length_append] at this
                have := HMB.out
                omega
              rcases List.eq_nil_or_concat z with he | ⟨a0, c, he⟩
              · subst he
                have HZ := Lib.hid hz
                clear hz hzl
                go_wp2_with fail
                go_meet
                exact ⟨rfl, j, [], rfl, HZ.out⟩
              · rw [List.concat_eq_append] at he
                have hll : z.length = a0.length + 1 := by rw [he]; simp
                have hg : z.getD a0.length 0 = c := by rw [he]; simp
                have htk : z.take a0.length = a0 := by rw [he]; simp
                have b2 : decide ((0 : Int) < (z.length : Int)) = true := by simp; omega
                have b2n : decide (0 < z.length) = true := by simp; omega
                have q1 : wrap64 ((z.length : Int) - 1) = (a0.length : Int) := by unfold wrap64; omega
                have q2 := at_s12 z (a0.length : Int) a0.length rfl (by omega)
                rw [hg] at q2
                have q3 := upto_s12 z a0.length (by omega)
                rw [htk] at q3
                have HLT : Hid (a0.length < z.length) := show _ < _ by omega
                by_cases hc : c = 48
                · have HAI : Hid (m = a0 ++ List.replicate (j + 1) 48) := show _ = _ by
                    rw [hz, he, hc, List.replicate_succ]; simp
                  have b3 : ((c.toNat : Int) == 48) = true := by rw [hc]; rfl
                  clear he hll hg htk hc hz hzl
                  go_wp2_with fail
                  go_roundw
                  case rel => exact ⟨trivial, j + 1, a0, rfl, HAI.out⟩
                  case measure => simpa [strLen12, ByteArray.size] using HLT.out
                · have b3 : ((c.toNat : Int) == 48) = false := by
                    simp only [beq_eq_false_iff_ne]
                    exact fun e => hc (UInt8.toNat_inj.1 (by show c.toNat = 48; omega))
                  have HZ := Lib.hid hz
                  clear he hll hg htk hc hz hzl
                  go_wp2_with fail
                  go_meet
                  exact ⟨rfl, j, z, rfl, HZ.out⟩
          case rest =>
            obtain ⟨hwc, j, z, rfl, hz⟩ := hcut
            subst hwc
            obtain ⟨ld, ln⟩ := HT.out trivial
            have hmin := least_all H0.out HA.out ld ln HS.out HM.out HMF.out hz
            have b2 : decide ((d.length : Int) ≤ (z.length : Int)) = true := by simp; omega
            have b2n : decide (d.length ≤ z.length) = true := by simp; omega
            clear hz ld ln hmin
            go_wp2_with fail
            refine cQ.out.mono ?_
            rintro e w5 ⟨⟨q, on, rfl, hq⟩, hB5⟩
            have HB5 : Hid (Below w.heap.size w w5) := HB3.out.trans (hB5.mono HB3.out.size)
            obtain ⟨rfl, rfl⟩ := read_back H0.out HA.out HS.out hq
            clear hq hB5 cQ
            go_wp2_with fail
            go_ret
            exact ⟨by simp, HB5.out⟩
end Go.Proofs.YtojpfmlmalmlcaaGreatDoor

namespace Go.Proofs.YtojpfmlmalmlcaaGreatDoor
open Go.RowKit

theorem str_list13 (a : ByteArray) : a = ⟨a.data.toList.toArray⟩ := by cases a; simp
theorem least13_walk (a : ByteArray) (x : Int) (w : World) (hx : -9223372036854775808 ≤ x ∧ x ≤ 9223372036854775807) (hL : L13 w) :
    Calls Tryz.prog 6 #[.string a, .int .i64 x] w fun r w' => r = .returned (.bool true) ∧ Below w.heap.size w w' := by
  rw [str_list13 a]
  exact least13_any _ x hx w hL
end Go.Proofs.YtojpfmlmalmlcaaGreatDoor
