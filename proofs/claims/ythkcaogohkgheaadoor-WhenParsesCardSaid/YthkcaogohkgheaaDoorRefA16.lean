/-
  What the document's leap, days, pad and number do (chapter 16); no condition but bounds.
-/
import Derived.Test.YthkcaogohkgheaaDoorRefL16
import Derived.Test.YthkcaogohkgheaaDoorWhenText
import Derived.Laws.Concat
import Derived.Lib.Hide
namespace Go.Proofs.YthkcaogohkgheaaDoor
set_option maxRecDepth 100000
open Go.RowKit
open Go.Lib (decDigits itoa)

theorem tmod_nat (a b : Nat) : (a : Int).tmod (b : Int) = ((a % b : Nat) : Int) := rfl
set_option maxHeartbeats 1000000 in
theorem refLeap_any (y : Nat) (hy : y ≤ 1000000) (w : World) :
    Calls Tryd.prog 16 #[.int .i64 (y : Int)] w fun e w' => e = .returned (.bool (leapB y)) ∧ w' = w := by
  obtain ⟨r, hr⟩ : ∃ r, r = leapB y := ⟨_, rfl⟩
  rw [← hr]
  obtain ⟨b4, h4⟩ : ∃ b, b = decide (y % 4 = 0) := ⟨_, rfl⟩
  obtain ⟨b100, h100⟩ : ∃ b, b = decide (y % 100 = 0) := ⟨_, rfl⟩
  obtain ⟨b400, h400⟩ : ∃ b, b = decide (y % 400 = 0) := ⟨_, rfl⟩
  have HR : Hid (r = (b4 && (!b100 || b400))) := show _ = _ by
    rw [hr, h4, h100, h400]
    unfold leapB
    by_cases q : y % 4 = 0 <;> by_cases p : y % 100 = 0 <;> by_cases o : y % 400 = 0 <;> simp [q, p, o]
  obtain ⟨m4, g4⟩ : ∃ m : Int, m = (y : Int).tmod 4 := ⟨_, rfl⟩
  obtain ⟨m100, g100⟩ : ∃ m : Int, m = (y : Int).tmod 100 := ⟨_, rfl⟩
  obtain ⟨m400, g400⟩ : ∃ m : Int, m = (y : Int).tmod 400 := ⟨_, rfl⟩
  have t4 : (y : Int).tmod 4 = m4 := g4.symm
  have t100 : (y : Int).tmod 100 = m100 := g100.symm
  have t400 : (y : Int).tmod 400 = m400 := g400.symm
  have u4 : (y : Int) % 4 = m4 := by rw [g4, Int.tmod_eq_emod_of_nonneg (by omega)]
  have u100 : (y : Int) % 100 = m100 := by rw [g100, Int.tmod_eq_emod_of_nonneg (by omega)]
  have u400 : (y : Int) % 400 = m400 := by rw [g400, Int.tmod_eq_emod_of_nonneg (by omega)]
  have e4 : (m4 == 0) = b4 := by rw [h4, Bool.eq_iff_iff, beq_iff_eq, decide_eq_true_iff]; omega
  have e100 : (m100 == 0) = b100 := by rw [h100, Bool.eq_iff_iff, beq_iff_eq, decide_eq_true_iff]; omega
  have e400 : (m400 == 0) = b400 := by rw [h400, Bool.eq_iff_iff, beq_iff_eq, decide_eq_true_iff]; omega
  have n100 : (m100 != 0) = !b100 := by rw [bne, e100]
  have w4 : wrap64 m4 = m4 := by unfold wrap64; omega
  have w100 : wrap64 m100 = m100 := by unfold wrap64; omega
  have w400 : wrap64 m400 = m400 := by unfold wrap64; omega
  clear hr h4 h100 h400 g4 g100 g400
  cases b4 <;> cases b100 <;> cases b400
  all_goals (
    go_enter Tryd.func16, Tryd.ntmps16
    go_wp2_with fail
    go_ret
    exact ⟨by rw [HR.out]; rfl, rfl⟩)

set_option maxHeartbeats 2000000 in
theorem refDays_any (y m : Nat) (hy : y ≤ 1000000) (hm : m ≤ 1000000) (w : World) :
    Calls Tryd.prog 17 #[.int .i64 (y : Int), .int .i64 (m : Int)] w fun e w' => e = .returned (.int .i64 ((mdy y m : Nat) : Int)) ∧ w' = w := by
  have cL := Lib.hid fun w => refLeap_any y hy w
  obtain ⟨r, hr⟩ : ∃ r, r = mdy y m := ⟨_, rfl⟩
  rw [← hr]
  by_cases h2 : m = 2
  · subst h2
    cases hl : leapB y with
    | true =>
      have HR : Hid (r = 29) := show _ = _ by rw [hr]; unfold mdy; rw [if_pos rfl, if_pos hl]
      rw [hl] at cL
      clear hr hl
      go_enter Tryd.func17, Tryd.ntmps17
      go_wp2_with fail
      refine (cL.out _).mono ?_
      rintro e w5 ⟨rfl, hw⟩; subst w5
      go_wp2_with fail
      go_ret
      exact ⟨by rw [HR.out]; rfl, rfl⟩
    | false =>
      have HR : Hid (r = 28) := show _ = _ by rw [hr]; unfold mdy; rw [if_pos rfl, if_neg (by rw [hl]; decide)]
      rw [hl] at cL
      clear hr hl
      go_enter Tryd.func17, Tryd.ntmps17
      go_wp2_with fail
      refine (cL.out _).mono ?_
      rintro e w5 ⟨rfl, hw⟩; subst w5
      go_wp2_with fail
      go_ret
      exact ⟨by rw [HR.out]; rfl, rfl⟩
  · have n2 : ((m : Int) == 2) = false := beq_eq_false_iff_ne.2 (by omega)
    by_cases h4 : m = 4 ∨ m = 6 ∨ m = 9 ∨ m = 11
    · have HR : Hid (r = 30) := show _ = _ by rw [hr]; unfold mdy; rw [if_neg h2, if_pos h4]
      clear hr h2 n2
      rcases h4 with rfl | rfl | rfl | rfl
      all_goals (
        go_enter Tryd.func17, Tryd.ntmps17
        go_wp2_with fail
        go_ret
        exact ⟨by rw [HR.out]; rfl, rfl⟩)
    · have HR : Hid (r = 31) := show _ = _ by rw [hr]; unfold mdy; rw [if_neg h2, if_neg h4]
      have n4 : ((m : Int) == 4) = false := beq_eq_false_iff_ne.2 (by omega)
      have n6 : ((m : Int) == 6) = false := beq_eq_false_iff_ne.2 (by omega)
      have n9 : ((m : Int) == 9) = false := beq_eq_false_iff_ne.2 (by omega)
      have n11 : ((m : Int) == 11) = false := beq_eq_false_iff_ne.2 (by omega)
      clear hr h2 h4
      go_enter Tryd.func17, Tryd.ntmps17
      go_wp2_with fail
      go_ret
      exact ⟨by rw [HR.out]; rfl, rfl⟩

/-! ### Digits -/
theorem wcat (a b : Array UInt8) (u v : List UInt8) (ha : a = u.toArray) (hb : b = v.toArray) (h : u.length + v.length ≤ 1000000000) (w : World) :
    (Op.stringOp .add ⟨a⟩ ⟨b⟩).run Tryd.prog w = .ok (.string ⟨(u ++ v).toArray⟩) w := by
  subst ha
  subst hb
  rw [run_string_add_sum w ⟨u.toArray⟩ ⟨v.toArray⟩ (by simp [ByteArray.size]; omega), cat_str]
theorem wcat_is {a b : Array UInt8} {u v t : List UInt8} (ha : a = u.toArray) (hb : b = v.toArray) (ht : u ++ v = t) (h : u.length + v.length ≤ 1000000000) (w : World) :
    (Op.stringOp .add ⟨a⟩ ⟨b⟩).run Tryd.prog w = .ok (.string ⟨t.toArray⟩) w := by
  rw [← ht]; exact wcat a b u v ha hb h w
/-- A number's digits, with noughts ahead. -/
def padL (v n : Nat) : List UInt8 := List.replicate (n - (decDigits v).length) 48 ++ decDigits v
def sLen16 : Value → Nat
  | .string b => b.size
  | _ => 0
theorem wlen (l : List UInt8) : sLen16 (.string ⟨l.toArray⟩) = l.length := by simp [sLen16, ByteArray.size]
set_option maxHeartbeats 2000000 in
theorem refPad_any (v n : Nat) (hv : v ≤ 1000000) (hn : n ≤ 100) (w : World) :
    Calls Tryd.prog 18 #[.int .i64 (v : Int), .int .i64 (n : Int)] w fun e w' => e = .returned (.string ⟨(padL v n).toArray⟩) ∧ Below w.heap.size w w' := by
  have cD := Lib.hid fun w => refDigits_any v (by unfold most64; omega) w
  have hdl : (decDigits v).length ≤ 20 := dec_length (by omega)
  obtain ⟨d, hd⟩ : ∃ d, d = decDigits v := ⟨_, rfl⟩
  obtain ⟨T, hT⟩ : ∃ T, T = padL v n := ⟨_, rfl⟩
  have HT : Hid (T = List.replicate (n - d.length) 48 ++ d) := show _ = _ by rw [hT, hd]; rfl
  rw [← hT]
  rw [← hd] at cD hdl
  have e1 : IntKind.u64.wrap (v : Int) = (v : Int) := by rw [IntKind.wrap_u64]; omega
  have HL : Hid (d.length ≤ 20 ∧ n ≤ 100) := ⟨hdl, hn⟩
  clear hd hT hdl hn hv
  go_enter Tryd.func18, Tryd.ntmps18
  go_wp2_with fail
  refine (cD.out _).mono ?_
  rintro e w1 ⟨rfl, B1⟩
  have HB := Lib.hid B1
  clear B1 cD e1
  go_wp2_with fail
  go_loopw [5] (fun s wr => wr = w1 ∧ ∃ k : Nat, k ≤ n - d.length ∧ s = .string ⟨(List.replicate k 48 ++ d).toArray⟩) (fun s _ => n - sLen16 s)
  case atStart => exact ⟨rfl, 0, Nat.zero_le _, rfl⟩
  case round =>
    obtain ⟨rfl, k, hk, rfl⟩ := hrel
    have hl := HL.out
    have hlen : (List.replicate k (48 : UInt8) ++ d).length = k + d.length := by rw [List.length_append, List.length_replicate]
    by_cases hlt : k + d.length < n
    · have d1 : decide (((List.replicate k (48 : UInt8) ++ d).length : Int) < (n : Int)) = true := decide_eq_true (by rw [hlen]; omega)
      have d1n : decide ((List.replicate k (48 : UInt8) ++ d).length < n) = true := decide_eq_true (by rw [hlen]; omega)
      have kk := wcat_is (a := #[48]) (b := (List.replicate k (48 : UInt8) ++ d).toArray) (u := [48]) (t := List.replicate (k + 1) 48 ++ d) rfl rfl (by rw [List.replicate_succ]; rfl) (by rw [hlen, List.length_singleton]; omega)
      have HK : Hid (k + 1 ≤ n - d.length) := show _ ≤ _ by omega
      have HM : Hid (n - (List.replicate (k + 1) (48 : UInt8) ++ d).length < n - (List.replicate k (48 : UInt8) ++ d).length) := show _ < _ by rw [hlen, List.length_append, List.length_replicate]; omega
      clear hlen hk hlt hl
      generalize List.replicate k (48 : UInt8) ++ d = z0 at *
      generalize hz1 : List.replicate (k + 1) (48 : UInt8) ++ d = z1 at *
      have HZ := Lib.hid hz1
      clear hz1
      go_wp2_with fail
      go_roundw
      case rel => exact ⟨trivial, k + 1, HK.out, by rw [HZ.out]⟩
      case measure => rw [wlen, wlen]; exact HM.out
    · have hkn : k = n - d.length := by omega
      have d1 : decide (((List.replicate k (48 : UInt8) ++ d).length : Int) < (n : Int)) = false := decide_eq_false (by rw [hlen]; omega)
      have d1n : decide ((List.replicate k (48 : UInt8) ++ d).length < n) = false := decide_eq_false (by rw [hlen]; omega)
      have HT2 : Hid (T = List.replicate k 48 ++ d) := show _ = _ by rw [HT.out, hkn]
      clear hlen hk hlt hl hkn HT
      generalize List.replicate k (48 : UInt8) ++ d = z0 at *
      go_wp2_with fail
      go_ret
      exact ⟨by rw [HT2.out]; rfl, HB.out⟩
theorem dd_step {v : Nat} (h : ¬ v < 10) : decDigits v = decDigits (v / 10) ++ [UInt8.ofNat (48 + v % 10)] := by rw [decDigits, dif_neg h]
theorem dd_one {v : Nat} (h : v < 10) : decDigits v = [UInt8.ofNat (48 + v % 10)] := by
  rw [decDigits, dif_pos h, Nat.mod_eq_of_lt h]
theorem pad_two {v : Nat} (h : v < 100) : padL v 2 = d2 v := by
  unfold padL d2 dg
  by_cases h1 : v < 10
  · rw [dd_one h1, show v / 10 = 0 by omega]; rfl
  · rw [dd_step h1, dd_one (show v / 10 < 10 by omega)]; rfl
theorem pad_three {v : Nat} (h : v < 1000) : padL v 3 = d3 v := by
  unfold padL d3 dg
  by_cases h1 : v < 10
  · rw [dd_one h1, show v / 10 = 0 by omega, show v / 100 = 0 by omega]; rfl
  · by_cases h2 : v < 100
    · rw [dd_step h1, dd_one (show v / 10 < 10 by omega), show v / 100 = 0 by omega]; rfl
    · rw [dd_step h1, dd_step (show ¬ v / 10 < 10 by omega), Nat.div_div_eq_div_mul, dd_one (show v / (10 * 10) < 10 by omega)]; rfl
theorem pad_four {v : Nat} (h0 : 1000 ≤ v) (h : v < 10000) : padL v 4 = d4 v := by
  unfold padL d4 dg
  rw [dd_step (show ¬ v < 10 by omega), dd_step (show ¬ v / 10 < 10 by omega), Nat.div_div_eq_div_mul, dd_step (show ¬ v / (10 * 10) < 10 by omega), Nat.div_div_eq_div_mul, dd_one (show v / (10 * 10 * 10) < 10 by omega)]
  rfl

/-! ### A number read -/
theorem val_step {s : List UInt8} {k : Nat} (h : k < s.length) : valW (s.take (k + 1)) = valW (s.take k) * 10 + ((s.getD k 0).toNat - 48) := by
  unfold valW
  rw [show s.take (k + 1) = s.take k ++ [s.getD k 0] by rw [List.take_add_one]; simp [List.getD, h], List.foldl_append]
  rfl
theorem val_from : ∀ (l : List UInt8) (v : Nat), l.all dig = true → l.foldl (fun v c => v * 10 + (c.toNat - 48)) v + 1 ≤ (v + 1) * 10 ^ l.length := by
  intro l
  induction l with
  | nil => intro v _; simp
  | cons c l ih =>
    intro v h
    rw [List.all_cons, Bool.and_eq_true] at h
    obtain ⟨h1, h2⟩ := h
    simp only [dig, decide_eq_true_eq] at h1
    rw [List.foldl_cons, List.length_cons, Nat.pow_succ, Nat.mul_comm (10 ^ l.length) 10, ← Nat.mul_assoc]
    exact Nat.le_trans (ih _ h2) (Nat.mul_le_mul_right _ (by omega))
theorem val_lt (l : List UInt8) (h : l.all dig = true) : valW l < 10 ^ l.length := by
  have := val_from l 0 h
  unfold valW
  omega
theorem all_step {s : List UInt8} {k : Nat} (h : k < s.length) : (s.take (k + 1)).all dig = ((s.take k).all dig && dig (s.getD k 0)) := by
  rw [show s.take (k + 1) = s.take k ++ [s.getD k 0] by rw [List.take_add_one]; simp [List.getD, h], List.all_append]
  simp
theorem all_bad {s : List UInt8} {k : Nat} (h : k < s.length) (hb : dig (s.getD k 0) = false) : s.all dig = false := by
  cases e : s.all dig with
  | false => rfl
  | true =>
    rw [List.all_eq_true] at e
    have := e (s.getD k 0) (by
      have g : s.getD k 0 = s[k] := by simp [List.getD, h]
      rw [g]; exact List.getElem_mem h)
    rw [hb] at this; cases this
set_option maxHeartbeats 2000000 in
theorem refNumber_any16 (s : List UInt8) (hs : s.length ≤ 10) (w : World) :
    Calls Tryd.prog 23 #[.string ⟨s.toArray⟩] w fun e w' => e = .returned (.int .i64 (numW s)) ∧ w' = w := by
  obtain ⟨T, hT⟩ : ∃ T, T = numW s := ⟨_, rfl⟩
  rw [← hT]
  have HT := Lib.hid hT
  obtain ⟨N, hN⟩ : ∃ N, N = s.length := ⟨_, rfl⟩
  have HN := Lib.hid hN
  have HNb : Hid (N ≤ 10) := show _ ≤ _ by rw [hN]; exact hs
  clear hT hN hs
  go_enter Tryd.func23, Tryd.ntmps23
  go_wp2_with fail
  go_loopw [3, 4] (fun v i wr => wr = w ∧ ∃ k : Nat, k ≤ N ∧ i = .int .i64 (k : Int) ∧ v = .int .i64 ((valW (s.take k) : Nat) : Int) ∧ (s.take k).all dig = true) (fun _ i _ => N - (intOf i).toNat)
  case atStart => exact ⟨rfl, 0, by omega, rfl, rfl, rfl⟩
  case round =>
    obtain ⟨rfl, k, hk, rfl, rfl, hd⟩ := hrel
    by_cases hlt : k < N
    · have hks : k < s.length := by rw [← HN.out]; exact hlt
      have hkb : k ≤ 10 := by have := HNb.out; omega
      have d1 : decide ((k : Int) < (s.length : Int)) = true := decide_eq_true (by omega)
      have d1n : decide (k < s.length) = true := decide_eq_true hks
      have x1 := at_txt s .i64 (k : Int) k rfl hks wr
      have hv := val_step hks
      have ha := all_step hks
      have hbad := fun h => all_bad (s := s) (k := k) hks h
      have hvb := val_lt _ hd
      have hlen : (s.take k).length ≤ 10 := by rw [List.length_take]; omega
      have hvb2 : valW (s.take k) < 10000000000 := Nat.lt_of_lt_of_le hvb (show 10 ^ (s.take k).length ≤ 10 ^ 10 from Nat.pow_le_pow_right (by decide) hlen)
      rw [hd, Bool.true_and] at ha
      generalize s.getD k 0 = c at *
      by_cases c1 : c.toNat < 48
      · have d2 : decide ((c.toNat : Int) < 48) = true := by simp; omega
        have HE : Hid (T = -1) := show _ = _ by
          rw [HT.out]
          unfold numW
          rw [hbad (decide_eq_false (by omega))]
          rfl
        clear ha hbad hv hvb hvb2 hd hlen c1
        go_wp2_with fail
        go_ret
        exact ⟨by rw [HE.out]; rfl, rfl⟩
      · have d2 : decide ((c.toNat : Int) < 48) = false := by simp; omega
        by_cases c2 : 57 < c.toNat
        · have d3 : decide (57 < (c.toNat : Int)) = true := by simp; omega
          have HE : Hid (T = -1) := show _ = _ by
            rw [HT.out]
            unfold numW
            rw [hbad (decide_eq_false (by omega))]
            rfl
          clear ha hbad hv hvb hvb2 hd hlen c1 c2
          go_wp2_with fail
          go_ret
          exact ⟨by rw [HE.out]; rfl, rfl⟩
        · have d3 : decide (57 < (c.toNat : Int)) = false := by simp; omega
          have HA : Hid ((s.take (k + 1)).all dig = true) := show _ = _ by rw [ha]; exact decide_eq_true (by omega)
          obtain ⟨d, hdd⟩ : ∃ d, d = c.toNat - 48 := ⟨_, rfl⟩
          rw [← hdd] at hv
          obtain ⟨q, hq⟩ : ∃ q, q = valW (s.take (k + 1)) := ⟨_, rfl⟩
          rw [← hq] at hv
          have HQ := Lib.hid hq
          generalize valW (s.take k) = p at *
          have e1 : IntKind.u8.wrap ((c.toNat : Int) - 48) = (d : Int) := by rw [IntKind.wrap_u8]; omega
          obtain ⟨A, hA⟩ : ∃ A : Int, A = (p : Int) * 10 := ⟨_, rfl⟩
          have e2 : wrap64 ((p : Int) * 10) = A := by unfold wrap64; omega
          have e3 : wrap64 (d : Int) = (d : Int) := by unfold wrap64; omega
          have e4 : wrap64 (A + (d : Int)) = (q : Int) := by clear e1 e2 e3; unfold wrap64; omega
          have HK : Hid (k + 1 ≤ N) := hlt
          have HW : Hid (wrap64 ((k : Int) + 1) = ((k + 1 : Nat) : Int)) := show _ = _ by clear e1 e2 e3 e4; unfold wrap64; omega
          clear ha hbad hv hvb hvb2 hd hlen c1 c2 hq hdd hA hlt hk hks hkb
          go_wp2_with fail
          go_roundw
          case rel => exact ⟨trivial, k + 1, HK.out, by rw [HW.out], by first | (rw [e4, HQ.out]; done) | (rw [← HQ.out]; congr 1), HA.out⟩
          case measure => rw [HW.out]; have := HK.out; simp [intOf]; omega
    · obtain rfl : k = N := by omega
      have d1 : decide ((k : Int) < (s.length : Int)) = false := by rw [← HN.out]; simp
      have d1n : decide (k < s.length) = false := by rw [← HN.out]; simp
      have ht : s.take k = s := List.take_of_length_le (by rw [← HN.out]; omega)
      rw [ht] at hd ⊢
      have HE : Hid (T = ((valW s : Nat) : Int)) := show _ = _ by rw [HT.out]; unfold numW; rw [if_pos hd]
      clear ht hd hk hlt
      generalize valW s = p at *
      go_wp2_with fail
      go_ret
      exact ⟨by rw [HE.out]; rfl, rfl⟩
end Go.Proofs.YthkcaogohkgheaaDoor
