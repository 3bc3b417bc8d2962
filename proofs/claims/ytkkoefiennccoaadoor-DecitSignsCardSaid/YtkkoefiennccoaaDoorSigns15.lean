/-
  The law DecitSigns, walked: it returns true and writes nothing that was there; for every text and count.
-/
import Derived.Test.YtkkoefiennccoaaDoorBack15
namespace Go.Proofs.YtkkoefiennccoaaDoor
set_option maxRecDepth 100000
open Go.RowKit
open Go.Lib (decDigits itoa)

/-- What a number's text tells with signs and noughts ahead. -/
theorem signs_ans {s : List UInt8} (h : Headed s) (k : Nat) (hl : s.length ≤ 200) (hk : k ≤ 50) :
    ∃ (a b e c : Nat), pAns s = (a, b, e) ∧ pAns ([43] ++ s) = (a, b, e) ∧ pAns ([45] ++ s) = (c, b, e) ∧ pAns (List.replicate k 48 ++ s) = (a, b, e) ∧ (e = 0 → c = a + 9223372036854775808 ∧ a < 9223372036854775808) := by
  have h0 : pAns s = pNum false s.length s := by
    have := headed_name h false
    exact this
  have h1 : pAns ([43] ++ s) = pNum false s.length s := by
    have := headed_plus h
    rw [show [43] ++ s = 43 :: s from rfl, this]
    exact pNum_len (by omega) (by omega)
  have h2 : pAns ([45] ++ s) = pNum true s.length s := by
    have := headed_name h true
    rw [show sg true ++ s = [45] ++ s from rfl] at this
    rw [this]
    exact pNum_len (by rw [List.length_append, List.length_singleton]; omega) (by omega)
  have hz : Headed (List.replicate k 48 ++ s) := by
    cases k with
    | zero => exact h
    | succ k => exact ⟨48, List.replicate k 48 ++ s, by rw [List.replicate_succ]; rfl, by decide⟩
  have h3 : pAns (List.replicate k 48 ++ s) = pNum false s.length s := by
    have := headed_name hz false
    rw [show sg false ++ (List.replicate k 48 ++ s) = List.replicate k 48 ++ s from rfl] at this
    rw [this, pNum_noughts h]
    exact pNum_len (by rw [List.length_append, List.length_replicate]; omega) (by omega)
  obtain ⟨n1, n2⟩ := pNum_neg s.length s
  rw [h0, h1, h2, h3]
  generalize pNum false s.length s = X at *
  generalize pNum true s.length s = Y at *
  obtain ⟨a, b, e⟩ := X
  obtain ⟨c, b', e'⟩ := Y
  obtain ⟨rfl, rfl⟩ := Prod.mk.inj n1
  exact ⟨a, b', e', c, rfl, rfl, rfl, rfl, n2⟩

set_option maxHeartbeats 8000000 in
theorem signs_core (s : List UInt8) (N : Nat) (a b e c : Int) (w : World) (hN : N ≤ 50) (hl0 : 1 ≤ s.length) (hl : s.length ≤ 200) (h48 : 48 ≤ (s.getD 0 0).toNat) (h57 : (s.getD 0 0).toNat ≤ 57) (hL : L15 w)
    (cA : Hid (∀ w, L15 w → Calls Tryd.prog 6 #[.string ⟨s.toArray⟩] w fun r w' => r = .returned (.tuple #[.int .u64 a, .int .u64 b, .int .i64 e]) ∧ Below w.heap.size w w'))
    (cB : Hid (∀ w, L15 w → Calls Tryd.prog 6 #[.string ⟨([43] ++ s).toArray⟩] w fun r w' => r = .returned (.tuple #[.int .u64 a, .int .u64 b, .int .i64 e]) ∧ Below w.heap.size w w'))
    (cC : Hid (∀ w, L15 w → Calls Tryd.prog 6 #[.string ⟨([45] ++ s).toArray⟩] w fun r w' => r = .returned (.tuple #[.int .u64 c, .int .u64 b, .int .i64 e]) ∧ Below w.heap.size w w'))
    (cD : Hid (∀ w, L15 w → Calls Tryd.prog 6 #[.string ⟨(List.replicate N 48 ++ s).toArray⟩] w fun r w' => r = .returned (.tuple #[.int .u64 a, .int .u64 b, .int .i64 e]) ∧ Below w.heap.size w w'))
    (he : (¬ e = 0) ∨ (e = 0 ∧ c = a + 9223372036854775808 ∧ 0 ≤ a ∧ a < 9223372036854775808)) :
    Calls Tryd.prog 4 #[.string ⟨s.toArray⟩, .int .i64 (N : Int)] w fun r w' => r = .returned (.bool true) ∧ Below w.heap.size w w' := by
  have d1 : decide ((s.length : Int) < 1) = false := decide_eq_false (by omega)
  have d2 : decide (200 < (s.length : Int)) = false := decide_eq_false (by omega)
  have d3 : decide ((N : Int) < 0) = false := decide_eq_false (by omega)
  have d4 : decide (50 < (N : Int)) = false := decide_eq_false (by omega)
  have x0 := fun (w : World) => at_txt s .i64 0 0 rfl (by omega) w
  generalize s.getD 0 0 = c0 at *
  have d5 : decide ((c0.toNat : Int) < 48) = false := decide_eq_false (by omega)
  have d6 : decide (57 < (c0.toNat : Int)) = false := decide_eq_false (by omega)
  have k1 := pcat #[43] s.toArray [43] s rfl rfl (by simp; omega)
  have k2 := pcat #[45] s.toArray [45] s rfl rfl (by simp; omega)
  have HL := Lib.hid hL
  have HN : Hid (N ≤ 50 ∧ s.length ≤ 200) := ⟨hN, hl⟩
  have HE := Lib.hid he
  clear hL hN hl hl0 h48 h57 he
  generalize [43] ++ s = s1 at *
  generalize [45] ++ s = s2 at *
  go_enter Tryd.func4, Tryd.ntmps4
  go_wp2_with fail
  refine (awake15 _ HL.out).mono ?_
  rintro r w1 ⟨rfl, B1⟩
  have HB1 := Lib.hid B1
  clear B1
  go_wp2_with fail
  clear d1 d2 d3 d4 d5 d6 x0
  refine (cA.out _ (HL.out.after HB1.out)).mono ?_
  rintro r w2 ⟨rfl, B2⟩
  have HB2 := Lib.hid (low_p HB1.out B2)
  clear B2 HB1 cA
  go_wp2_with fail
  refine (cB.out _ (HL.out.after HB2.out)).mono ?_
  rintro r w3 ⟨rfl, B3⟩
  have HB3 := Lib.hid (low_p HB2.out B3)
  clear B3 HB2 cB k1
  go_wp2_with fail
  refine (cC.out _ (HL.out.after HB3.out)).mono ?_
  rintro r w4 ⟨rfl, B4⟩
  have HB4 := Lib.hid (low_p HB3.out B4)
  clear B4 HB3 cC k2
  go_wp2_with fail
  obtain ⟨W0, rfl⟩ : ∃ W0, W0 = w4 := ⟨_, rfl⟩
  go_loopw [14, 15] (fun z i wr => wr = W0 ∧ ∃ k : Nat, k ≤ N ∧ i = .int .i64 (k : Int) ∧ z = .string ⟨(List.replicate k 48 ++ s).toArray⟩) (fun _ i _ => N - (intOf i).toNat)
  case atStart => exact ⟨rfl, 0, by omega, rfl, rfl⟩
  case round =>
    obtain ⟨rfl, k, hk, rfl, rfl⟩ := hrel
    have hn := HN.out
    by_cases hlt : k < N
    · have q1 : decide ((k : Int) < (N : Int)) = true := decide_eq_true (by omega)
      have q1n : decide (k < N) = true := decide_eq_true hlt
      have kk := pcat_is (a := #[48]) (b := (List.replicate k (48 : UInt8) ++ s).toArray) (u := [48]) (t := List.replicate (k + 1) 48 ++ s) rfl rfl (by rw [List.replicate_succ]; rfl) (by simp; omega)
      have HR : Hid ((List.replicate (k + 1) (48 : UInt8) ++ s) = List.replicate (k + 1) 48 ++ s) := rfl
      have HW : Hid (wrap64 ((k : Int) + 1) = ((k + 1 : Nat) : Int)) := show _ = _ by unfold wrap64; omega
      have HK : Hid (k + 1 ≤ N) := hlt
      generalize List.replicate k (48 : UInt8) ++ s = z0 at *
      generalize hz1 : List.replicate (k + 1) (48 : UInt8) ++ s = z1 at *
      have HZ := Lib.hid hz1
      clear hz1 hk hlt hn HR
      go_wp2_with fail
      go_roundw
      case rel => exact ⟨trivial, k + 1, HK.out, by rw [HW.out], by rw [HZ.out]⟩
      case measure => rw [HW.out]; have := HK.out; simp [intOf]; omega
    · obtain rfl : k = N := by omega
      have q1 : decide ((k : Int) < (k : Int)) = false := by simp
      have q1n : decide (k < k) = false := by simp
      generalize List.replicate k (48 : UInt8) ++ s = z0 at *
      clear hk hlt hn
      go_wp2_with fail
      refine (cD.out _ (HL.out.after HB4.out)).mono ?_
      rintro r w5 ⟨rfl, B5⟩
      have HB5 := Lib.hid (low_p HB4.out B5)
      clear B5 HB4 cD q1 q1n
      rcases HE.out with h | ⟨h, h1, h2, h3⟩
      · have h' : (e == 0) = false := beq_eq_false_iff_ne.2 h
        have h'' : (e != 0) = true := by rw [bne, h']; rfl
        clear HE
        go_wp2_with fail
        go_ret
        exact ⟨by first | rfl | (simp; done), HB5.out⟩
      · subst h
        have e1 : IntKind.u64.wrap (a + 9223372036854775808) = c := by rw [IntKind.wrap_u64]; omega
        clear HE h1 h2 h3
        go_wp2_with fail
        go_ret
        exact ⟨by first | rfl | (simp; done), HB5.out⟩

set_option maxHeartbeats 8000000 in
/-- A text or a count that the law doesn't speak of. -/
theorem signs_out (s : List UInt8) (x : Int) (w : World) (hL : L15 w) (h : s.length < 1 ∨ 200 < s.length ∨ x < 0 ∨ 50 < x ∨ (s.getD 0 0).toNat < 48 ∨ 57 < (s.getD 0 0).toNat) :
    Calls Tryd.prog 4 #[.string ⟨s.toArray⟩, .int .i64 x] w fun r w' => r = .returned (.bool true) ∧ Below w.heap.size w w' := by
  have HL := Lib.hid hL
  clear hL
  have key : (s = []) ∨ (decide ((s.length : Int) < 1) = false ∧ (∀ w : World, (Instr.index 9 (.string ⟨s.toArray⟩) (.int .i64 0)).run Tryd.prog w = .ok (.int .u8 ((s.getD 0 0).toNat : Int)) w) ∧
      (decide (200 < (s.length : Int)) = true ∨ decide (200 < (s.length : Int)) = false ∧ (decide (x < 0) = true ∨ decide (x < 0) = false ∧ (decide (50 < x) = true ∨ decide (50 < x) = false ∧ (decide (((s.getD 0 0).toNat : Int) < 48) = true ∨ decide (((s.getD 0 0).toNat : Int) < 48) = false ∧ decide (57 < ((s.getD 0 0).toNat : Int)) = true))))) := by
    cases s with
    | nil => exact .inl rfl
    | cons c t =>
      refine .inr ⟨decide_eq_false (by simp; omega), fun w => at_txt (c :: t) .i64 0 0 rfl (by simp) w, ?_⟩
      have hn : 1 ≤ (c :: t).length := by simp
      generalize (c :: t).length = n at *
      generalize ((c :: t).getD 0 0).toNat = v at *
      by_cases h1 : 200 < n
      · exact .inl (decide_eq_true (by omega))
      refine .inr ⟨decide_eq_false (by omega), ?_⟩
      by_cases h2 : x < 0
      · exact .inl (decide_eq_true h2)
      refine .inr ⟨decide_eq_false h2, ?_⟩
      by_cases h3 : 50 < x
      · exact .inl (decide_eq_true h3)
      refine .inr ⟨decide_eq_false h3, ?_⟩
      by_cases h4 : v < 48
      · exact .inl (decide_eq_true (by omega))
      refine .inr ⟨decide_eq_false (by omega), decide_eq_true ?_⟩
      omega
  clear h
  rcases key with h0 | ⟨d1, x0, hk⟩
  · subst h0
    go_enter Tryd.func4, Tryd.ntmps4
    go_wp2_with fail
    refine (awake15 _ HL.out).mono ?_
    rintro r w1 ⟨rfl, B1⟩
    have HB1 := Lib.hid B1
    clear B1
    go_wp2_with fail
    go_ret
    exact ⟨rfl, HB1.out⟩
  · generalize s.getD 0 0 = c0 at *
    rcases hk with e1 | ⟨e1, e2 | ⟨e2, e3 | ⟨e3, e4 | ⟨e4, e5⟩⟩⟩⟩
    all_goals (
      go_enter Tryd.func4, Tryd.ntmps4
      go_wp2_with fail
      refine (awake15 _ HL.out).mono ?_
      rintro r w1 ⟨rfl, B1⟩
      have HB1 := Lib.hid B1
      clear B1
      go_wp2_with fail
      go_ret
      exact ⟨rfl, HB1.out⟩)

theorem signs15 (s : List UInt8) (x : Int) (_hx : -9223372036854775808 ≤ x ∧ x ≤ 9223372036854775807) (w : World) (hL : L15 w) :
    Calls Tryd.prog 4 #[.string ⟨s.toArray⟩, .int .i64 x] w fun r w' => r = .returned (.bool true) ∧ Below w.heap.size w w' := by
  by_cases h : s.length < 1 ∨ 200 < s.length ∨ x < 0 ∨ 50 < x ∨ (s.getD 0 0).toNat < 48 ∨ 57 < (s.getD 0 0).toNat
  · exact signs_out s x w hL h
  · obtain ⟨N, rfl⟩ : ∃ N : Nat, x = (N : Int) := ⟨x.toNat, by omega⟩
    have hh : Headed s := by
      cases s with
      | nil => simp at h
      | cons c t =>
        refine ⟨c, t, rfl, ?_⟩
        simp only [List.getD_cons_zero] at h
        simp only [isD, decide_eq_true_eq]
        omega
    obtain ⟨a, b, e, c, e1, e2, e3, e4, e5⟩ := signs_ans hh N (by omega) (by omega)
    have c1 : Hid (∀ w, L15 w → Calls Tryd.prog 6 #[.string ⟨s.toArray⟩] w fun r w' => r = .returned (.tuple #[.int .u64 (a : Int), .int .u64 (b : Int), .int .i64 (e : Int)]) ∧ Below w.heap.size w w') := fun w hL => by
      have := parse_any15 s (by omega) w hL
      rw [e1] at this
      exact this
    have c2 : Hid (∀ w, L15 w → Calls Tryd.prog 6 #[.string ⟨([43] ++ s).toArray⟩] w fun r w' => r = .returned (.tuple #[.int .u64 (a : Int), .int .u64 (b : Int), .int .i64 (e : Int)]) ∧ Below w.heap.size w w') := fun w hL => by
      have := parse_any15 ([43] ++ s) (by rw [List.length_append, List.length_singleton]; omega) w hL
      rw [e2] at this
      exact this
    have c3 : Hid (∀ w, L15 w → Calls Tryd.prog 6 #[.string ⟨([45] ++ s).toArray⟩] w fun r w' => r = .returned (.tuple #[.int .u64 (c : Int), .int .u64 (b : Int), .int .i64 (e : Int)]) ∧ Below w.heap.size w w') := fun w hL => by
      have := parse_any15 ([45] ++ s) (by rw [List.length_append, List.length_singleton]; omega) w hL
      rw [e3] at this
      exact this
    have c4 : Hid (∀ w, L15 w → Calls Tryd.prog 6 #[.string ⟨(List.replicate N 48 ++ s).toArray⟩] w fun r w' => r = .returned (.tuple #[.int .u64 (a : Int), .int .u64 (b : Int), .int .i64 (e : Int)]) ∧ Below w.heap.size w w') := fun w hL => by
      have := parse_any15 (List.replicate N 48 ++ s) (by rw [List.length_append, List.length_replicate]; omega) w hL
      rw [e4] at this
      exact this
    refine signs_core s N a b e c w (by omega) (by omega) (by omega) (by omega) (by omega) hL c1 c2 c3 c4 ?_
    by_cases h0 : e = 0
    · obtain ⟨f1, f2⟩ := e5 h0
      exact .inr ⟨by rw [h0]; rfl, by omega, by omega, by omega⟩
    · exact .inl (by omega)
end Go.Proofs.YtkkoefiennccoaaDoor
