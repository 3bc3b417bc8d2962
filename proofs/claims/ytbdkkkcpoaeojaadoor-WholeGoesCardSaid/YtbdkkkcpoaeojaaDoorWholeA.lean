/-
  What the program's isDigits, isPlain, withoutSign and cutExponent do; no condition but the texts' lengths.
-/
import Derived.Test.YtbdkkkcpoaeojaaDoorLaid10
namespace Go.Proofs.YtbdkkkcpoaeojaaDoor
open Go.RowKit

theorem ret_val {k : IntKind} {a b : Int} (h : a = b) : Value.int k a = .int k b := by rw [h]
/-- s[:b] and s[a:] of a text. -/
theorem slice_upto (s : List UInt8) (b : Nat) (hb : b ≤ s.length) (w : World) :
    (Instr.slice 9 (.string ⟨s.toArray⟩) none (some (.int .i64 (b : Int))) none).run Tryd.prog w = .ok (.string ⟨(s.take b).toArray⟩) w := by
  rw [run_slice_string_h w _ _ Tryd.underlying9 .i64 (b : Int) (by omega) (by simp [ByteArray.size]; omega), Lib.extract_eq]
  simp
theorem slice_from (s : List UInt8) (a : Nat) (i : Int) (hi : i = (a : Int)) (ha : a ≤ s.length) (w : World) :
    (Instr.slice 9 (.string ⟨s.toArray⟩) (some (.int .i64 i)) none none).run Tryd.prog w = .ok (.string ⟨(s.drop a).toArray⟩) w := by
  subst hi
  rw [run_slice_string_l w _ _ Tryd.underlying9 .i64 (a : Int) (by omega) (by simp [ByteArray.size]; omega), Lib.extract_eq]
  simp only [ByteArray.size, List.size_toArray, Int.toNat_natCast]
  rw [List.take_of_length_le (by simp)]
theorem isD_low {c : UInt8} (h : c.toNat < 48) : isD c = false := by simp [isD]; omega
theorem isD_high {c : UInt8} (h : 57 < c.toNat) : isD c = false := by simp [isD]; omega
theorem isD_mid {c : UInt8} (h0 : ¬ c.toNat < 48) (h1 : ¬ 57 < c.toNat) : isD c = true := by simp [isD]; omega
theorem all_drop {s : List UInt8} {k : Nat} (h : k < s.length) : (s.drop k).all isD = (isD (s.getD k 0) && (s.drop (k + 1)).all isD) := by
  rw [List.drop_eq_getElem_cons h, List.all_cons]
  congr 2
  rw [List.getD_eq_getElem?_getD, List.getElem?_eq_getElem h]
  rfl

set_option maxHeartbeats 2000000 in
theorem isDigits_any (s : List UInt8) (hs : s.length ≤ 1000000000) (w : World) :
    Calls Tryd.prog 22 #[.string ⟨s.toArray⟩] w fun e w' => e = .returned (.bool (digs s)) ∧ w' = w := by
  obtain ⟨r, hr⟩ : ∃ r, r = digs s := ⟨_, rfl⟩
  rw [← hr]
  have HR : Hid (r = ((s.drop 0).all isD && !s.isEmpty)) := hr
  clear hr
  obtain ⟨N, hN⟩ : ∃ N, N = s.length := ⟨_, rfl⟩
  have HN := Lib.hid hN
  have HNb : Hid (N ≤ 1000000000) := show _ ≤ _ by rw [hN]; exact hs
  clear hN hs
  have hemp : Hid ((s != []) = !s.isEmpty) := show _ = _ by cases s <;> rfl
  go_enter Tryd.func22, Tryd.ntmps22
  go_wp2_with fail
  go_loopw [6] (fun i wr => wr = w ∧ ∃ k : Nat, k ≤ N ∧ i = .int .i64 (k : Int) ∧ r = ((s.drop k).all isD && !s.isEmpty)) (fun i _ => N - (intOf i).toNat)
  case atStart => exact ⟨rfl, 0, by omega, rfl, HR.out⟩
  case round =>
    obtain ⟨rfl, k, hk, rfl, hf⟩ := hrel
    have HF := Lib.hid hf
    have hkb : k ≤ 1000000000 := by have := HNb.out; omega
    clear hf
    by_cases hlt : k < N
    · have d1 : decide ((k : Int) < (s.length : Int)) = true := by rw [← HN.out]; simp; omega
      have d1n : decide (k < s.length) = true := by rw [← HN.out]; simpa using hlt
      have x1 := at_txt s .i64 (k : Int) k rfl (by rw [← HN.out]; exact hlt) wr
      have HA := Lib.hid (all_drop (s := s) (k := k) (by rw [← HN.out]; exact hlt))
      generalize s.getD k 0 = c at x1 HA
      by_cases c1 : c.toNat < 48
      · have d2 : decide ((c.toNat : Int) < 48) = true := by simp; omega
        have HE : Hid (r = false) := show _ = _ by rw [HF.out, HA.out, isD_low c1]; rfl
        clear HA HF c1
        go_wp2_with fail
        go_ret
        exact ⟨by rw [HE.out]; rfl, rfl⟩
      · have d2 : decide ((c.toNat : Int) < 48) = false := by simp; omega
        by_cases c2 : 57 < c.toNat
        · have d3 : decide (57 < (c.toNat : Int)) = true := by simp; omega
          have HE : Hid (r = false) := show _ = _ by rw [HF.out, HA.out, isD_high c2]; rfl
          clear HA HF c1 c2
          go_wp2_with fail
          go_ret
          exact ⟨by rw [HE.out]; rfl, rfl⟩
        · have d3 : decide (57 < (c.toNat : Int)) = false := by simp; omega
          have HE : Hid (r = ((s.drop (k + 1)).all isD && !s.isEmpty)) := show _ = _ by rw [HF.out, HA.out, isD_mid c1 c2]; rfl
          clear HA HF c1 c2
          go_wp2_with fail
          go_roundw
          case rel => exact ⟨trivial, k + 1, by omega, ret_val (by omega), HE.out⟩
          case measure => simp [intOf]; omega
    · obtain rfl : k = N := by omega
      have d1 : decide ((k : Int) < (s.length : Int)) = false := by rw [← HN.out]; simp
      have d1n : decide (k < s.length) = false := by rw [← HN.out]; simp
      have HE : Hid (r = !s.isEmpty) := show _ = _ by rw [HF.out, List.drop_eq_nil_of_le (by rw [← HN.out]; omega)]; rfl
      clear HF
      go_wp2_with fail
      go_ret
      exact ⟨by rw [HE.out]; rfl, rfl⟩

set_option maxHeartbeats 2000000 in
theorem isPlain_any (s : List UInt8) (hs : s.length ≤ 1000000000) (w : World) :
    Calls Tryd.prog 20 #[.string ⟨s.toArray⟩] w fun e w' => e = .returned (.bool (plain s)) ∧ w' = w := by
  obtain ⟨r, hr⟩ : ∃ r, r = plain s := ⟨_, rfl⟩
  rw [← hr]
  have HR : Hid (r = (digs s && (s == [48] || s.getD 0 0 != 48))) := hr
  clear hr
  cases hd : digs s with
  | false =>
    have HE : Hid (r = false) := show _ = _ by rw [HR.out, hd]; rfl
    clear HR
    go_enter Tryd.func20, Tryd.ntmps20
    go_wp2_with (go_at_call 22; refine (isDigits_any s hs _).mono ?_; rintro e w' ⟨rfl, hw⟩; subst hw; rw [hd])
    go_wp2_with fail
    go_ret
    exact ⟨by rw [HE.out]; rfl, rfl⟩
  | true =>
    have hpos : 0 < s.length := List.length_pos_iff.2 (digs_iff.1 hd).2
    have x0 := fun (w : World) => at_txt s .i64 0 0 rfl hpos w
    cases h48 : (s == [48]) with
    | true =>
      have HE : Hid (r = true) := show _ = _ by rw [HR.out, hd, h48]; rfl
      clear HR
      go_enter Tryd.func20, Tryd.ntmps20
      go_wp2_with (go_at_call 22; refine (isDigits_any s hs _).mono ?_; rintro e w' ⟨rfl, hw⟩; subst hw; rw [hd])
      go_wp2_with fail
      go_ret
      exact ⟨by rw [HE.out]; rfl, rfl⟩
    | false =>
      have HE : Hid (r = (s.getD 0 0 != 48)) := show _ = _ by rw [HR.out, hd, h48]; rfl
      clear HR
      have hne : (((s.getD 0 0).toNat : Int) != 48) = (s.getD 0 0 != 48) := by
        generalize s.getD 0 0 = c
        by_cases hc : c = 48
        · subst hc; rfl
        · have h1 : c.toNat ≠ 48 := fun e => hc (UInt8.toNat_inj.1 e)
          rw [bne_iff_ne.2 hc, bne_iff_ne.2 (by omega)]
      generalize s.getD 0 0 = c at x0 HE hne
      obtain ⟨q, hq⟩ : ∃ q, (c != 48) = q := ⟨_, rfl⟩
      rw [hq] at hne HE
      go_enter Tryd.func20, Tryd.ntmps20
      go_wp2_with (go_at_call 22; refine (isDigits_any s hs _).mono ?_; rintro e w' ⟨rfl, hw⟩; subst hw; rw [hd])
      go_wp2_with fail
      go_ret
      exact ⟨by rw [HE.out]; rfl, rfl⟩

set_option maxHeartbeats 2000000 in
theorem withoutSign_any (s : List UInt8) (hs : s.length ≤ 1000000000) (w : World) :
    Calls Tryd.prog 23 #[.string ⟨s.toArray⟩] w fun e w' => e = .returned (.string ⟨(unsign s).toArray⟩) ∧ w' = w := by
  obtain ⟨r, hr⟩ : ∃ r, r = unsign s := ⟨_, rfl⟩
  rw [← hr]
  cases s with
  | nil =>
    subst hr
    go_enter Tryd.func23, Tryd.ntmps23
    go_wp2_with fail
    go_ret
    exact ⟨rfl, rfl⟩
  | cons c t =>
    have x0 := fun (w : World) => at_txt (c :: t) .i64 0 0 rfl (by simp) w
    have x1 := fun (w : World) => slice_from (c :: t) 1 1 rfl (by simp) w
    simp only [List.getD_cons_zero, List.drop_succ_cons, List.drop_zero] at x0 x1
    have hn1 : ¬ (c :: t) = [] := by simp
    have hn2 : (!(c :: t).isEmpty) = true := rfl
    have hcase : (unsign (c :: t) = t ∧ (((c.toNat : Int) == 43) = true ∨ (((c.toNat : Int) == 43) = false ∧ ((c.toNat : Int) == 45) = true))) ∨ (unsign (c :: t) = c :: t ∧ ((c.toNat : Int) == 43) = false ∧ ((c.toNat : Int) == 45) = false) := by
      have e43 : (43 : UInt8).toNat = 43 := rfl
      have e45 : (45 : UInt8).toNat = 45 := rfl
      by_cases h43 : c = 43
      · left
        exact ⟨by simp [unsign, h43], .inl (by rw [h43]; rfl)⟩
      · have n43 : c.toNat ≠ 43 := fun e => h43 (UInt8.toNat_inj.1 e)
        by_cases h45 : c = 45
        · left
          exact ⟨by simp [unsign, h45], .inr ⟨beq_eq_false_iff_ne.2 (by omega), by rw [h45]; rfl⟩⟩
        · have n45 : c.toNat ≠ 45 := fun e => h45 (UInt8.toNat_inj.1 e)
          right
          exact ⟨by simp [unsign, h43, h45], beq_eq_false_iff_ne.2 (by omega), beq_eq_false_iff_ne.2 (by omega)⟩
    obtain ⟨S, hS⟩ : ∃ S, S = c :: t := ⟨_, rfl⟩
    rw [← hS] at x0 x1 hn1 hn2 hcase hr ⊢
    clear hS hs
    rcases hcase with ⟨h1, g1 | ⟨g1, g2⟩⟩ | ⟨h1, g1, g2⟩
    all_goals (
      rw [h1] at hr
      have HE := Lib.hid hr
      clear hr h1
      go_enter Tryd.func23, Tryd.ntmps23
      go_wp2_with fail
      go_ret
      exact ⟨by rw [HE.out]; rfl, rfl⟩)

theorem indexAny_lt (cs l : List UInt8) : Lib.indexAny l cs < l.length := by
  induction l with
  | nil => show (-1 : Int) < 0; decide
  | cons b l ih =>
    unfold Lib.indexAny
    rw [List.length_cons]
    split
    · omega
    · split <;> omega

set_option maxHeartbeats 2000000 in
theorem cutExponent_any (s : List UInt8) (hs : s.length ≤ 1000000000) (w : World) :
    Calls Tryd.prog 18 #[.string ⟨s.toArray⟩] w fun e w' => e = .returned (.tuple #[.string ⟨(cutE s).1.toArray⟩, .string ⟨(cutE s).2.1.toArray⟩, .bool (cutE s).2.2]) ∧ Below w.heap.size w w' := by
  obtain ⟨r, hr⟩ : ∃ r, r = cutE s := ⟨_, rfl⟩
  rw [← hr]
  rw [indexAny_cutE] at hr
  have hlt := indexAny_lt [101, 69] s
  have c0 := fun w => look_any s w (by omega)
  generalize Lib.indexAny s [101, 69] = at0 at hr hlt c0
  have C0 := Lib.hid c0
  clear c0
  by_cases h0 : at0 < 0
  · have HE : Hid (r = (s, [], false)) := show _ = _ by rw [hr, if_pos h0]
    have d0 : decide (at0 < 0) = true := by simpa using h0
    clear hr
    go_enter Tryd.func18, Tryd.ntmps18
    go_wp2_with (go_at_call 28; refine (C0.out _).mono ?_; rintro e w1 ⟨rfl, hb⟩)
    go_wp2_with fail
    go_ret3
    exact ⟨by rw [HE.out]; rfl, hb⟩
  · have HE : Hid (r = (s.take at0.toNat, s.drop (at0.toNat + 1), true)) := show _ = _ by rw [hr, if_neg h0]
    have d0 : decide (at0 < 0) = false := by simpa using h0
    obtain ⟨k, rfl⟩ : ∃ k : Nat, at0 = (k : Int) := ⟨at0.toNat, by omega⟩
    rw [Int.toNat_natCast] at HE
    have hk : k < s.length := by omega
    have wk : IntKind.i64.wrap ((k : Int) + 1) = (k : Int) + 1 := by rw [IntKind.wrap_i64]; omega
    have x0 := fun (w : World) => slice_upto s k (by omega) w
    have x1 := fun (w : World) => slice_from s (k + 1) ((k : Int) + 1) (by omega) (by omega) w
    clear hr
    go_enter Tryd.func18, Tryd.ntmps18
    go_wp2_with (go_at_call 28; refine (C0.out _).mono ?_; rintro e w1 ⟨rfl, hb⟩)
    go_wp2_with fail
    go_quiet (fail)
    have hb2 : Below w.heap.size w (w1.drewN nq) := hb.trans ⟨rfl, rfl, rfl, Nat.le_refl _, fun _ _ => rfl⟩
    generalize w1.drewN nq = w2 at hb2 ⊢
    go_wp2_with fail
    go_ret3
    exact ⟨by rw [HE.out]; rfl, hb2⟩

end Go.Proofs.YtbdkkkcpoaeojaaDoor
