/-
  What the document's DecParse does (chapter 15); no condition but the text's length.
-/
import Derived.Test.YtkkoefiennccoaaGreatDoorRefW15
namespace Go.Proofs.YtkkoefiennccoaaGreatDoor
set_option maxRecDepth 100000
open Go.RowKit
open Go.Lib (decDigits itoa)

/-- Bits and an error's number, by value. -/
def rV (t : Nat × Nat × Nat) : Value := .tuple #[.int .u64 (t.1 : Int), .int .u64 (t.2.1 : Int), .int .i64 (t.2.2 : Int)]

set_option maxHeartbeats 1000000 in
theorem dparse_name (s : List UInt8) (T : Value) (w : World)
    (h : (s = [78, 97, 78] ∧ T = .tuple #[.int .u64 8935141660703064064, .int .u64 0, .int .i64 0]) ∨ (s = [73, 110, 102, 105, 110, 105, 116, 121] ∧ T = .tuple #[.int .u64 8646911284551352320, .int .u64 0, .int .i64 0]) ∨ (s = [45, 73, 110, 102, 105, 110, 105, 116, 121] ∧ T = .tuple #[.int .u64 17870283321406128128, .int .u64 0, .int .i64 0])) :
    Calls Tryz.prog 10 #[.string ⟨s.toArray⟩] w fun e w' => e = .returned T ∧ Below w.heap.size w w' := by
  rcases h with ⟨rfl, rfl⟩ | ⟨rfl, rfl⟩ | ⟨rfl, rfl⟩
  all_goals (
    go_enter Tryz.func10, Tryz.ntmps10
    go_wp2_with fail
    go_ret3
    exact ⟨rfl, Below.refl _ _⟩)

set_option maxHeartbeats 1000000 in
theorem dparse_form (s : List UInt8) (w : World)
    (h1 : s ≠ [78, 97, 78]) (h2 : s ≠ [73, 110, 102, 105, 110, 105, 116, 121]) (h3 : s ≠ [45, 73, 110, 102, 105, 110, 105, 116, 121])
    (cL : Hid (∀ w, Calls Tryz.prog 24 #[.string ⟨s.toArray⟩] w fun e w' => (∃ (c : List UInt8) (q : Int) (n : Bool), e = .returned (.tuple #[.string ⟨c.toArray⟩, .int .i64 q, .bool n, .bool false])) ∧ w' = w)) :
    Calls Tryz.prog 10 #[.string ⟨s.toArray⟩] w fun e w' => e = .returned (.tuple #[.int .u64 0, .int .u64 0, .int .i64 3]) ∧ Below w.heap.size w w' := by
  have b1 : (s == [78, 97, 78]) = false := beq_eq_false_iff_ne.2 h1
  have b2 : (s == [73, 110, 102, 105, 110, 105, 116, 121]) = false := beq_eq_false_iff_ne.2 h2
  have b3 : (s == [45, 73, 110, 102, 105, 110, 105, 116, 121]) = false := beq_eq_false_iff_ne.2 h3
  go_enter Tryz.func10, Tryz.ntmps10
  go_wp2_with fail
  refine (cL.out _).mono ?_
  rintro e w5 ⟨⟨c, q, n, rfl⟩, hw⟩; subst w5
  clear cL b1 b2 b3 h1 h2 h3
  go_wp2_with fail
  go_ret3
  exact ⟨rfl, Below.refl _ _⟩

set_option maxHeartbeats 1000000 in
theorem dparse_long (s c : List UInt8) (q : Int) (n : Bool) (w : World) (hl : 300 < s.length)
    (h1 : s ≠ [78, 97, 78]) (h2 : s ≠ [73, 110, 102, 105, 110, 105, 116, 121]) (h3 : s ≠ [45, 73, 110, 102, 105, 110, 105, 116, 121])
    (cL : Hid (∀ w, Calls Tryz.prog 24 #[.string ⟨s.toArray⟩] w fun e w' => e = .returned (.tuple #[.string ⟨c.toArray⟩, .int .i64 q, .bool n, .bool true]) ∧ w' = w)) :
    Calls Tryz.prog 10 #[.string ⟨s.toArray⟩] w fun e w' => e = .returned (.tuple #[.int .u64 0, .int .u64 0, .int .i64 10]) ∧ Below w.heap.size w w' := by
  have b1 : (s == [78, 97, 78]) = false := beq_eq_false_iff_ne.2 h1
  have b2 : (s == [73, 110, 102, 105, 110, 105, 116, 121]) = false := beq_eq_false_iff_ne.2 h2
  have b3 : (s == [45, 73, 110, 102, 105, 110, 105, 116, 121]) = false := beq_eq_false_iff_ne.2 h3
  have d1 : decide (300 < (s.length : Int)) = true := decide_eq_true (by omega)
  clear hl
  go_enter Tryz.func10, Tryz.ntmps10
  go_wp2_with fail
  refine (cL.out _).mono ?_
  rintro e w5 ⟨rfl, hw⟩; subst w5
  clear cL b1 b2 b3 h1 h2 h3
  go_wp2_with fail
  go_ret3
  exact ⟨rfl, Below.refl _ _⟩

/-! ### Noughts ahead and at the end -/
theorem trim_step (t : List UInt8) : Lib.trimLeftB (48 :: t) 48 = Lib.trimLeftB t 48 := by
  unfold Lib.trimLeftB; rw [List.dropWhile_cons, if_pos (by decide)]
theorem trim_stop {c : UInt8} (h : c ≠ 48) (t : List UInt8) : Lib.trimLeftB (c :: t) 48 = c :: t := by
  unfold Lib.trimLeftB; rw [List.dropWhile_cons, if_neg (by simpa using h)]
def TrimRel (T : List UInt8) (v : Value) : Prop := ∃ l : List UInt8, v = .string ⟨l.toArray⟩ ∧ Lib.trimLeftB l 48 = T ∧ l.length ≤ 1000
def TailRel (N : Nat) (v x : Value) : Prop := ∃ (M t : Nat), v = .string ⟨(ds M).toArray⟩ ∧ x = .int .i64 (t : Int) ∧ M ≠ 0 ∧ N = M * 10 ^ t ∧ (ds M).length + t ≤ 1000
theorem last_ds {M : Nat} (h : M ≠ 0) : (ds M).getD ((ds M).length - 1) 0 = UInt8.ofNat (48 + M % 10) := by
  have e := ds_pos h
  generalize ds M = l at *
  rw [e, List.length_append, List.length_singleton, Nat.add_sub_cancel]
  simp

set_option maxHeartbeats 4000000 in
theorem dparse_zero (s c : List UInt8) (q x H L : Int) (n : Bool) (w : World) (hl : s.length ≤ 300) (hc : c.length ≤ 1000) (hz : Lib.trimLeftB c 48 = []) (hx : x = min (max q (-6176)) 6111)
    (h1 : s ≠ [78, 97, 78]) (h2 : s ≠ [73, 110, 102, 105, 110, 105, 116, 121]) (h3 : s ≠ [45, 73, 110, 102, 105, 110, 105, 116, 121])
    (cL : Hid (∀ w, Calls Tryz.prog 24 #[.string ⟨s.toArray⟩] w fun e w' => e = .returned (.tuple #[.string ⟨c.toArray⟩, .int .i64 q, .bool n, .bool true]) ∧ w' = w))
    (cJ : Hid (∀ w, Calls Tryz.prog 13 #[.bool n, .agg #[.int .u64 0, .int .u64 0], .int .i64 x] w fun e w' => e = .returned (.tuple #[.int .u64 H, .int .u64 L, .bool true]) ∧ Below w.heap.size w w')) :
    Calls Tryz.prog 10 #[.string ⟨s.toArray⟩] w fun e w' => e = .returned (.tuple #[.int .u64 H, .int .u64 L, .int .i64 0]) ∧ Below w.heap.size w w' := by
  have b1 : (s == [78, 97, 78]) = false := beq_eq_false_iff_ne.2 h1
  have b2 : (s == [73, 110, 102, 105, 110, 105, 116, 121]) = false := beq_eq_false_iff_ne.2 h2
  have b3 : (s == [45, 73, 110, 102, 105, 110, 105, 116, 121]) = false := beq_eq_false_iff_ne.2 h3
  have d1 : decide (300 < (s.length : Int)) = false := decide_eq_false (by omega)
  have HR : Hid (TrimRel [] (.string ⟨c.toArray⟩)) := ⟨c, rfl, hz, hc⟩
  have HX := Lib.hid hx
  clear hl hz hx hc
  go_enter Tryz.func10, Tryz.ntmps10
  go_wp2_with fail
  refine (cL.out _).mono ?_
  rintro e w5 ⟨rfl, hw⟩; subst w5
  clear cL b1 b2 b3 h1 h2 h3
  go_wp2_with fail
  clear d1
  go_loopw [5] (fun v wr => wr = w ∧ TrimRel [] v) (fun v _ => strLen v)
  case atStart => exact ⟨rfl, HR.out⟩
  case round =>
    obtain ⟨rfl, l, rfl, hl, hlen⟩ := hrel
    clear HR
    cases l with
    | nil =>
      obtain ⟨W0, rfl⟩ : ∃ W0, W0 = wr := ⟨_, rfl⟩
      go_wp2_with fail
      go_loopw [5, 9] (fun v x wr => wr = W0 ∧ v = .string ⟨#[]⟩ ∧ x = .int .i64 0) (fun v _ _ => strLen v)
      case atStart => exact ⟨rfl, rfl, rfl⟩
      case round =>
        obtain ⟨rfl, rfl, rfl⟩ := hrel
        obtain ⟨y1, m1⟩ : ∃ y1, (if q < -6176 then (-6176 : Int) else q) = y1 := ⟨_, rfl⟩
        have m2 : (if 6111 < y1 then (6111 : Int) else y1) = x := by
          rw [HX.out, ← m1]
          split <;> split <;> omega
        go_wp2_with fail
        refine (cJ.out _).mono ?_
        rintro e w6 ⟨rfl, B6⟩
        have HB6 := Lib.hid (low_p ((Below.refl wr.heap.size wr).alloc (Nat.le_refl _) _) B6)
        clear B6 cJ
        go_wp2_with fail
        go_ret3
        exact ⟨rfl, HB6.out⟩
    | cons a t =>
      by_cases ha : a = 48
      · subst ha
        rw [trim_step] at hl
        have HR2 : Hid (TrimRel [] (.string ⟨t.toArray⟩)) := ⟨t, rfl, hl, by rw [List.length_cons] at hlen; omega⟩
        have HM : Hid (strLen (.string ⟨t.toArray⟩) < strLen (.string ⟨(48 :: t).toArray⟩)) := show _ < _ by rw [strLen_of, strLen_of, List.length_cons]; omega
        obtain ⟨f1, f2, f3, f4, f5, f6⟩ := head_facts 48 t
        have c1 : (((48 : UInt8).toNat : Int) == 48) = true := rfl
        clear hl hlen
        generalize 48 :: t = l1 at *
        go_wp2_with fail
        go_roundw
        case rel => exact ⟨trivial, HR2.out⟩
        case measure => exact HM.out
      · exfalso
        rw [trim_stop ha] at hl
        cases hl

theorem tz_uniq {M M' t t' : Nat} (h : M * 10 ^ t = M' * 10 ^ t') (hM : M % 10 ≠ 0) (hM' : M' % 10 ≠ 0) : M = M' ∧ t = t' := by
  have h1 := congrArg tz h
  rw [tz_of hM, tz_of hM'] at h1
  subst h1
  exact ⟨Nat.eq_of_mul_eq_mul_right (Nat.pow_pos (by decide)) h, rfl⟩

set_option maxHeartbeats 8000000 in
theorem dparse_pos (s c : List UInt8) (q x lo hi H L k1 k0 : Int) (n ok jo : Bool) (N M t k : Nat) (T : Value) (d : List UInt8) (w : World) (hl : s.length ≤ 300) (hc : c.length ≤ 1000) (hN : N ≠ 0) (hz : Lib.trimLeftB c 48 = ds N) (hM : M % 10 ≠ 0) (hNM : N = M * 10 ^ t)
    (hNl : (ds N).length ≤ 300) (hq : -200000 ≤ q ∧ q ≤ 200000)
    (hlo : lo = max (-6176) (q + (t : Nat) - 34 + ((ds M).length : Nat))) (hhi : hi = min 6111 (q + (t : Nat))) (hx : x = min (max q lo) hi) (hk : lo ≤ hi → q + (t : Nat) - x = k) (hd : lo ≤ hi → ds M ++ List.replicate k 48 = d)
    (hT : Hid (T = if hi < lo then .tuple #[.int .u64 0, .int .u64 0, .int .i64 10] else if ok = true ∧ jo = true then .tuple #[.int .u64 H, .int .u64 L, .int .i64 0] else .tuple #[.int .u64 0, .int .u64 0, .int .i64 10]))
    (h1 : s ≠ [78, 97, 78]) (h2 : s ≠ [73, 110, 102, 105, 110, 105, 116, 121]) (h3 : s ≠ [45, 73, 110, 102, 105, 110, 105, 116, 121])
    (cL : Hid (∀ w, Calls Tryz.prog 24 #[.string ⟨s.toArray⟩] w fun e w' => e = .returned (.tuple #[.string ⟨c.toArray⟩, .int .i64 q, .bool n, .bool true]) ∧ w' = w))
    (cX : Hid (lo ≤ hi → ∀ w, Calls Tryz.prog 25 #[.string ⟨d.toArray⟩] w fun e w' => e = .returned (.tuple #[.agg #[.int .u64 k1, .int .u64 k0], .bool ok]) ∧ Below w.heap.size w w'))
    (cJ : Hid (lo ≤ hi → ∀ w, Calls Tryz.prog 13 #[.bool n, .agg #[.int .u64 k1, .int .u64 k0], .int .i64 x] w fun e w' => e = .returned (.tuple #[.int .u64 H, .int .u64 L, .bool jo]) ∧ Below w.heap.size w w')) :
    Calls Tryz.prog 10 #[.string ⟨s.toArray⟩] w fun e w' => e = .returned T ∧ Below w.heap.size w w' := by
  have b1 : (s == [78, 97, 78]) = false := beq_eq_false_iff_ne.2 h1
  have b2 : (s == [73, 110, 102, 105, 110, 105, 116, 121]) = false := beq_eq_false_iff_ne.2 h2
  have b3 : (s == [45, 73, 110, 102, 105, 110, 105, 116, 121]) = false := beq_eq_false_iff_ne.2 h3
  have d1 : decide (300 < (s.length : Int)) = false := decide_eq_false (by omega)
  have HR : Hid (TrimRel (ds N) (.string ⟨c.toArray⟩)) := ⟨c, rfl, hz, hc⟩
  have HN := Lib.hid hN; have HM := Lib.hid hM; have HNM := Lib.hid hNM; have HNL := Lib.hid hNl; have HQ := Lib.hid hq; have HLO := Lib.hid hlo; have HHI := Lib.hid hhi; have HX := Lib.hid hx; have HK := Lib.hid hk; have HD := Lib.hid hd
  clear hl hz hx hc hN hM hNM hNl hq hlo hhi hk hd
  go_enter Tryz.func10, Tryz.ntmps10
  go_wp2_with fail
  refine (cL.out _).mono ?_
  rintro e w5 ⟨rfl, hw⟩; subst w5
  clear cL b1 b2 b3 h1 h2 h3
  go_wp2_with fail
  clear d1
  go_loopw [5] (fun v wr => wr = w ∧ TrimRel (ds N) v) (fun v _ => strLen v)
  case atStart => exact ⟨rfl, HR.out⟩
  case round =>
    obtain ⟨rfl, l, rfl, hl, hlen⟩ := hrel
    clear HR
    cases l with
    | nil =>
      exfalso
      have := ds_pos_len HN.out
      rw [← hl] at this
      simp [Lib.trimLeftB] at this
    | cons a u =>
      by_cases ha : a = 48
      · subst ha
        rw [trim_step] at hl
        have HR2 : Hid (TrimRel (ds N) (.string ⟨u.toArray⟩)) := ⟨u, rfl, hl, by rw [List.length_cons] at hlen; omega⟩
        have HM2 : Hid (strLen (.string ⟨u.toArray⟩) < strLen (.string ⟨(48 :: u).toArray⟩)) := show _ < _ by rw [strLen_of, strLen_of, List.length_cons]; omega
        obtain ⟨f1, f2, f3, f4, f5, f6⟩ := head_facts 48 u
        have c1 : (((48 : UInt8).toNat : Int) == 48) = true := rfl
        clear hl hlen
        generalize 48 :: u = l1 at *
        go_wp2_with fail
        go_roundw
        case rel => exact ⟨trivial, HR2.out⟩
        case measure => exact HM2.out
      · rw [trim_stop ha] at hl
        obtain ⟨f1, f2, f3, f4, f5, f6⟩ := head_facts a u
        have c1 : ((a.toNat : Int) == 48) = false := beq_eq_false_iff_ne.2 (by
          have := byte_ne ha
          have e : (48 : UInt8).toNat = 48 := rfl
          omega)
        have HR2 : Hid (TailRel N (.string ⟨(a :: u).toArray⟩) (.int .i64 0)) := ⟨N, 0, by rw [hl], rfl, HN.out, by simp, by have := HNL.out; omega⟩
        clear hl hlen
        generalize a :: u = l1 at *
        obtain ⟨W0, rfl⟩ : ∃ W0, W0 = wr := ⟨_, rfl⟩
        go_wp2_with fail
        clear f1 f2 f3 f4 f5 f6 c1
        go_loopw [5, 9] (fun v x wr => wr = W0 ∧ TailRel N v x) (fun v _ _ => strLen v)
        case atStart => exact ⟨rfl, HR2.out⟩
        case round =>
          obtain ⟨rfl, M', t', rfl, rfl, hM', hN', hlen⟩ := hrel
          clear HR2
          have hl1 := ds_pos_len hM'
          have hmod : M' % 10 < 10 := Nat.mod_lt _ (by decide)
          have x1 := at_txt (ds M') .i64 (((ds M').length : Int) - 1) ((ds M').length - 1) (by omega) (by omega) wr
          rw [last_ds hM', dig_toNat hmod] at x1
          have d1 : decide (0 < ((ds M').length : Int)) = true := decide_eq_true (by omega)
          have d1n : decide (0 < (ds M').length) = true := decide_eq_true (by omega)
          have e1 : wrap64 (((ds M').length : Int) - 1) = ((ds M').length : Int) - 1 := by unfold wrap64; omega
          by_cases hm : M' % 10 = 0
          · obtain ⟨t1, t2⟩ := ds_strip hM'
            have s1 := upto15 (ds M') ((ds M').length - 1) (((ds M').length : Int) - 1) (by omega) (by omega)
            rw [t1] at s1
            have hM2 : M' / 10 ≠ 0 := by omega
            have HR2 : Hid (TailRel N (.string ⟨(ds (M' / 10)).toArray⟩) (.int .i64 ((t' + 1 : Nat) : Int))) := ⟨M' / 10, t' + 1, rfl, rfl, hM2, by
              rw [hN', Nat.pow_succ, Nat.mul_comm (10 ^ t') 10, ← Nat.mul_assoc]
              congr 1
              omega, by omega⟩
            have HM2 : Hid (strLen (.string ⟨(ds (M' / 10)).toArray⟩) < strLen (.string ⟨(ds M').toArray⟩)) := show _ < _ by rw [strLen_of, strLen_of]; omega
            have HT : Hid (wrap64 ((t' : Int) + 1) = ((t' + 1 : Nat) : Int)) := show _ = _ by unfold wrap64; omega
            rw [hm] at x1
            clear hN' t1 t2 hmod hM' hM2 hlen
            generalize ds (M' / 10) = l2 at *
            generalize ds M' = l1 at *
            clear hm hl1
            go_wp2_with fail
            go_roundw
            case rel => exact ⟨trivial, by rw [HT.out]; exact HR2.out⟩
            case measure => exact HM2.out
          · obtain ⟨rfl, rfl⟩ : M' = M ∧ t' = t := tz_uniq (hN'.symm.trans HNM.out) hm HM.out
            have c1 : (((48 + M' % 10 : Nat) : Int) == 48) = false := beq_eq_false_iff_ne.2 (by omega)
            have c1' : ((48 : Int) + ((M' % 10 : Nat) : Int) == 48) = false := beq_eq_false_iff_ne.2 (by omega)
            have c1'' : ((48 : Int) + ((M' : Nat) : Int) % 10 == 48) = false := beq_eq_false_iff_ne.2 (by omega)
            clear HM hm
            have hq := HQ.out
            have hnl := HNL.out
            have hlm : (ds M').length ≤ 1000 := by omega
            obtain ⟨A, hA⟩ : ∃ A : Int, A = q + (t' : Int) := ⟨_, rfl⟩
            obtain ⟨A34, hA34⟩ : ∃ A34 : Int, A34 = A - 34 := ⟨_, rfl⟩
            obtain ⟨B, hB⟩ : ∃ B : Int, B = A34 + ((ds M').length : Int) := ⟨_, rfl⟩
            obtain ⟨y, hy⟩ : ∃ y : Int, y = max q lo := ⟨_, rfl⟩
            have hlo := HLO.out
            have hhi := HHI.out
            have hx := HX.out
            rw [← hA] at hlo hhi
            rw [← hy] at hx
            have m1 : (if -6176 < B then B else (-6176 : Int)) = lo := by split <;> omega
            have m2 : (if A < 6111 then A else (6111 : Int)) = hi := by split <;> omega
            have m3 : (if q < lo then lo else q) = y := by split <;> omega
            have m4 : (if hi < y then hi else y) = x := by split <;> omega
            have w1 : wrap64 (q + (t' : Int)) = A := by rw [hA]; clear m1 m2 m3 m4; unfold wrap64; omega
            have w2 : wrap64 (A - 34) = A34 := by rw [hA34]; clear m1 m2 m3 m4 w1; unfold wrap64; omega
            have w3 : wrap64 (A34 + ((ds M').length : Int)) = B := by rw [hB]; clear m1 m2 m3 m4 w1 w2; unfold wrap64; omega
            have i1 : (ds M').isEmpty = false := by
              cases hd : ds M' with
              | nil => rw [hd] at hl1; simp at hl1
              | cons a b => rfl
            by_cases hlt : hi < lo
            · have HE : Hid (T = .tuple #[.int .u64 0, .int .u64 0, .int .i64 10]) := show _ = _ by rw [hT.out, if_pos hlt]
              have d2 : decide (hi < lo) = true := decide_eq_true hlt
              clear hq hnl hlm hA hA34 hB hy hlo hhi hx hN' hlen hl1 hmod hlt m3 m4 HX hM'
              generalize ds M' = l2 at *
              go_wp2_with fail
              go_ret3
              exact ⟨by rw [HE.out]; rfl, Below.refl _ _⟩
            · have hle : lo ≤ hi := by omega
              have d2 : decide (hi < lo) = false := decide_eq_false hlt
              have hT2 : Hid (T = if ok = true ∧ jo = true then .tuple #[.int .u64 H, .int .u64 L, .int .i64 0] else .tuple #[.int .u64 0, .int .u64 0, .int .i64 10]) := show _ = _ by rw [hT.out, if_neg hlt]
              have hk := HK.out hle
              rw [← hA] at hk
              have w4 : wrap64 (A - x) = (k : Int) := by rw [hk]; clear m1 m2 m3 m4 w1 w2 w3; unfold wrap64; omega
              have cX2 := Lib.hid (cX.out hle)
              have cJ2 := Lib.hid (cJ.out hle)
              have cN := Lib.hid fun w => noughts_any (k : Int) (by clear m1 m2 m3 m4 w1 w2 w3 w4; omega) w
              rw [Int.toNat_natCast] at cN
              have kk := dcat_is (a := (ds M').toArray) (b := (List.replicate k (48 : UInt8)).toArray) (t := d) rfl rfl (HD.out hle) (by rw [List.length_replicate]; clear m1 m2 m3 m4 w1 w2 w3 w4; omega)
              generalize List.replicate k (48 : UInt8) = zk at *
              have HCF : Hid ((wr.alloc (Obj.cells #[.int .u64 0, .int .u64 0] 31)).heap[wr.heap.size]? = some (.cells #[.int .u64 0, .int .u64 0] 31)) := heap_alloc_new _ _
              clear hq hnl hlm hA hA34 hB hy hlo hhi hx hN' hlen hl1 hmod hlt hk hle HX HK HD hT cX cJ hM'
              generalize ds M' = l2 at *
              go_wp2_with fail
              have HBV : Hid (Below wr.heap.size wr (wr.alloc (Obj.cells #[.int .u64 0, .int .u64 0] 31))) := (Below.refl _ _).alloc (Nat.le_refl _) _
              generalize wr.alloc (Obj.cells #[.int .u64 0, .int .u64 0] 31) = V at *
              obtain ⟨g, hg⟩ : ∃ g, g = wr.heap.size := ⟨_, rfl⟩
              have HGE := Lib.hid hg
              rw [← hg] at HCF HBV ⊢
              clear hg x1 d1 d1n e1 c1 c1' c1'' m1 m2 m3 m4 w1 w2 w3 HLO HHI d2
              refine (cN.out _).mono ?_
              rintro e w5 ⟨rfl, hw⟩; subst w5
              clear cN
              go_wp2_with fail
              refine (cX2.out _).mono ?_
              rintro e w6 ⟨rfl, B6⟩
              have hgV : g < V.heap.size := block_lt HCF.out
              have HC6 : Hid (w6.heap[g]? = some (.cells #[.int .u64 0, .int .u64 0] 31)) := (B6.block g hgV).trans HCF.out
              have HB6 : Hid (Below g wr w6) := HBV.out.trans (B6.mono (Nat.le_of_lt hgV))
              clear B6 cX2 HCF HBV hgV kk
              have p0 : w6.cell? ⟨g, 0, none⟩ = some (.int .u64 0) := by rw [block_cell HC6.out]; rfl
              have q0 : w6.frozen? ⟨g, 0, none⟩ = false := by simp only [World.frozen?, HC6.out]; simp
              have hs1 : (w6.setCell ⟨g, 0, none⟩ (.int .u64 k1)).heap[g]? = some (.cells #[.int .u64 k1, .int .u64 0] 31) := block_set HC6.out 0 _
              have p1 : (w6.setCell ⟨g, 0, none⟩ (.int .u64 k1)).cell? ⟨g, 1, none⟩ = some (.int .u64 0) := by rw [block_cell hs1]; rfl
              have q1 : (w6.setCell ⟨g, 0, none⟩ (.int .u64 k1)).frozen? ⟨g, 1, none⟩ = false := by simp only [World.frozen?, hs1]; simp
              have hs2 : ((w6.setCell ⟨g, 0, none⟩ (.int .u64 k1)).setCell ⟨g, 1, none⟩ (.int .u64 k0)).heap[g]? = some (.cells #[.int .u64 k1, .int .u64 k0] 31) := block_set hs1 1 _
              have HB7 : Hid (Below g wr ((w6.setCell ⟨g, 0, none⟩ (.int .u64 k1)).setCell ⟨g, 1, none⟩ (.int .u64 k0))) := (HB6.out.setCell (p := ⟨g, 0, none⟩) (Nat.le_refl _) _).setCell (p := ⟨g, 1, none⟩) (Nat.le_refl _) _
              have r0 : ((w6.setCell ⟨g, 0, none⟩ (.int .u64 k1)).setCell ⟨g, 1, none⟩ (.int .u64 k0)).cell? ⟨g, 0, none⟩ = some (.int .u64 k1) := by rw [block_cell hs2]; rfl
              have r1 : ((w6.setCell ⟨g, 0, none⟩ (.int .u64 k1)).setCell ⟨g, 1, none⟩ (.int .u64 k0)).cell? ⟨g, 1, none⟩ = some (.int .u64 k0) := by rw [block_cell hs2]; rfl
              have hg7 := block_lt hs2
              clear hs1 HC6 hs2
              go_wp2_with fail
              refine (cJ2.out _).mono ?_
              rintro e w8 ⟨rfl, B8⟩
              have HB8 : Hid (Below wr.heap.size wr w8) := by rw [← HGE.out]; exact HB7.out.trans (B8.mono (Nat.le_of_lt hg7))
              clear B8 cJ2 p0 q0 p1 q1 r0 r1 HB7 HB6 hg7
              cases ok
              · have HE : Hid (T = .tuple #[.int .u64 0, .int .u64 0, .int .i64 10]) := show _ = _ by rw [hT2.out]; rfl
                go_wp2_with fail
                go_ret3
                exact ⟨by rw [HE.out]; rfl, HB8.out⟩
              · cases jo
                · have HE : Hid (T = .tuple #[.int .u64 0, .int .u64 0, .int .i64 10]) := show _ = _ by rw [hT2.out]; rfl
                  go_wp2_with fail
                  go_ret3
                  exact ⟨by rw [HE.out]; rfl, HB8.out⟩
                · have HE : Hid (T = .tuple #[.int .u64 H, .int .u64 L, .int .i64 0]) := show _ = _ by rw [hT2.out]; rfl
                  go_wp2_with fail
                  go_ret3
                  exact ⟨by rw [HE.out]; rfl, HB8.out⟩

/-- What comes of digits and an exponent. -/
theorem ecap_of (E : Int) : (max (-100000) (min E 100000) : Int) = E ∨ (((100000 : Nat) : Int) ≤ E ∧ (max (-100000) (min E 100000) : Int) = ((100000 : Nat) : Int)) ∨ (E ≤ -((100000 : Nat) : Int) ∧ (max (-100000) (min E 100000) : Int) = -((100000 : Nat) : Int)) := by omega
theorem litU_dig {u c : List UInt8} {E : Int} {b : Nat} (h : litU u = some (c, E, b)) : (∀ x ∈ c, isD x = true) ∧ c.length ≤ u.length ∧ b ≤ u.length := by
  rw [← litP_eq] at h
  unfold litP at h
  split at h
  · rename_i hg
    simp only [Option.some.injEq, Prod.mk.injEq] at h
    obtain ⟨rfl, _, rfl⟩ := h
    unfold goodU at hg
    split at hg
    · cases hg
    simp only [Bool.and_eq_true] at hg
    obtain ⟨⟨a1, a2⟩, a3⟩ := hg
    have l1 := (plain_le (l := u)).1
    have e1 : (onesOf u).length + (behindOf u).length ≤ (cutE u).1.length := by
      unfold onesOf behindOf
      generalize (cutE u).1 = x
      cases hd : (cutAt 46 x).2.2 with
      | false => obtain ⟨p, q, _⟩ := cutAt_miss hd; rw [p, q]; simp
      | true =>
        have := congrArg List.length (cutAt_hit hd).1
        rw [List.length_append, List.length_cons] at this
        omega
    exact ⟨dig_append (allD_iff.1 a1) (allD_iff.1 a2), by rw [List.length_append]; omega, by omega⟩
  · cases h

theorem wv_zero : wv 0 = .agg #[.int .u64 0, .int .u64 0] := rfl
/-- A text that is a number, and short enough. -/
theorem dparse_num (s c : List UInt8) (q : Int) (n : Bool) (w : World) (hl : s.length ≤ 300) (hc : ∀ x ∈ c, isD x = true) (hcl : c.length ≤ 300) (hq : -200000 ≤ q ∧ q ≤ 200000)
    (h1 : s ≠ [78, 97, 78]) (h2 : s ≠ [73, 110, 102, 105, 110, 105, 116, 121]) (h3 : s ≠ [45, 73, 110, 102, 105, 110, 105, 116, 121])
    (cL : Hid (∀ w, Calls Tryz.prog 24 #[.string ⟨s.toArray⟩] w fun e w' => e = .returned (.tuple #[.string ⟨c.toArray⟩, .int .i64 q, .bool n, .bool true]) ∧ w' = w)) :
    Calls Tryz.prog 10 #[.string ⟨s.toArray⟩] w fun e w' => e = .returned (rV (pFind n c q)) ∧ Below w.heap.size w w' := by
  have hN := dv_lt c hc
  obtain ⟨B, hBe⟩ : ∃ B : Nat, B = 300 := ⟨_, rfl⟩
  have hN3 : dv 0 c < 10 ^ B := Nat.lt_of_lt_of_le hN (Nat.pow_le_pow_right (by decide) (by omega))
  have ht := trim_ds c hc
  unfold pFind
  have hlen : (ds (dv 0 c)).length ≤ 300 := Nat.le_trans (ds_length B _ hN3) (by omega)
  clear hN3 hBe hN
  generalize dv 0 c = N at *
  by_cases h0 : N = 0
  · subst h0
    rw [ds_zero] at ht
    rw [find_zero]
    have j : Joins 0 (min (max q (-6176)) 6111) := ⟨by decide, by omega, by omega⟩
    have cJ := Lib.hid fun w => refJoin_any n 0 (min (max q (-6176)) 6111) w
    rw [jV_yes j, wv_zero] at cJ
    exact dparse_zero s c q _ _ _ n w hl (by omega) ht rfl h1 h2 h3 cL cJ
  · obtain ⟨M, e0, hM⟩ := tz_form N h0
    generalize tz N = t at e0
    obtain ⟨L, hL⟩ : ∃ L, (ds M).length = L := ⟨_, rfl⟩
    have hf := find_of (t := t) hM hL q
    rw [← e0] at hf
    obtain ⟨lo, hlo⟩ : ∃ lo, lo = max (-6176) (q + (t : Nat) - 34 + (L : Nat)) := ⟨_, rfl⟩
    obtain ⟨hi, hhi⟩ : ∃ hi, hi = min 6111 (q + (t : Nat)) := ⟨_, rfl⟩
    obtain ⟨x, hx⟩ : ∃ x, x = min (max q lo) hi := ⟨_, rfl⟩
    rw [← hlo, ← hhi, ← hx] at hf
    by_cases hlt : hi < lo
    · rw [if_pos hlt] at hf
      rw [hf]
      exact dparse_pos s c q x lo hi 0 0 0 0 n true true N M t 0 _ [] w hl (by omega) h0 ht hM e0 hlen hq (by rw [hL]; exact hlo) hhi hx (fun h => by omega) (fun h => by omega) (Lib.hid (by rw [if_pos hlt]; rfl)) h1 h2 h3 cL (Lib.hid fun h => by omega) (Lib.hid fun h => by omega)
    · rw [if_neg hlt] at hf
      obtain ⟨k, hk⟩ : ∃ k : Nat, q + (t : Nat) - x = k := ⟨(q + (t : Nat) - x).toNat, by omega⟩
      rw [hk, Int.toNat_natCast] at hf
      obtain ⟨j, _, _⟩ := find_some hf
      rw [hf]
      have hd : ds M ++ List.replicate k 48 = dec (M * 10 ^ k) := by
        have hp : 0 < 10 ^ k := Nat.pow_pos (by decide)
        rw [dec_pos (Nat.mul_ne_zero (by omega) (by omega)), ds_pow (by omega)]
      generalize M * 10 ^ k = K at *
      have hK : K < 340282366920938463463374607431768211456 := Nat.lt_trans j.1 (by decide)
      have hdl := (parse_dec hK).2
      have cX := Lib.hid fun w => refParse_any (dec K) (by omega) w
      rw [(parse_dec hK).1] at cX
      have cJ := Lib.hid fun w => refJoin_any n K x w
      rw [jV_yes j] at cJ
      exact dparse_pos s c q x lo hi _ _ _ _ n true true N M t k _ (dec K) w hl (by omega) h0 ht hM e0 hlen hq (by rw [hL]; exact hlo) hhi hx (fun _ => hk) (fun _ => hd) (Lib.hid (by rw [if_neg hlt, if_pos ⟨rfl, rfl⟩]; rfl)) h1 h2 h3 cL (Lib.hid fun _ => cX.out) (Lib.hid fun _ => cJ.out)

theorem refDecParse_any (s : List UInt8) (hs : s.length ≤ 1000) (w : World) :
    Calls Tryz.prog 10 #[.string ⟨s.toArray⟩] w fun e w' => e = .returned (rV (pAns s)) ∧ Below w.heap.size w w' := by
  by_cases h1 : s = tN
  · exact dparse_name s _ w (.inl ⟨h1, by rw [h1, name_ans.1]; rfl⟩)
  by_cases h2 : s = tI
  · exact dparse_name s _ w (.inr (.inl ⟨h2, by rw [h2, show tI = sg false ++ tI from rfl, name_ans.2.1]; rfl⟩))
  by_cases h3 : s = 45 :: tI
  · exact dparse_name s _ w (.inr (.inr ⟨h3, by rw [h3, show 45 :: tI = sg true ++ tI from rfl, name_ans.2.2]; rfl⟩))
  have hul : (unsign s).length ≤ s.length := unsign_le s
  have hA : pAns s = pNum (minus s) s.length (unsign s) := by
    unfold pAns
    rw [if_neg h1, if_neg h2, if_neg h3]
  rw [hA]
  clear hA
  have cL := fun w => literal_any s hs w
  unfold pNum
  unfold litV at cL
  cases hu : litU (unsign s) with
  | none =>
    rw [hu] at cL
    refine dparse_form s w h1 h2 h3 (Lib.hid fun w => (cL w).mono ?_)
    rintro e w' ⟨⟨v, rfl, c, q, n, ok, rfl, rfl⟩, hw⟩
    exact ⟨⟨c, q, n, rfl⟩, hw⟩
  | some r =>
    obtain ⟨c, E, b⟩ := r
    rw [hu] at cL
    obtain ⟨hd, hl1, hl2⟩ := litU_dig hu
    have cL2 : Hid (∀ w, Calls Tryz.prog 24 #[.string ⟨s.toArray⟩] w fun e w' => e = .returned (.tuple #[.string ⟨c.toArray⟩, .int .i64 (max (-100000) (min E 100000) - (b : Nat)), .bool (minus s), .bool true]) ∧ w' = w) := fun w => (cL w).mono (by
      rintro e w' ⟨⟨v, rfl, c', q, n, ok, rfl, rfl, rfl, rfl, rfl⟩, hw⟩
      exact ⟨rfl, hw⟩)
    dsimp only
    by_cases hl : 300 < s.length
    · rw [if_pos hl]
      exact dparse_long s c _ _ w hl h1 h2 h3 cL2
    · rw [if_neg hl]
      obtain ⟨B, hBe⟩ : ∃ B : Nat, B = 300 := ⟨_, rfl⟩
      have hN3 : dv 0 c < 10 ^ B := Nat.lt_of_lt_of_le (dv_lt c hd) (Nat.pow_le_pow_right (by decide) (by omega))
      have hcap := find_cap (N := dv 0 c) (B := B) (C := 100000) (b := b) hN3 (by omega) (by omega) (by decide) (ecap_of E)
      have := dparse_num s c (max (-100000) (min E 100000) - (b : Nat)) (minus s) w (by omega) hd (by omega) (by omega) h1 h2 h3 cL2
      unfold pFind at this ⊢
      rw [hcap] at this
      exact this
end Go.Proofs.YtkkoefiennccoaaGreatDoor
