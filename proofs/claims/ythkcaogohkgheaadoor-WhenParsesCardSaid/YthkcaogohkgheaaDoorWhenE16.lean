/-
  What when's number, isDigit, hasForm do.
-/
import Derived.Test.YthkcaogohkgheaaDoorWhenD16
import Derived.Test.YthkcaogohkgheaaDoorRefP16
namespace Go.Proofs.YthkcaogohkgheaaDoor
set_option maxRecDepth 100000
open Go.RowKit

set_option maxHeartbeats 2000000 in
theorem number_any (s : List UInt8) (hs : s.length ≤ 10) (hall : s.all dig = true) (w : World) :
    Calls Tryd.prog 20 #[.string ⟨s.toArray⟩] w fun e w' => e = .returned (.int .i64 ((valW s : Nat) : Int)) ∧ w' = w := by
  have HD : Hid (∀ k, k < s.length → 48 ≤ (s.getD k 0).toNat ∧ (s.getD k 0).toNat ≤ 57) := show ∀ _, _ from fun k h => by
    rw [List.all_eq_true] at hall
    have := hall (s.getD k 0) (by
      have g : s.getD k 0 = s[k] := by simp [List.getD, h]
      rw [g]; exact List.getElem_mem h)
    exact of_decide_eq_true this
  have HV : Hid (∀ k, k ≤ s.length → valW (s.take k) < 10000000000) := show ∀ _, _ from fun k h => by
    have h1 : (s.take k).all dig = true := by
      rw [List.all_eq_true] at hall ⊢
      exact fun x hx => hall x (List.mem_of_mem_take hx)
    have hlen : (s.take k).length ≤ 10 := by rw [List.length_take]; omega
    exact Nat.lt_of_lt_of_le (val_lt _ h1) (show 10 ^ (s.take k).length ≤ 10 ^ 10 from Nat.pow_le_pow_right (by decide) hlen)
  obtain ⟨T, hT⟩ : ∃ T, T = valW s := ⟨_, rfl⟩
  rw [← hT]
  have HT := Lib.hid hT
  obtain ⟨N, hN⟩ : ∃ N, N = s.length := ⟨_, rfl⟩
  have HN := Lib.hid hN
  have HNb : Hid (N ≤ 10) := show _ ≤ _ by rw [hN]; exact hs
  clear hT hN hs hall
  go_enter Tryd.func20, Tryd.ntmps20
  go_wp2_with fail
  go_loopw [3, 7] (fun v i wr => wr = w ∧ ∃ k : Nat, k ≤ N ∧ i = .int .i64 (k : Int) ∧ v = .int .i64 ((valW (s.take k) : Nat) : Int)) (fun _ i _ => N - (intOf i).toNat)
  case atStart => exact ⟨rfl, 0, by omega, rfl, rfl⟩
  case round =>
    obtain ⟨rfl, k, hk, rfl, rfl⟩ := hrel
    by_cases hlt : k < N
    · have hks : k < s.length := by rw [← HN.out]; exact hlt
      have hkb : k ≤ 10 := by have := HNb.out; omega
      have d1 : decide ((k : Int) < (s.length : Int)) = true := decide_eq_true (by omega)
      have d1n : decide (k < s.length) = true := decide_eq_true hks
      have x1 := at_txt s .i64 (k : Int) k rfl hks wr
      have hv := val_step hks
      have hvb2 := HV.out k (Nat.le_of_lt hks)
      obtain ⟨c1, c2⟩ := HD.out k hks
      generalize s.getD k 0 = c at *
      obtain ⟨d, hdd⟩ : ∃ d, d = c.toNat - 48 := ⟨_, rfl⟩
      rw [← hdd] at hv
      obtain ⟨q, hq⟩ : ∃ q, q = valW (s.take (k + 1)) := ⟨_, rfl⟩
      rw [← hq] at hv
      have HQ := Lib.hid hq
      generalize valW (s.take k) = p at *
      have e1 : IntKind.u8.wrap ((c.toNat : Int) - 48) = (d : Int) := by rw [IntKind.wrap_u8]; omega
      obtain ⟨A, hA⟩ : ∃ A : Nat, A = 10 * p := ⟨_, rfl⟩
      have f1 : 10 * (p : Int) = (A : Int) := by omega
      have f2 : (A : Int) + (d : Int) = (q : Int) := by omega
      have b1 : A ≤ 4000000000000000000 := by omega
      have b2 : q ≤ 4000000000000000000 := by omega
      have b3 : d ≤ 4000000000000000000 := by omega
      have e2 : wrap64 (10 * (p : Int)) = (A : Int) := w64 f1 b1
      have e3 : wrap64 (d : Int) = (d : Int) := w64 rfl b3
      have e4 : Hid (wrap64 ((A : Int) + (d : Int)) = (q : Int)) := w64 f2 b2
      have HK : Hid (k + 1 ≤ N) := hlt
      have HW : Hid (wrap64 ((k : Int) + 1) = ((k + 1 : Nat) : Int)) := show _ = _ from w64 (by omega) (by omega)
      clear hv hvb2 c1 c2 hq hdd hA hlt hk hks hkb f1 f2 b1 b2 b3
      go_wp2_with fail
      go_roundw
      case rel => exact ⟨trivial, k + 1, HK.out, by rw [HW.out], by rw [e4.out, HQ.out]⟩
      case measure => rw [HW.out]; have := HK.out; simp [intOf]; omega
    · obtain rfl : k = N := by omega
      have d1 : decide ((k : Int) < (s.length : Int)) = false := by rw [← HN.out]; simp
      have d1n : decide (k < s.length) = false := by rw [← HN.out]; simp
      have ht : s.take k = s := List.take_of_length_le (by rw [← HN.out]; omega)
      rw [ht]
      have HE : Hid (T = ((valW s : Nat))) := HT
      clear ht hk hlt
      generalize valW s = p at *
      go_wp2_with fail
      go_ret
      exact ⟨by rw [HE.out]; rfl, rfl⟩

set_option maxHeartbeats 1000000 in
theorem isDigit_any (c : UInt8) (w : World) :
    Calls Tryd.prog 29 #[.int .u8 (c.toNat : Int)] w fun e w' => e = .returned (.bool (dig c)) ∧ w' = w := by
  obtain ⟨r, hr⟩ : ∃ r, r = dig c := ⟨_, rfl⟩
  rw [← hr]
  unfold dig at hr
  by_cases h1 : 48 ≤ c.toNat
  · have d1 : decide (48 ≤ (c.toNat : Int)) = true := decide_eq_true (by omega)
    have d1n : decide (48 ≤ c.toNat) = true := decide_eq_true h1
    by_cases h2 : c.toNat ≤ 57
    · have d2 : decide ((c.toNat : Int) ≤ 57) = true := decide_eq_true (by omega)
      have d2n : decide (c.toNat ≤ 57) = true := decide_eq_true h2
      have HR : Hid (r = true) := hr.trans (decide_eq_true ⟨h1, h2⟩)
      clear hr h1 h2
      go_enter Tryd.func29, Tryd.ntmps29
      go_wp2_with fail
      go_ret
      exact ⟨by rw [HR.out]; rfl, rfl⟩
    · have d2 : decide ((c.toNat : Int) ≤ 57) = false := decide_eq_false (by omega)
      have d2n : decide (c.toNat ≤ 57) = false := decide_eq_false h2
      have HR : Hid (r = false) := hr.trans (decide_eq_false (fun h => h2 h.2))
      clear hr h1 h2
      go_enter Tryd.func29, Tryd.ntmps29
      go_wp2_with fail
      go_ret
      exact ⟨by rw [HR.out]; rfl, rfl⟩
  · have d1 : decide (48 ≤ (c.toNat : Int)) = false := decide_eq_false (by omega)
    have d1n : decide (48 ≤ c.toNat) = false := decide_eq_false h1
    have HR : Hid (r = false) := hr.trans (decide_eq_false (fun h => h1 h.1))
    clear hr h1
    go_enter Tryd.func29, Tryd.ntmps29
    go_wp2_with fail
    go_ret
    exact ⟨by rw [HR.out]; rfl, rfl⟩

/-- A byte at a form's byte. -/
def okB (f c : UInt8) : Bool := if f = 48 then dig c else decide (f = c)
/-- A text of a form. -/
def formP (s form : List UInt8) : Prop := s.length = form.length ∧ ∀ i, i < form.length → okB (form.getD i 0) (s.getD i 0) = true
instance (s form : List UInt8) : Decidable (formP s form) := by unfold formP; infer_instance
theorem bne_u8 {f c : UInt8} (h : f = c) : ((f.toNat : Int) == (c.toNat : Int)) = true ∧ ((f.toNat : Int) != (c.toNat : Int)) = false := by subst h; simp
theorem bne_u8' {f c : UInt8} (h : f ≠ c) : ((f.toNat : Int) == (c.toNat : Int)) = false ∧ ((f.toNat : Int) != (c.toNat : Int)) = true := by
  have e : ((f.toNat : Int) == (c.toNat : Int)) = false := beq_eq_false_iff_ne.2 (fun e => h (by rw [← UInt8.toNat_inj]; omega))
  exact ⟨e, by rw [bne, e]; rfl⟩

set_option maxHeartbeats 4000000 in
theorem hasForm_any (s form : List UInt8) (hf : form.length ≤ 1000000) (w : World) :
    Calls Tryd.prog 19 #[.string ⟨s.toArray⟩, .string ⟨form.toArray⟩] w fun e w' => e = .returned (.bool (decide (formP s form))) ∧ Below w.heap.size w w' := by
  obtain ⟨r, hr⟩ : ∃ r, r = decide (formP s form) := ⟨_, rfl⟩
  rw [← hr]
  by_cases hl : s.length = form.length
  · have HR : Hid (r = true ↔ ∀ i, i < form.length → okB (form.getD i 0) (s.getD i 0) = true) := show _ ↔ _ by
      rw [hr, decide_eq_true_iff]
      unfold formP
      exact ⟨fun h => h.2, fun h => ⟨hl, h⟩⟩
    have HL := Lib.hid hl; have HB := Lib.hid hf
    have e1 : ((s.length : Int) == (form.length : Int)) = true := by rw [hl]; exact beq_self_eq_true _
    have e2 : ((s.length : Int) != (form.length : Int)) = false := by rw [bne, e1]; rfl
    clear hr hl hf
    go_enter Tryd.func19, Tryd.ntmps19
    go_wp2_with fail
    clear e1 e2
    go_loopw [13] (fun i wr => Below w.heap.size w wr ∧ ∃ k : Nat, k ≤ form.length ∧ i = .int .i64 (k : Int) ∧ ∀ i, i < k → okB (form.getD i 0) (s.getD i 0) = true) (fun i _ => form.length - (intOf i).toNat)
    case atStart => exact ⟨Below.refl _ _, 0, by omega, rfl, fun i h => absurd h (Nat.not_lt_zero _)⟩
    case round =>
      obtain ⟨hB, k, hk, rfl, hall⟩ := hrel
      by_cases hlt : k < form.length
      · have hks : k < s.length := by rw [HL.out]; exact hlt
        have hkb : k ≤ 1000000 := by have := HB.out; omega
        have d1 : decide ((k : Int) < (form.length : Int)) = true := decide_eq_true (by omega)
        have d1n : decide (k < form.length) = true := decide_eq_true hlt
        have x1 := fun w => at_txt form .i64 (k : Int) k rfl hlt w
        have x2 := fun w => at_txt s .i64 (k : Int) k rfl hks w
        have HW : Hid (wrap64 ((k : Int) + 1) = ((k + 1 : Nat) : Int)) := show _ = _ from w64 (by omega) (by omega)
        have HB2 := Lib.hid hB
        have HK : Hid (k + 1 ≤ form.length) := hlt
        have HY : Hid (okB (form.getD k 0) (s.getD k 0) = true → ∀ i, i < k + 1 → okB (form.getD i 0) (s.getD i 0) = true) := show _ → _ from fun h i hi => by
          rcases Nat.lt_succ_iff_lt_or_eq.1 hi with g | g
          · exact hall i g
          · rw [g]; exact h
        have HZ : Hid (okB (form.getD k 0) (s.getD k 0) = false → r = false) := show _ → _ from fun h => by
          cases e : r with
          | false => rfl
          | true => rw [HR.out.1 e k hlt] at h; cases h
        clear hall hB hlt hk hks hkb
        generalize form.getD k 0 = f at *
        generalize s.getD k 0 = c at *
        have cI := fun w => isDigit_any c w
        obtain ⟨v, hv⟩ : ∃ v, v = okB f c := ⟨_, rfl⟩
        rw [← hv] at HY HZ
        unfold okB at hv
        by_cases hf48 : f = 48
        · rw [if_pos hf48] at hv
          rw [← hv] at cI
          have n1 : ((f.toNat : Int) == 48) = true := by rw [hf48]; rfl
          have n2 : ((f.toNat : Int) != 48) = false := by rw [hf48]; rfl
          clear hv hf48
          cases v
          case false =>
            go_wp2_with fail
            go_quiet (first | (go_at_call 29; exact Calls.quiet_of_same (cI _)))
            have HB3 := Lib.hid (HB2.out.trans ((show Below wr.heap.size wr (wr.drewN nq) from ⟨rfl, rfl, rfl, Nat.le_refl _, fun _ _ => rfl⟩).mono HB2.out.size))
            generalize wr.drewN nq = w2 at *
            go_wp2_with fail
            go_ret
            exact ⟨by rw [HZ.out trivial]; rfl, HB3.out⟩
          case true =>
            go_wp2_with fail
            go_quiet (first | (go_at_call 29; exact Calls.quiet_of_same (cI _)))
            have HB3 := Lib.hid (HB2.out.trans ((show Below wr.heap.size wr (wr.drewN nq) from ⟨rfl, rfl, rfl, Nat.le_refl _, fun _ _ => rfl⟩).mono HB2.out.size))
            generalize wr.drewN nq = w2 at *
            go_wp2_with fail
            go_roundw
            case rel => exact ⟨HB3.out, k + 1, HK.out, by rw [HW.out], HY.out trivial⟩
            case measure => rw [HW.out]; have := HK.out; simp [intOf]; omega
        · rw [if_neg hf48] at hv
          obtain ⟨n1, n2⟩ := ne16 (b := 48) (k := 48) hf48 rfl
          by_cases hfc : f = c
          · obtain ⟨n3, n4⟩ := bne_u8 hfc
            have hvt : v = true := hv.trans (decide_eq_true hfc)
            clear hv hf48 hfc
            subst hvt
            go_wp2_with fail
            go_quiet (first | (go_at_call 29; exact Calls.quiet_of_same (cI _)))
            have HB3 := Lib.hid (HB2.out.trans ((show Below wr.heap.size wr (wr.drewN nq) from ⟨rfl, rfl, rfl, Nat.le_refl _, fun _ _ => rfl⟩).mono HB2.out.size))
            generalize wr.drewN nq = w2 at *
            go_wp2_with fail
            go_roundw
            case rel => exact ⟨HB3.out, k + 1, HK.out, by rw [HW.out], HY.out trivial⟩
            case measure => rw [HW.out]; have := HK.out; simp [intOf]; omega
          · obtain ⟨n3, n4⟩ := bne_u8' hfc
            have hvt : v = false := hv.trans (decide_eq_false hfc)
            clear hv hf48 hfc
            subst hvt
            go_wp2_with fail
            go_quiet (first | (go_at_call 29; exact Calls.quiet_of_same (cI _)))
            have HB3 := Lib.hid (HB2.out.trans ((show Below wr.heap.size wr (wr.drewN nq) from ⟨rfl, rfl, rfl, Nat.le_refl _, fun _ _ => rfl⟩).mono HB2.out.size))
            generalize wr.drewN nq = w2 at *
            go_wp2_with fail
            go_ret
            exact ⟨by rw [HZ.out trivial]; rfl, HB3.out⟩
      · have d1 : decide ((k : Int) < (form.length : Int)) = false := decide_eq_false (by omega)
        have d1n : decide (k < form.length) = false := decide_eq_false hlt
        have HE : Hid (r = true) := show _ = _ from HR.out.2 (fun i hi => hall i (by omega))
        have HB2 := Lib.hid hB
        clear hall hB hlt hk
        go_wp2_with fail
        go_ret
        exact ⟨by rw [HE.out]; rfl, HB2.out⟩
  · have HE : Hid (r = false) := show _ = _ from hr.trans (decide_eq_false (fun h => hl h.1))
    have e1 : ((s.length : Int) == (form.length : Int)) = false := beq_eq_false_iff_ne.2 (by omega)
    have e2 : ((s.length : Int) != (form.length : Int)) = true := by rw [bne, e1]; rfl
    clear hr hl hf
    go_enter Tryd.func19, Tryd.ntmps19
    go_wp2_with fail
    go_ret
    exact ⟨by rw [HE.out]; rfl, Below.refl _ _⟩
end Go.Proofs.YthkcaogohkgheaaDoor
