/-
  What the document's Regular does (chapter 17), for every row of Kids; no condition.
-/
import Derived.Test.YtfpocpmcoobjkaaDoorRefS17
import Derived.Test.YtfpocpmcoobjkaaDoorRefI17
namespace Go.Proofs.YtfpocpmcoobjkaaDoor
set_option maxRecDepth 100000
open Go.RowKit
open Go.Lib (decDigits)

/-- Are the Names the numbers from i on? -/
def regF : Nat → List Kid → Bool
  | _, [] => true
  | i, x :: l => (x.1 == decDigits i) && regF (i + 1) l
theorem regF_step {l : List Kid} {i : Nat} (h : i < l.length) : regF i (l.drop i) = (((l[i]).1 == decDigits i) && regF (i + 1) (l.drop (i + 1))) := by
  rw [List.drop_eq_getElem_cons h, regF]
set_option maxHeartbeats 4000000 in
theorem refRegular_any (A : Option Addr) (l : List Kid) (c : Nat) (w : World) (hlen : l.length ≤ maxLen) (hkids : l ≠ [] → ∃ b off, A = some ⟨b, off, none⟩ ∧ b < w.heap.size ∧ KidsAt w (· < w.heap.size) b off l) :
    Calls Tryd.prog 21 #[.slice A l.length c] w fun e w' => e = .returned (.bool (regF 0 l)) ∧ Below w.heap.size w w' := by
  obtain ⟨R, hR⟩ : ∃ R, R = regF 0 l := ⟨_, rfl⟩
  rw [← hR]
  have HR : Hid (R = regF 0 (l.drop 0)) := hR
  have HK := Lib.hid hkids
  have HL : Hid (l.length ≤ 9223372036854775807) := hlen
  clear hR hkids hlen
  go_enter Tryd.func21, Tryd.ntmps21
  go_wp2_with fail
  go_loopw [3] (fun i wr => Below w.heap.size w wr ∧ ∃ k : Nat, k ≤ l.length ∧ i = .int .i64 (k : Int) ∧ R = regF k (l.drop k)) (fun i _ => l.length - natV i)
  case atStart => exact ⟨Below.refl _ _, 0, Nat.zero_le _, rfl, HR.out⟩
  case round =>
    obtain ⟨hB, k, hk, rfl, hr⟩ := hrel
    have HB := Lib.hid hB
    have hl := HL.out
    by_cases hlt : k < l.length
    · have d1 : decide ((k : Int) < (l.length : Int)) = true := decide_eq_true (by omega)
      have d1n : decide (k < l.length) = true := decide_eq_true hlt
      rw [regF_step hlt] at hr
      obtain ⟨b, off, rfl, hbl, hK⟩ := HK.out (fun e => by rw [e] at hlt; exact absurd hlt (Nat.not_lt_zero _))
      obtain ⟨c0, c1, c2, c3, c4, c5, c6, c7, c8, hn, hnl, _, _⟩ := kid_at hK hB hbl k hlt
      obtain ⟨nm, hnm⟩ : ∃ nm, nm = l[k].1 := ⟨_, rfl⟩
      rw [← hnm] at hn hr
      have hlti : (k : Int) < (l.length : Int) := by omega
      have HK1 : Hid (k + 1 ≤ l.length) := hlt
      have u2 : Hid (wrap64 ((k : Int) + 1) = ((k + 1 : Nat) : Int)) := show _ = _ from w63 (by omega) (by omega)
      have u3 : IntKind.u64.wrap (k : Int) = (k : Int) := by rw [IntKind.wrap_u64]; omega
      have cD : ∀ d os, Calls Tryd.prog 29 #[.int .u64 (k : Int)] (Sort.grow (redrawn wr d) os) fun x w'' => x = .returned (.string ⟨(decDigits k).toArray⟩) ∧ ∃ p : Regrown, w'' = Sort.grow (redrawn wr p.d) p.os :=
        fun d os => Calls.regrown_of (refDigits_any k (by unfold most64; omega) _)
      have rn := cell_regrown hn
      obtain ⟨D, hD⟩ : ∃ D, D = decDigits k := ⟨_, rfl⟩
      rw [← hD] at hr
      simp only [← hD] at cD
      by_cases hnn : nm = D
      · have e1 : (nm == D) = true := beq_iff_eq.2 hnn
        have e2 : (nm != D) = false := by rw [bne, e1]; rfl
        have e3 : (D == D) = true := beq_self_eq_true _
        have e4 : (D != D) = false := by rw [bne, e3]; rfl
        rw [e1, Bool.true_and] at hr
        have HE := Lib.hid hr
        clear hr hnm hnl hn hK hk hB hbl hD hl
        subst hnn
        go_upto_region 4 with fail
        refine wp_region_quiet_below (by kernel_rfl) (by kernel_rfl) ?_
        repeat (go_big_quiet_step (first | with_reducible exact cD _ _))
        refine wpQuiet_nil ?_
        intro _ hw'
        obtain ⟨⟨dq, osq⟩, hw''⟩ := hw'
        subst hw''
        have HB5 := Lib.hid (HB.out.trans ((below_regrown wr dq osq).mono HB.out.size))
        clear cD rn
        generalize Sort.grow (redrawn wr dq) osq = w2 at *
        go_wp2_with fail
        go_roundw
        case rel => exact ⟨HB5.out, k + 1, HK1.out, by first | rfl | rw [u2.out], HE.out⟩
        case measure => (try rw [u2.out]); have := HK1.out; simp [natV]; omega
      · have e1 : (nm == D) = false := beq_eq_false_iff_ne.2 hnn
        have e2 : (nm != D) = true := by rw [bne, e1]; rfl
        have HE : Hid (R = false) := show _ = _ from hr.trans (by rw [e1]; rfl)
        clear hr hnm hnl hn hK hk hB hbl hD hl
        go_upto_region 4 with fail
        refine wp_region_quiet_below (by kernel_rfl) (by kernel_rfl) ?_
        repeat (go_big_quiet_step (first | with_reducible exact cD _ _))
        refine wpQuiet_nil ?_
        intro _ hw'
        obtain ⟨⟨dq, osq⟩, hw''⟩ := hw'
        subst hw''
        have HB5 := Lib.hid (HB.out.trans ((below_regrown wr dq osq).mono HB.out.size))
        clear cD rn
        go_wp2_with fail
        go_ret
        exact ⟨by rw [HE.out]; rfl, HB5.out⟩
    · obtain rfl : k = l.length := by omega
      have d1 : decide ((l.length : Int) < (l.length : Int)) = false := decide_eq_false (by omega)
      have d1n : decide (l.length < l.length) = false := decide_eq_false (by omega)
      have HE : Hid (R = true) := show _ = _ by rw [hr, List.drop_length, regF]
      clear hr hlt hk hB hl
      go_wp2_with fail
      go_ret
      exact ⟨by rw [HE.out]; rfl, HB.out⟩
end Go.Proofs.YtfpocpmcoobjkaaDoor
