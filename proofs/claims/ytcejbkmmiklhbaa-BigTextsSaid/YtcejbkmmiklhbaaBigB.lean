/-
  What Same, trimmed, digit do, of the program and of the document. No condition beyond what each contract says.
-/
import Derived.Test.YtcejbkmmiklhbaaBigA
namespace Go.Proofs.Ytcejbkmmiklhbaa
open Go.RowKit

/-- Behind k numbers that are alike. -/
def AlikeN (xs ys : List Nat) (k : Nat) : Prop := ∀ i, i < k → xs.getD i 0 = ys.getD i 0
theorem alikeN_all {xs ys : List Nat} (hl : xs.length = ys.length) (h : AlikeN xs ys xs.length) : xs = ys := by
  apply List.ext_getElem hl
  intro i h1 h2
  have := h i h1
  simpa [List.getD, h1, h2] using this

set_option maxHeartbeats 2000000 in
theorem same_any (A : Option Addr) (n c : Nat) (xs : List Nat) (B : Option Addr) (m d : Nat) (ys : List Nat) (w : World) (h1 : Digs w A n xs) (h2 : Digs w B m ys) (hn : n ≤ 1000000000) (hm : m ≤ 1000000000) :
    Calls Try.prog 16 #[.slice A n c, .slice B m d] w fun x w' => x = .returned (.bool (decide (xs = ys))) ∧ Below w.heap.size w w' := by
  obtain ⟨r, hr⟩ : ∃ r, r = decide (xs = ys) := ⟨_, rfl⟩
  rw [← hr]
  have HR := Lib.hid hr
  have H1 := Lib.hid h1
  have H2 := Lib.hid h2
  clear hr h1 h2
  by_cases hnm : n = m
  · have d0 : ((n : Int) != (m : Int)) = false := by simp [hnm]
    have d0n : (n != m) = false := by simpa using hnm
    have HNm := Lib.hid hnm
    clear hnm
    go_enter Try.func16, Try.ntmps16
    go_wp2_with fail
    go_loopw [5] (fun i wr => Below w.heap.size w wr ∧ ∃ k : Nat, k ≤ n ∧ i = .int .i64 (k : Int) ∧ AlikeN xs ys k) (fun i _ => n - (intOf i).toNat)
    case atStart => exact ⟨Below.refl _ _, 0, by omega, rfl, fun i hi => absurd hi (by omega)⟩
    case round =>
      obtain ⟨Br, k, hk, rfl, hal⟩ := hrel
      have HAl := Lib.hid hal
      clear hal
      by_cases hlt : k < n
      · have d1 : decide ((k : Int) < (n : Int)) = true := by simp; omega
        have d1n : decide (k < n) = true := by simp; omega
        have hkm : k < m := by have := HNm.out; omega
        obtain ⟨b0, o, rfl, m1, hc⟩ := H1.out.2.2 (by omega)
        obtain ⟨b1, p, rfl, m2, hd⟩ := H2.out.2.2 (by omega)
        have x1 := (Br.cell (p := ⟨b0, o + k, none⟩) m1).trans (hc k hlt)
        have x2 := (Br.cell (p := ⟨b1, p + k, none⟩) m2).trans (hd k hkm)
        clear hc hd m1 m2
        by_cases he : xs.getD k 0 = ys.getD k 0
        · have HA2 : Hid (AlikeN xs ys (k + 1)) := fun i hi => by
            by_cases hik : i < k
            · exact HAl.out i hik
            · obtain rfl : i = k := by omega
              exact he
          have e1 : ((xs.getD k 0 : Int) != (ys.getD k 0 : Int)) = false := bne_f he
          generalize xs.getD k 0 = x at *
          generalize ys.getD k 0 = y at *
          clear he HAl
          go_wp2_with fail
          go_quiet (fail)
          have BD : Below w.heap.size w (wr.drewN nq) := drawn_below Br _
          generalize wr.drewN nq = wd at *
          go_wp2_with fail
          go_roundw
          case rel => exact ⟨BD, k + 1, by omega, ret_val (by omega), HA2.out⟩
          case measure => simp [intOf]; omega
        · have HE : Hid (r = false) := show _ = _ by
            rw [HR.out]
            exact decide_eq_false (fun h => he (by rw [h]))
          have e1 : ((xs.getD k 0 : Int) != (ys.getD k 0 : Int)) = true := bne_t he
          generalize xs.getD k 0 = x at *
          generalize ys.getD k 0 = y at *
          clear he HAl
          go_wp2_with fail
          go_quiet (fail)
          have BD : Below w.heap.size w (wr.drewN nq) := drawn_below Br _
          generalize wr.drewN nq = wd at *
          go_wp2_with fail
          go_ret
          exact ⟨by rw [HE.out]; rfl, BD⟩
      · obtain rfl : k = n := by omega
        have d1 : decide ((k : Int) < (k : Int)) = false := by simp
        have HE : Hid (r = true) := show _ = _ by
          rw [HR.out]
          refine decide_eq_true (alikeN_all ?_ ?_)
          · rw [H1.out.1, H2.out.1]; exact HNm.out
          · rw [H1.out.1]; exact HAl.out
        go_wp2_with fail
        go_ret
        exact ⟨by rw [HE.out]; rfl, Br⟩
  · have d0 : ((n : Int) != (m : Int)) = true := bne_iff_ne.2 (by omega)
    have d0n : (n != m) = true := by simpa using hnm
    have HE : Hid (r = false) := show _ = _ by
      rw [HR.out]
      exact decide_eq_false (fun h => hnm (by rw [← H1.out.1, ← H2.out.1, h]))
    clear hnm
    go_enter Try.func16, Try.ntmps16
    go_wp2_with fail
    go_ret
    exact ⟨by rw [HE.out]; rfl, Below.refl _ _⟩

/-- The noughts that are left out: what is left of xs is worth as much. -/
def TrimAt (w : World) (A : Option Addr) (c : Nat) (xs : List Nat) (v : Value) (wr : World) : Prop :=
  wr = w ∧ ∃ k : Nat, k ≤ xs.length ∧ v = .slice A k c ∧ nv (xs.take k) = nv xs
def sliceLen (v : Value) : Nat := match v with | .slice _ n _ => n | _ => 0

set_option maxHeartbeats 2000000 in
theorem trimmed_any (A : Option Addr) (n c : Nat) (xs : List Nat) (w : World) (h : Digs w A n xs) (hn : n ≤ 1000000000) (hc : n ≤ c) (hcm : c ≤ 9223372036854775807) :
    Calls Try.prog 43 #[.slice A n c] w fun e w' => e = .returned (.slice A (dg (nv xs)).length c) ∧ Digs w A (dg (nv xs)).length (dg (nv xs)) ∧ (dg (nv xs)).length ≤ n ∧ w' = w := by
  have H := Lib.hid h
  have hl := Lib.hid h.1
  have HC := Lib.hid hc
  clear h
  go_enter Try.func43, Try.ntmps43
  go_wp2_with fail
  go_loopw [0] (fun v wr => TrimAt w A c xs v wr) (fun v _ => sliceLen v)
  case atStart => exact ⟨rfl, n, by rw [hl.out]; exact Nat.le_refl _, rfl, by rw [List.take_of_length_le (by rw [hl.out]; exact Nat.le_refl _)]⟩
  case round =>
    obtain ⟨rfl, k, hk, rfl, hv⟩ := hrel
    have hkn : k ≤ n := by rw [← hl.out]; exact hk
    have HT := Lib.hid (H.out.take hkn)
    have HV := Lib.hid hv
    clear hv hk
    by_cases h0 : k = 0
    · subst h0
      have HE : Hid (dg (nv xs) = []) := show _ = _ by rw [← HV.out]; exact dg_zero
      go_wp2_with fail
      go_ret
      rw [HE.out]
      exact ⟨rfl, Digs.none _ _, Nat.zero_le _, rfl⟩
    · obtain ⟨b, o, rfl, hb, hcell⟩ := HT.out.2.2 (by omega)
      have x1 := hcell (k - 1) (by omega)
      obtain ⟨j, hj⟩ : ∃ j, j = k - 1 := ⟨_, rfl⟩
      rw [← hj] at x1
      have d1 : decide ((0 : Int) < (k : Int)) = true := by simp; omega
      have d1n : decide (0 < k) = true := by simp; omega
      have e1 : (k : Int) - 1 = (j : Int) := by omega
      have e2 : (j : Int) < (k : Int) := by omega
      have e3 : (0 : Int) ≤ (j : Int) := by omega
      have HJ := Lib.hid hj
      have HJc : Hid (j ≤ c) := show _ ≤ _ by have := HC.out; omega
      have HK0 := Lib.hid h0
      by_cases hx : (xs.take k).getD j 0 = 0
      · have HS : Hid (nv (xs.take j) = nv xs) := show _ = _ by
          have := trim_step (xs := xs.take k) (k := j) (by rw [HT.out.1]; omega) hx
          rw [List.take_take, Nat.min_eq_left (by omega), HV.out] at this
          exact this
        have d3 : (((xs.take k).getD j 0 : Int) == 0) = true := beq0_t hx
        have f1 : (j : Int) ≤ (c : Int) := by have := HJc.out; omega
        have f2 : j ≤ c := HJc.out
        have f3 : ¬ c = 0 := by have := HC.out; omega
        generalize (xs.take k).getD j 0 = x at *
        clear hx hcell hb hj h0 hkn
        go_wp2_with fail
        go_roundw
        case rel => exact ⟨rfl, j, by have := hl.out; have := HJ.out; have := HT.out.1; rw [List.length_take] at this; omega, rfl, HS.out⟩
        case measure => simp [sliceLen]; have := HJ.out; have := HK0.out; omega
      · have HS : Hid (dg (nv xs) = xs.take k) := show _ = _ by
          rw [← HV.out]
          refine dg_nv HT.out.2.1 (.inr ?_)
          rw [HT.out.1, ← hj]
          exact hx
        have d3 : (((xs.take k).getD j 0 : Int) == 0) = false := beq0_f hx
        generalize (xs.take k).getD j 0 = x at *
        clear hx hcell hb hj h0
        go_wp2_with fail
        go_ret
        rw [HS.out, HT.out.1]
        exact ⟨rfl, HT.out, hkn, rfl⟩
set_option maxHeartbeats 2000000 in
theorem refTrim_any (A : Option Addr) (n c : Nat) (xs : List Nat) (w : World) (h : Digs w A n xs) (hn : n ≤ 1000000000) (hc : n ≤ c) (hcm : c ≤ 9223372036854775807) :
    Calls Try.prog 39 #[.slice A n c] w fun e w' => e = .returned (.slice A (dg (nv xs)).length c) ∧ Digs w A (dg (nv xs)).length (dg (nv xs)) ∧ (dg (nv xs)).length ≤ n ∧ w' = w := by
  have H := Lib.hid h
  have hl := Lib.hid h.1
  have HC := Lib.hid hc
  clear h
  go_enter Try.func39, Try.ntmps39
  go_wp2_with fail
  go_loopw [0] (fun v wr => TrimAt w A c xs v wr) (fun v _ => sliceLen v)
  case atStart => exact ⟨rfl, n, by rw [hl.out]; exact Nat.le_refl _, rfl, by rw [List.take_of_length_le (by rw [hl.out]; exact Nat.le_refl _)]⟩
  case round =>
    obtain ⟨rfl, k, hk, rfl, hv⟩ := hrel
    have hkn : k ≤ n := by rw [← hl.out]; exact hk
    have HT := Lib.hid (H.out.take hkn)
    have HV := Lib.hid hv
    clear hv hk
    by_cases h0 : k = 0
    · subst h0
      have HE : Hid (dg (nv xs) = []) := show _ = _ by rw [← HV.out]; exact dg_zero
      go_wp2_with fail
      go_ret
      rw [HE.out]
      exact ⟨rfl, Digs.none _ _, Nat.zero_le _, rfl⟩
    · obtain ⟨b, o, rfl, hb, hcell⟩ := HT.out.2.2 (by omega)
      have x1 := hcell (k - 1) (by omega)
      obtain ⟨j, hj⟩ : ∃ j, j = k - 1 := ⟨_, rfl⟩
      rw [← hj] at x1
      have d1 : decide ((0 : Int) < (k : Int)) = true := by simp; omega
      have d1n : decide (0 < k) = true := by simp; omega
      have e1 : (k : Int) - 1 = (j : Int) := by omega
      have e2 : (j : Int) < (k : Int) := by omega
      have e3 : (0 : Int) ≤ (j : Int) := by omega
      have HJ := Lib.hid hj
      have HJc : Hid (j ≤ c) := show _ ≤ _ by have := HC.out; omega
      have HK0 := Lib.hid h0
      by_cases hx : (xs.take k).getD j 0 = 0
      · have HS : Hid (nv (xs.take j) = nv xs) := show _ = _ by
          have := trim_step (xs := xs.take k) (k := j) (by rw [HT.out.1]; omega) hx
          rw [List.take_take, Nat.min_eq_left (by omega), HV.out] at this
          exact this
        have d3 : (((xs.take k).getD j 0 : Int) == 0) = true := beq0_t hx
        have f1 : (j : Int) ≤ (c : Int) := by have := HJc.out; omega
        have f2 : j ≤ c := HJc.out
        have f3 : ¬ c = 0 := by have := HC.out; omega
        generalize (xs.take k).getD j 0 = x at *
        clear hx hcell hb hj h0 hkn
        go_wp2_with fail
        go_roundw
        case rel => exact ⟨rfl, j, by have := hl.out; have := HJ.out; have := HT.out.1; rw [List.length_take] at this; omega, rfl, HS.out⟩
        case measure => simp [sliceLen]; have := HJ.out; have := HK0.out; omega
      · have HS : Hid (dg (nv xs) = xs.take k) := show _ = _ by
          rw [← HV.out]
          refine dg_nv HT.out.2.1 (.inr ?_)
          rw [HT.out.1, ← hj]
          exact hx
        have d3 : (((xs.take k).getD j 0 : Int) == 0) = false := beq0_f hx
        generalize (xs.take k).getD j 0 = x at *
        clear hx hcell hb hj h0
        go_wp2_with fail
        go_ret
        rw [HS.out, HT.out.1]
        exact ⟨rfl, HT.out, hkn, rfl⟩

set_option maxHeartbeats 1000000 in
theorem digit_any (A : Option Addr) (n c : Nat) (xs : List Nat) (i : Int) (w : World) (h : Digs w A n xs) (hn : n ≤ 1000000000) :
    Calls Try.prog 35 #[.slice A n c, .int .i64 i] w fun e w' => e = .returned (.int .i64 (if i < 0 then 0 else (xs.getD i.toNat 0 : Nat) : Int)) ∧ w' = w := by
  obtain ⟨r, hr⟩ : ∃ r : Int, r = (if i < 0 then 0 else (xs.getD i.toNat 0 : Nat) : Int) := ⟨_, rfl⟩
  rw [← hr]
  by_cases h0 : i < 0
  · rw [if_pos h0] at hr
    subst hr
    have d0 : decide (i < 0) = true := by simp; omega
    clear h
    go_enter Try.func35, Try.ntmps35
    go_wp2_with fail
    go_ret
    exact ⟨rfl, rfl⟩
  · rw [if_neg h0] at hr
    have d0 : decide (i < 0) = false := by simp; omega
    obtain ⟨k, rfl⟩ := Int.eq_ofNat_of_zero_le (show 0 ≤ i by omega)
    simp only [Int.ofNat_eq_natCast, Int.toNat_natCast] at hr d0 ⊢
    by_cases h1 : k < n
    · obtain ⟨b, o, rfl, hb, hc⟩ := h.2.2 (by omega)
      have x1 := hc k h1
      have d1 : decide ((n : Int) ≤ (k : Int)) = false := by simp; omega
      have d1n : decide (n ≤ k) = false := by simp; omega
      have e2 : (k : Int) < (n : Int) := by omega
      have e3 : (0 : Int) ≤ (k : Int) := by omega
      have hx := h.2.1.get k
      generalize xs.getD k 0 = x at *
      subst hr
      clear hc h h0 h1
      go_enter Try.func35, Try.ntmps35
      go_wp2_with fail
      go_ret
      exact ⟨ret_num (by first | rfl | (unfold wrap64; omega) | omega), rfl⟩
    · rw [nv_past (by rw [h.1]; omega)] at hr
      subst hr
      have d1 : decide ((n : Int) ≤ (k : Int)) = true := by simp; omega
      have d1n : decide (n ≤ k) = true := by simp; omega
      clear h h0
      go_enter Try.func35, Try.ntmps35
      go_wp2_with fail
      go_ret
      exact ⟨rfl, rfl⟩
theorem digit_nat (A : Option Addr) (n c : Nat) (xs : List Nat) (k : Nat) (w : World) (h : Digs w A n xs) (hn : n ≤ 1000000000) :
    Calls Try.prog 35 #[.slice A n c, .int .i64 (k : Int)] w fun e w' => e = .returned (.int .i64 ((xs.getD k 0 : Nat) : Int)) ∧ w' = w := by
  have := digit_any A n c xs (k : Int) w h hn
  rw [if_neg (by omega), Int.toNat_natCast] at this
  exact this

end Go.Proofs.Ytcejbkmmiklhbaa
