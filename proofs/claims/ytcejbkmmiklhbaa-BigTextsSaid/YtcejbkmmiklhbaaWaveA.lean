/-
  wave's tests: is a part fit? are four numbers? For all bits; no condition beyond what each contract says.
-/
import Derived.Test.YtcejbkmmiklhbaaWaveNum
import Derived.Test.YtcejbkmmiklhbaaMem8
namespace Go.Proofs.Ytcejbkmmiklhbaa
open Go.RowKit

/-- The cells of complex numbers. -/
def cx (zs : List (Nat × Nat)) : List Value := zs.map fun z => Value.complex .f64 z.1 z.2
theorem cx_length (zs : List (Nat × Nat)) : (cx zs).length = zs.length := by simp [cx]
theorem cx_get (zs : List (Nat × Nat)) (k : Nat) (h : k < zs.length) : (cx zs)[k]? = some (.complex .f64 (zs.getD k (0, 0)).1 (zs.getD k (0, 0)).2) := by simp [cx, List.getD, h]
theorem cx_one (zs : List (Nat × Nat)) : ∀ u ∈ cx zs, u.oneCell' = true := by
  intro u hu
  obtain ⟨b, _, rfl⟩ := List.mem_map.1 hu
  rfl

/-- One number out of an array of four. -/
theorem at_four (L : List Value) (k : Nat) (v : Value) (hk : k < 4) (hv : L[k]? = some v) (w : World) :
    (Instr.index 76 (.agg L.toArray) (.int .i64 (k : Int))).run Try.prog w = .ok v w := by
  have hk' : (0 : Int) ≤ (k : Int) ∧ (k : Int) < 4 := by omega
  simp [Instr.index, run_underlying Try.underlying76, asIntOf, hk', go_sem, part, Try.isAgg75, Try.sizeOf75, hv]
  intro h
  omega

set_option maxHeartbeats 400000 in
theorem inFit_any (a : Int) (w : World) : Calls Try.prog 68 #[.int .i64 a] w fun e w' => e = .returned (.bool (decide (Fit a))) ∧ w' = w := by
  by_cases h1 : -1125899906842624 ≤ a
  · by_cases h2 : a ≤ 1125899906842624
    · have t1 : decide (-1125899906842624 ≤ a) = true := by simpa using h1
      have t2 : decide (a ≤ 1125899906842624) = true := by simpa using h2
      rw [show decide (Fit a) = true from decide_eq_true ⟨h1, h2⟩]
      go_enter Try.func68, Try.ntmps68
      go_wp2
      go_ret
      exact ⟨rfl, rfl⟩
    · have t1 : decide (-1125899906842624 ≤ a) = true := by simpa using h1
      have t2 : decide (a ≤ 1125899906842624) = false := by simpa using h2
      rw [show decide (Fit a) = false from decide_eq_false fun h => h2 h.2]
      go_enter Try.func68, Try.ntmps68
      go_wp2
      go_ret
      exact ⟨rfl, rfl⟩
  · have t1 : decide (-1125899906842624 ≤ a) = false := by simpa using h1
    rw [show decide (Fit a) = false from decide_eq_false fun h => h1 h.1]
    go_enter Try.func68, Try.ntmps68
    go_wp2
    go_ret
    exact ⟨rfl, rfl⟩
theorem inFit_yes {a : Int} (h : Fit a) (w : World) : Calls Try.prog 68 #[.int .i64 a] w fun e w' => e = .returned (.bool true) ∧ w' = w := by
  have := inFit_any a w
  rwa [decide_eq_true h] at this
theorem inFit_no {a : Int} (h : ¬ Fit a) (w : World) : Calls Try.prog 68 #[.int .i64 a] w fun e w' => e = .returned (.bool false) ∧ w' = w := by
  have := inFit_any a w
  rwa [decide_eq_false h] at this

/-- The bits of a fit number. -/
def FitBits (z : Nat × Nat) : Prop := ∃ a b, Whole z.1 a ∧ Whole z.2 b ∧ Fit a ∧ Fit b
/-- Four numbers, all bits of doubles. -/
def Bits (zs : List (Nat × Nat)) : Prop := ∀ k, (zs.getD k (0, 0)).1 < 18446744073709551616 ∧ (zs.getD k (0, 0)).2 < 18446744073709551616

theorem size_four (L : List Value) (h : L.length = 4) : (Try.prog.info? 76).map (·.size) = some L.length := by rw [h]; kernel_rfl

set_option maxHeartbeats 2000000 in
theorem allFit_any (zs : List (Nat × Nat)) (hl : zs.length = 4) (hb : Bits zs) (r : Bool) (hr : r = true ↔ ∀ k, k < 4 → FitBits (zs.getD k (0, 0))) (w : World) :
    Calls Try.prog 64 #[.agg (cx zs).toArray] w fun e w' => e = .returned (.bool r) ∧ Below w.heap.size w w' := by
  have hc : Hid (∀ k, k < 4 → (cx zs)[k]? = some (.complex .f64 (zs.getD k (0, 0)).1 (zs.getD k (0, 0)).2)) := fun k hk => cx_get zs k (by omega)
  have hn : Hid ((cx zs).length = 4) := show _ = _ by rw [cx_length, hl]
  have HR := Lib.hid hr
  have HB := Lib.hid hb
  clear hr hb hl
  generalize cx zs = L at hc hn
  have hld : Hid ((w.alloc (.cells L.toArray 76)).rangeAt w.heap.size 0 L) := (Row.new w 76 L).all
  have hsz := Lib.hid (size_four L hn.out)
  have BB : Below w.heap.size w (w.alloc (.cells L.toArray 76)) := (Below.refl _ _).alloc (Nat.le_refl _) _
  go_enter Try.func64, Try.ntmps64
  go_wp2_with (first | (refine wpList_load_mid rfl 76 (.tmp 1) rfl w.heap.size 0 rfl L _ hld.out Try.underlying76 rfl hsz.out ?_))
  obtain ⟨W, hW⟩ : ∃ W, W = w.alloc (.cells L.toArray 76) := ⟨_, rfl⟩
  rw [← hW] at BB ⊢
  clear hld hsz hW
  go_loopw [9] (fun v wr => wr = W ∧ ∃ k : Nat, k ≤ 4 ∧ v = .int .i64 (k : Int) ∧ ∀ j, j < k → FitBits (zs.getD j (0, 0))) (fun v _ => 4 - (intOf v).toNat)
  case atStart => exact ⟨rfl, 0, by omega, rfl, fun j hj => absurd hj (by omega)⟩
  case round =>
    obtain ⟨rfl, k, hk, rfl, hf⟩ := hrel
    have HF := Lib.hid hf
    clear hf
    by_cases h4 : k < 4
    · have d1 : decide ((k : Int) < 4) = true := by simp; omega
      have hx := at_four L k _ h4 (hc.out k h4)
      have hbk := HB.out k
      have HF2 : Hid (FitBits (zs.getD k (0, 0)) → ∀ j, j < k + 1 → FitBits (zs.getD j (0, 0))) := fun h j hj => by
        by_cases hjk : j < k
        · exact HF.out j hjk
        · obtain rfl : j = k := by omega
          exact h
      have HN : Hid (¬ FitBits (zs.getD k (0, 0)) → r = false) := fun h => by
        cases hr : r with
        | false => rfl
        | true => exact absurd (HR.out.1 hr k h4) h
      generalize zs.getD k (0, 0) = z at hx hbk HF2 HN
      clear HF HB HR
      by_cases hfit : FitBits z
      · have HF3 := Lib.hid (HF2.out hfit)
        obtain ⟨a, b, wa, wb, fa, fb⟩ := hfit
        have cp := Lib.hid (parts_yes wa wb fa.great fb.great)
        have c1 := Lib.hid (inFit_yes fa)
        have c2 := Lib.hid (inFit_yes fb)
        clear HF2 HN wa wb fa fb hbk
        go_wp2_with fail
        refine (cp.out _).mono ?_
        rintro e w1 ⟨rfl, hw⟩; subst w1
        go_wp2_with fail
        refine (c1.out _).mono ?_
        rintro e w1 ⟨rfl, hw⟩; subst w1
        go_wp2_with fail
        refine (c2.out _).mono ?_
        rintro e w1 ⟨rfl, hw⟩; subst w1
        go_wp2_with fail
        go_roundw
        case rel => exact ⟨by trivial, k + 1, by omega, ret_val (by omega), HF3.out⟩
        case measure => simp [intOf]; omega
      · have HE := Lib.hid (HN.out hfit)
        by_cases hgr : ∃ a b, Whole z.1 a ∧ Whole z.2 b ∧ Great a ∧ Great b
        · obtain ⟨a, b, wa, wb, ga, gb⟩ := hgr
          have cp := Lib.hid (parts_yes wa wb ga gb)
          by_cases fa : Fit a
          · have c1 := Lib.hid (inFit_yes fa)
            have c2 := Lib.hid (inFit_no (fun fb => hfit ⟨a, b, wa, wb, fa, fb⟩))
            clear HF2 HN wa wb fa ga gb hbk hfit
            go_wp2_with fail
            refine (cp.out _).mono ?_
            rintro e w1 ⟨rfl, hw⟩; subst w1
            go_wp2_with fail
            refine (c1.out _).mono ?_
            rintro e w1 ⟨rfl, hw⟩; subst w1
            go_wp2_with fail
            refine (c2.out _).mono ?_
            rintro e w1 ⟨rfl, hw⟩; subst w1
            go_wp2_with fail
            go_ret
            exact ⟨ret_bool HE.out.symm, BB⟩
          · have c1 := Lib.hid (inFit_no fa)
            clear HF2 HN wa wb fa ga gb hbk hfit
            go_wp2_with fail
            refine (cp.out _).mono ?_
            rintro e w1 ⟨rfl, hw⟩; subst w1
            go_wp2_with fail
            refine (c1.out _).mono ?_
            rintro e w1 ⟨rfl, hw⟩; subst w1
            go_wp2_with fail
            go_ret
            exact ⟨ret_bool HE.out.symm, BB⟩
        · have cp := Lib.hid (parts_no hbk.1 hbk.2 (fun m n h1 h2 h3 h4 => hgr ⟨m, n, h1, h3, h2, h4⟩))
          clear HF2 HN hgr hbk hfit
          go_wp2_with fail
          refine (cp.out _).mono ?_
          rintro e w1 ⟨rfl, hw⟩; subst w1
          go_wp2_with fail
          go_ret
          exact ⟨ret_bool HE.out.symm, BB⟩
    · obtain rfl : k = 4 := by omega
      have HE : Hid (r = true) := HR.out.2 HF.out
      clear HF HB HR
      go_wp2_with fail
      go_ret
      exact ⟨ret_bool HE.out.symm, BB⟩

end Go.Proofs.Ytcejbkmmiklhbaa
