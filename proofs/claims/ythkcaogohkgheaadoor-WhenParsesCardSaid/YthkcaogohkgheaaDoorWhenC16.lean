/-
  What when's dateOf does: the date of a day.
-/
import Derived.Test.YthkcaogohkgheaaDoorWhenB16
import Derived.Laws.ResultCell
namespace Go.Proofs.YthkcaogohkgheaaDoor
set_option maxRecDepth 100000
open Go.RowKit

theorem results_at {fn : Func} {p : Tmp} {ty : TypeId} (h : fn.results = #[.cell p ty]) (tmps : Array Value) {P : Program} (w : World) (g : Nat) (cs : Array Value)
    (hp : tmps.getD p undef = .pointer (some ⟨g, 0, none⟩)) (hl : (loadVar ty ⟨g, 0, none⟩).run P w = .ok (.agg cs) w) : (results fn tmps).run P w = .ok (.agg cs) w := by
  have e : (results fn tmps).run P w = ((asAddr (tmps.getD p undef)).run P w).andThen fun a w₁ => (loadVar ty a).run P w₁ := by
    simp only [results, h]
    simp [Sem.run_bind, Result.andThen]
  rw [e, hp]
  simp [asAddr, hl]
theorem load_date {w : World} {g : Nat} {x y z : Value} (hg : w.heap[g]? = some (.cells #[x, y, z] 31 (0, 0))) :
    (loadVar 31 ⟨g, 0, none⟩).run Tryd.prog w = .ok (.agg #[x, y, z]) w :=
  run_loadVar_row w g _ _ _ _ _ hg Tryd.underlying31 rfl (by kernel_rfl)

def yrOf : Value → Nat
  | .int _ x => x.toNat
  | _ => 0
set_option maxHeartbeats 2000000 in
theorem dateOf_any (n : Nat) (hn : n < 2932897) (w : World) :
    Calls Tryd.prog 12 #[.int .i64 (n : Int)] w fun e w' => (∃ k j d, VDate k j d ∧ dnum k j d = n ∧ e = .returned (dv (1970 + k) (j + 1) (d + 1))) ∧ Below w.heap.size w w' := by
  have hb : (w.alloc (.cells #[.int .i64 0, .int .i64 0, .int .i64 0] 31)).heap[w.heap.size]? = some (.cells #[.int .i64 0, .int .i64 0, .int .i64 0] 31) := heap_alloc_new w _
  have B0 : Below w.heap.size w (w.alloc (.cells #[.int .i64 0, .int .i64 0, .int .i64 0] 31)) := (Below.refl _ _).alloc (Nat.le_refl _) _
  obtain ⟨q, hq⟩ : ∃ q, q = n / 365 := ⟨_, rfl⟩
  have hq2 : q ≤ 8100 := by omega
  have t1 : (n : Int).tdiv 365 = (q : Int) := t16 n 365 q hq.symm
  have t2 : (n : Int) / 365 = (q : Int) := q16 n 365 q hq.symm
  have t3 : wrap64 (q : Int) = (q : Int) := w64 rfl (by omega)
  have HS : Hid (wrap64 (1970 + (q : Int)) = ((1970 + q : Nat) : Int)) := show _ = _ from w64 (by omega) (by omega)
  have HQ : Hid (n < ys (q + 1)) := show _ < _ by
    have := ys_closed (q + 1)
    omega
  have HQ2 := Lib.hid hq2
  have HN := Lib.hid hn
  clear hq hn hq2
  have HB := Lib.hid B0
  have Hb := Lib.hid hb
  clear B0 hb
  go_enter Tryd.func12, Tryd.ntmps12
  go_wp2_with fail
  generalize w.alloc (.cells #[.int .i64 0, .int .i64 0, .int .i64 0] 31) = W at *
  clear t1 t2 t3
  go_loopw [3] (fun y wr => wr = W ∧ ∃ k : Nat, k ≤ q ∧ n < ys (k + 1) ∧ y = .int .i64 ((1970 + k : Nat) : Int)) (fun y _ => yrOf y)
  case atStart => exact ⟨rfl, q, Nat.le_refl _, HQ.out, by rw [HS.out]⟩
  case round =>
    obtain ⟨rfl, k, hk, hnk, rfl⟩ := hrel
    have cA := Lib.hid fun w => ahead_any k (by have := HQ2.out; omega) w
    have hkb : k ≤ 8100 := Nat.le_trans hk HQ2.out
    obtain ⟨y, hy⟩ : ∃ y, y = 1970 + k := ⟨_, rfl⟩
    rw [← hy] at cA ⊢
    by_cases hlt : n < ys k
    · have hk0 : 0 < k := by
        apply Nat.pos_of_ne_zero
        intro h
        subst h
        exact absurd hlt (Nat.not_lt_zero _)
      have d1 : decide ((n : Int) < ((ys k : Nat) : Int)) = true := decide_eq_true (by omega)
      have d1n : decide (n < ys k) = true := decide_eq_true hlt
      have HW : Hid (wrap64 ((y : Int) - 1) = ((1970 + (k - 1) : Nat) : Int)) := show _ = _ from w64 (by omega) (by omega)
      have HE : Hid (k - 1 ≤ q ∧ n < ys (k - 1 + 1)) := show _ ∧ _ from ⟨by omega, by rw [show k - 1 + 1 = k by omega]; exact hlt⟩
      have HM : Hid (1970 + (k - 1) < y) := show _ < _ by omega
      clear hk hnk hkb hy hlt hk0
      generalize ys k = r at *
      go_wp2_with fail
      refine (cA.out _).mono ?_
      rintro e w5 ⟨rfl, hw⟩; subst w5
      go_wp2_with fail
      go_roundw
      case rel => exact ⟨trivial, k - 1, HE.out.1, HE.out.2, by rw [HW.out]⟩
      case measure => rw [HW.out]; exact HM.out
    · have d1 : decide ((n : Int) < ((ys k : Nat) : Int)) = false := decide_eq_false (by omega)
      have d1n : decide (n < ys k) = false := decide_eq_false hlt
      obtain ⟨r, hr⟩ : ∃ r, r = ys k := ⟨_, rfl⟩
      rw [← hr] at cA hlt d1 d1n
      obtain ⟨m, hm⟩ : ∃ m, m = n - r := ⟨_, rfl⟩
      have w1 : wrap64 ((n : Int) - (r : Int)) = (m : Int) := w64 (by omega) (by have := HN.out; omega)
      have HMd : Hid (r + m = n) := show _ = _ by omega
      have HR := Lib.hid hr
      have HY := Lib.hid hy
      have HKB := Lib.hid hkb
      have HNK : Hid (m < yd (1970 + k)) := show _ < _ by
        have e := ys_step k
        omega
      have HMB : Hid (m ≤ 3000000) := show _ ≤ _ by have := HN.out; omega
      have cM := Lib.hid fun j (hj : j ≤ 100) w => daysIn_any y j (by omega) (by omega) (by omega) w
      clear hk hnk hkb hy hlt hr hm
      go_wp2_with fail
      refine (cA.out _).mono ?_
      rintro e w5 ⟨rfl, hw⟩; subst w5
      go_wp2_with fail
      refine (cA.out _).mono ?_
      rintro e w5 ⟨rfl, hw⟩; subst w5
      clear cA
      go_wp2_with fail
      have HW1 := Lib.hid w1
      clear w1 d1 d1n
      go_loopw [0, 4] (fun a b wx => wx = wr ∧ ∃ j d : Nat, j < 12 ∧ msum (1970 + k) j + d = m ∧ a = .int .i64 (d : Int) ∧ b = .int .i64 ((j + 1 : Nat) : Int)) (fun a _ _ => yrOf a)
      case atStart => exact ⟨rfl, 0, m, by decide, Nat.zero_add _, by first | rfl | rw [HW1.out], rfl⟩
      case round =>
        obtain ⟨rfl, j, d, hj, hd, rfl, rfl⟩ := hrel
        have hb2 := mdy_bounds y (j + 1)
        obtain ⟨q2, hq2⟩ : ∃ q2, q2 = mdy y (j + 1) := ⟨_, rfl⟩
        have cN := Lib.hid (cM.out (j + 1) (by omega))
        rw [← hq2] at cN hb2
        have hst : msum (1970 + k) (j + 1) = msum (1970 + k) j + q2 := by rw [msum_step, hq2, HY.out]
        obtain ⟨b, hbj⟩ : ∃ b, b = j + 1 := ⟨_, rfl⟩
        rw [← hbj] at cN hst ⊢
        have hdb : d ≤ 3000000 := by have := HMB.out; omega
        by_cases hlt : q2 ≤ d
        · have hj12 : j + 1 < 12 := by
            apply Nat.lt_of_not_le
            intro h
            have e : j + 1 = 12 := by omega
            rw [hbj, e, msum_year] at hst
            have := HNK.out
            omega
          have d1 : decide ((q2 : Int) ≤ (d : Int)) = true := decide_eq_true (by omega)
          have d1n : decide (q2 ≤ d) = true := decide_eq_true hlt
          have w2 : Hid (wrap64 ((d : Int) - (q2 : Int)) = ((d - q2 : Nat) : Int)) := show _ = _ from w64 (by omega) (by omega)
          have HW2 : Hid (wrap64 ((b : Int) + 1) = ((j + 1 + 1 : Nat) : Int)) := show _ = _ from w64 (by omega) (by omega)
          have HE : Hid (msum (1970 + k) (j + 1) + (d - q2) = m) := show _ = _ by rw [← hbj]; omega
          have HJ := Lib.hid hj12
          have HM : Hid (((d - q2 : Nat) : Int).toNat < ((d : Int)).toNat) := show _ < _ by omega
          clear hb2 hq2 hst hbj hdb hlt hj12 hj hd
          go_wp2_with fail
          refine (cN.out _).mono ?_
          rintro e w5 ⟨rfl, hw⟩; subst w5
          go_wp2_with fail
          refine (cN.out _).mono ?_
          rintro e w5 ⟨rfl, hw⟩; subst w5
          go_wp2_with fail
          go_roundw
          case rel => exact ⟨trivial, j + 1, d - q2, HJ.out, HE.out, by rw [w2.out], by rw [HW2.out]⟩
          case measure => simp only [yrOf]; rw [w2.out]; exact HM.out
        · have d1 : decide ((q2 : Int) ≤ (d : Int)) = false := decide_eq_false (by omega)
          have d1n : decide (q2 ≤ d) = false := decide_eq_false hlt
          have w2 : wrap64 ((d : Int) + 1) = ((d + 1 : Nat) : Int) := w64 (by omega) (by omega)
          have HV : Hid (VDate k j d) := show _ ∧ _ from ⟨hj, by rw [← HY.out, ← hq2]; omega⟩
          have HD : Hid (dnum k j d = n) := show _ = _ by
            unfold dnum
            rw [← HR.out, Nat.add_assoc, hd]
            exact HMd.out
          have HBJ := Lib.hid hbj
          obtain ⟨f, hf⟩ : ∃ f, f = d + 1 := ⟨_, rfl⟩
          rw [← hf] at w2
          have HF := Lib.hid hf
          have z0 : wr.cell? ⟨w.heap.size, 0, none⟩ = some (.int .i64 0) := by rw [block_cell Hb.out]; rfl
          have z1 : wr.cell? ⟨w.heap.size, 1, none⟩ = some (.int .i64 0) := by rw [block_cell Hb.out]; rfl
          have z2 : wr.cell? ⟨w.heap.size, 2, none⟩ = some (.int .i64 0) := by rw [block_cell Hb.out]; rfl
          have f0 := block_frozen Hb.out 0; have f1 := block_frozen Hb.out 1; have f2 := block_frozen Hb.out 2
          clear hb2 hq2 hst hbj hdb hlt hj hd hf
          go_wp2_with fail
          refine (cN.out _).mono ?_
          rintro e w5 ⟨rfl, hw⟩; subst w5
          go_wp2_with fail
          have C : Below w.heap.size w (((wr.setCell ⟨w.heap.size, 0, none⟩ (.int .i64 (y : Int))).setCell ⟨w.heap.size, 1, none⟩ (.int .i64 (b : Int))).setCell ⟨w.heap.size, 2, none⟩ (.int .i64 (f : Int))) :=
            ((HB.out.setCell (p := ⟨w.heap.size, 0, none⟩) (Nat.le_refl _) _).setCell (p := ⟨w.heap.size, 1, none⟩) (Nat.le_refl _) _).setCell (p := ⟨w.heap.size, 2, none⟩) (Nat.le_refl _) _
          have G : ((((wr.setCell ⟨w.heap.size, 0, none⟩ (.int .i64 (y : Int))).setCell ⟨w.heap.size, 1, none⟩ (.int .i64 (b : Int))).setCell ⟨w.heap.size, 2, none⟩ (.int .i64 (f : Int))) : World).heap[w.heap.size]? = some (.cells #[.int .i64 (y : Int), .int .i64 (b : Int), .int .i64 (f : Int)] 31 (0, 0)) :=
            block_set (block_set (block_set Hb.out 0 _) 1 _) 2 _
          refine bodyPost_ret (results_at rfl _ _ w.heap.size _ rfl (load_date G)) rfl ?_
          exact ⟨⟨k, j, d, HV.out, HD.out, by rw [HY.out, HBJ.out, HF.out]; rfl⟩, C⟩
end Go.Proofs.YthkcaogohkgheaaDoor
