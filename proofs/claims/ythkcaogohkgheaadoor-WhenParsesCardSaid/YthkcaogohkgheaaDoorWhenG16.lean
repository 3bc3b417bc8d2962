/-
  What when's date says of itself: days.
-/
import Derived.Test.YthkcaogohkgheaaDoorWhenF16
namespace Go.Proofs.YthkcaogohkgheaaDoor
set_option maxRecDepth 100000
open Go.RowKit

set_option maxHeartbeats 4000000 in
theorem days_any (k j d : Nat) (hv : VDate k j d) (hk : k ≤ 90000) (w : World) :
    Calls Tryd.prog 22 #[dv (1970 + k) (j + 1) (d + 1)] w fun e w' => e = .returned (.int .i64 ((dnum k j d : Nat) : Int)) ∧ Below w.heap.size w w' := by
  obtain ⟨y, hy⟩ : ∃ y, y = 1970 + k := ⟨_, rfl⟩
  obtain ⟨T, hT⟩ : ∃ T, T = dnum k j d := ⟨_, rfl⟩
  have cA := Lib.hid fun w => ahead_any k (by omega) w
  rw [← hy] at cA ⊢
  rw [← hT]
  obtain ⟨f, hf⟩ : ∃ f, f = d + 1 := ⟨_, rfl⟩
  rw [← hf]
  obtain ⟨b, hb0⟩ : ∃ b, b = j + 1 := ⟨_, rfl⟩
  rw [← hb0]
  have hmd := mdy_bounds y (j + 1)
  have hv1 := hv.1
  have hv2 := hv.2
  rw [← hy] at hv2
  obtain ⟨a, ha⟩ : ∃ a, a = ys k := ⟨_, rfl⟩
  rw [← ha] at cA
  have hys : a ≤ 400000000 := by
    have := ys_closed k
    omega
  obtain ⟨p, hp⟩ : ∃ p, p = a + f := ⟨_, rfl⟩
  obtain ⟨q, hq⟩ : ∃ q, q = a + d := ⟨_, rfl⟩
  have HT : Hid (T = q + msum y j) := show _ = _ by rw [hT, hq]; unfold dnum; rw [← hy, ← ha]; omega
  have HQ : Hid (q ≤ 400000100) := show _ ≤ _ by omega
  have HJ : Hid (j < 12) := hv1
  have HB : Hid (b = j + 1) := hb0
  have f1 : (a : Int) + (f : Int) = (p : Int) := by omega
  have f2 : (p : Int) - 1 = ((q + msum y 0 : Nat) : Int) := by show (p : Int) - 1 = ((q + 0 : Nat) : Int); omega
  have b1 : p ≤ 4000000000000000000 := by omega
  have b2 : q + msum y 0 ≤ 4000000000000000000 := by show q + 0 ≤ _; omega
  have cM := Lib.hid fun i (hi : i ≤ 100) w => daysIn_any y i (by omega) (by omega) (by omega) w
  have B0 : Below w.heap.size w (w.alloc (.cells #[.int .i64 (y : Int), .int .i64 (b : Int), .int .i64 (f : Int)] 31)) := (Below.refl _ _).alloc (Nat.le_refl _) _
  have hb : (w.alloc (.cells #[.int .i64 (y : Int), .int .i64 (b : Int), .int .i64 (f : Int)] 31)).heap[w.heap.size]? = some (.cells #[.int .i64 (y : Int), .int .i64 (b : Int), .int .i64 (f : Int)] 31) := heap_alloc_new w _
  clear hy hT hf hb0 hmd hv hv1 hv2 ha hys hp hq hk
  have w1 : wrap64 ((a : Int) + (f : Int)) = (p : Int) := w64 f1 b1
  have W2 : Hid (wrap64 ((p : Int) - 1) = ((q + msum y 0 : Nat) : Int)) := w64 f2 b2
  clear f1 f2 b1 b2
  unfold dv
  go_enter Tryd.func22, Tryd.ntmps22
  go_upto_region 1 with fail
  generalize w.alloc (.cells #[.int .i64 (y : Int), .int .i64 (b : Int), .int .i64 (f : Int)] 31) = W at *
  have j0 : W.cell? ⟨w.heap.size, 0, none⟩ = some (.int .i64 (y : Int)) := by rw [block_cell hb]; rfl
  have j1 : W.cell? ⟨w.heap.size, 1, none⟩ = some (.int .i64 (b : Int)) := by rw [block_cell hb]; rfl
  have j2 : W.cell? ⟨w.heap.size, 2, none⟩ = some (.int .i64 (f : Int)) := by rw [block_cell hb]; rfl
  have HB0 := Lib.hid B0
  have Hb := Lib.hid hb
  clear B0 hb
  have cA2 := cA.out
  go_quiet (first | (go_at_call 24; exact Calls.quiet_of_same (cA2 _)))
  have HB3 := Lib.hid (HB0.out.trans ((low_drew16 W nq).mono HB0.out.size))
  have Hb3 := Lib.hid (((low_drew16 W nq).block _ (block_lt Hb.out)).trans Hb.out)
  generalize W.drewN nq = w2 at *
  clear j0 j1 j2 cA cA2 HB0 Hb
  go_wp2_with fail
  clear w1
  go_loopw [3, 4] (fun n m wr => wr = w2 ∧ ∃ i : Nat, i ≤ j ∧ m = .int .i64 ((i + 1 : Nat) : Int) ∧ n = .int .i64 ((q + msum y i : Nat) : Int)) (fun _ m _ => 13 - yrOf m)
  case atStart => exact ⟨rfl, 0, Nat.zero_le _, rfl, by rw [W2.out]⟩
  case round =>
    obtain ⟨rfl, i, hi, rfl, rfl⟩ := hrel
    have j0 : wr.cell? ⟨w.heap.size, 0, none⟩ = some (.int .i64 (y : Int)) := by rw [block_cell Hb3.out]; rfl
    have j1 : wr.cell? ⟨w.heap.size, 1, none⟩ = some (.int .i64 (b : Int)) := by rw [block_cell Hb3.out]; rfl
    have hj := HJ.out
    have hbj := HB.out
    have hms : msum y i ≤ 31 * i := by
      clear hi
      induction i with
      | zero => exact Nat.le_refl _
      | succ i ih => have := mdy_bounds y (i + 1); rw [msum_step]; omega
    have hqq := HQ.out
    by_cases hlt : i < j
    · have d1 : decide (((i + 1 : Nat) : Int) < (b : Int)) = true := decide_eq_true (by omega)
      have d1n : decide (i + 1 < b) = true := decide_eq_true (by omega)
      have cN := Lib.hid (cM.out (i + 1) (by omega))
      have hst := msum_step y i
      have hmd := mdy_bounds y (i + 1)
      obtain ⟨c, hc⟩ : ∃ c, c = i + 1 := ⟨_, rfl⟩
      rw [← hc] at cN d1 d1n ⊢
      have HM : Hid (13 - (c + 1) < 13 - c) := show _ < _ by omega
      have HC : Hid (i + 1 ≤ j) := hlt
      obtain ⟨v, hv⟩ : ∃ v, v = mdy y (i + 1) := ⟨_, rfl⟩
      have f1 : (c : Int) + 1 = ((c + 1 : Nat) : Int) := by omega
      have b1 : c + 1 ≤ 4000000000000000000 := by omega
      have f2 : ((q + msum y i : Nat) : Int) + (v : Int) = ((q + msum y (i + 1) : Nat) : Int) := by omega
      have b2 : q + msum y (i + 1) ≤ 4000000000000000000 := by omega
      have HW : Hid (wrap64 ((c : Int) + 1) = ((c + 1 : Nat) : Int)) := w64 f1 b1
      have HW2 : Hid (wrap64 (((q + msum y i : Nat) : Int) + (v : Int)) = ((q + msum y (i + 1) : Nat) : Int)) := w64 f2 b2
      clear f1 b1 f2 b2
      rw [hc, ← hv, ← hc] at cN
      have HCE := Lib.hid hc
      generalize q + msum y i = n0 at *
      clear hi hj hbj hms hqq hlt hst hmd hc hv
      go_wp2_with fail
      refine (cN.out _).mono ?_
      rintro e w5 ⟨rfl, hw⟩; subst w5
      go_wp2_with fail
      go_roundw
      case rel => exact ⟨trivial, i + 1, HC.out, by rw [HW.out, HCE.out], by rw [HW2.out]⟩
      case measure => rw [HW.out]; exact HM.out
    · have d1 : decide (((i + 1 : Nat) : Int) < (b : Int)) = false := decide_eq_false (by omega)
      have d1n : decide (i + 1 < b) = false := decide_eq_false (by omega)
      have HE : Hid (T = q + msum y i) := show _ = _ by rw [HT.out, show i = j by omega]
      obtain ⟨c, hc⟩ : ∃ c, c = i + 1 := ⟨_, rfl⟩
      rw [← hc] at d1 d1n ⊢
      generalize q + msum y i = n0 at *
      clear hi hj hbj hms hqq hlt hc
      go_wp2_with fail
      go_ret
      exact ⟨by rw [HE.out]; rfl, HB3.out⟩
end Go.Proofs.YthkcaogohkgheaaDoor
