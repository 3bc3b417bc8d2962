/-
  What the law's sum does, of fit numbers. No condition beyond what each contract says.
-/
import Derived.Test.YtdclgdpifamomaaOct8
namespace Go.Proofs.Ytdclgdpifamomaa
open Go.RowKit

/-- The parts of the numbers. -/
def pR (ls : List Int) (j : Nat) : Int := ls.getD (2 * j) 0
def pI (ls : List Int) (j : Nat) : Int := ls.getD (2 * j + 1) 0
theorem fitTo_all {ls : List Int} (h : fitTo ls 4 = true) : ∀ j, j < 4 → Fit (pR ls j) ∧ Fit (pI ls j) := of_decide_eq_true h

/-- The sums of the first j numbers. -/
def sR (way : Int) (ls : List Int) (k j : Nat) : Int := sm j (fun j => turnRe ((way * j * k) % 4) (pR ls j) (pI ls j))
def sI (way : Int) (ls : List Int) (k j : Nat) : Int := sm j (fun j => turnIm ((way * j * k) % 4) (pR ls j) (pI ls j))
theorem s_bound {way : Int} {ls : List Int} (hf : ∀ j, j < 4 → Fit (pR ls j) ∧ Fit (pI ls j)) (k : Nat) {j : Nat} (hj : j ≤ 4) :
    (-(j * 1125899906842624 : Int) ≤ sR way ls k j ∧ sR way ls k j ≤ j * 1125899906842624) ∧ (-(j * 1125899906842624 : Int) ≤ sI way ls k j ∧ sI way ls k j ≤ j * 1125899906842624) := by
  induction j with
  | zero => simp [sR, sI, sm]
  | succ j ih =>
    have h := ih (by omega)
    have f := hf j (by omega)
    have a := turnRe_abs ((way * j * k) % 4) _ _ 1125899906842624 f.1 f.2
    have b := turnIm_abs ((way * j * k) % 4) _ _ 1125899906842624 f.1 f.2
    have e1 : sR way ls k (j + 1) = sR way ls k j + turnRe ((way * j * k) % 4) (pR ls j) (pI ls j) := rfl
    have e2 : sI way ls k (j + 1) = sI way ls k j + turnIm ((way * j * k) % 4) (pR ls j) (pI ls j) := rfl
    rw [e1, e2]
    generalize turnRe ((way * j * k) % 4) (pR ls j) (pI ls j) = u at *
    generalize turnIm ((way * j * k) % 4) (pR ls j) (pI ls j) = v at *
    omega

/-- The loop of sum. -/
def SumAt (w : World) (b : Nat) (way : Int) (ls : List Int) (k : Nat) (v8 v9 v10 : Value) (wr : World) : Prop :=
  ∃ j : Nat, j ≤ 4 ∧ v8 = .int .i64 (sR way ls k j) ∧ v9 = .int .i64 (sI way ls k j) ∧ v10 = .int .i64 (j : Int) ∧ Row wr b 22 (intCells ls) ∧ Below w.heap.size w wr

theorem way_num {way : Int} (hw : way = 1 ∨ way = -1) {j k : Nat} (hj : j < 4) (hk : k < 4) : (-3 ≤ way * j ∧ way * j ≤ 3) ∧ (-9 ≤ way * j * k ∧ way * j * k ≤ 9) := by
  rcases hw with rfl | rfl
  · rw [Int.one_mul]
    rcases lt4 hk with rfl | rfl | rfl | rfl <;> simp <;> omega
  · rw [Int.neg_mul, Int.one_mul]
    rcases lt4 hk with rfl | rfl | rfl | rfl <;> simp <;> omega

set_option maxHeartbeats 8000000 in
theorem sum_any (way : Int) (hw : way = 1 ∨ way = -1) (ls : List Int) (hl : ls.length = 8) (hf : ∀ j, j < 4 → Fit (pR ls j) ∧ Fit (pI ls j)) (k : Nat) (hk : k < 4) (w : World) :
    Calls Try.prog 12 #[.agg (intCells ls).toArray, .int .i64 (k : Int), .int .i64 way] w
      fun e w' => e = .returned (.tuple #[.int .i64 (tr way (pR ls) (pI ls) k), .int .i64 (ti way (pR ls) (pI ls) k)]) ∧ Below w.heap.size w w' := by
  have HC : Hid (∀ k, k < 8 → (intCells ls)[k]? = some (.int .i64 (ls.getD k 0))) := fun k hk => intCells_get ls k (by omega)
  obtain ⟨L, hL⟩ : ∃ L, L = intCells ls := ⟨_, rfl⟩
  have HL := Lib.hid hL
  have HF := Lib.hid hf
  have HW := Lib.hid hw
  have HK := Lib.hid hk
  rw [← hL]
  have ER : Hid (sR way ls k 4 = tr way (pR ls) (pI ls) k) := rfl
  have EI : Hid (sI way ls k 4 = ti way (pR ls) (pI ls) k) := rfl
  generalize tr way (pR ls) (pI ls) k = TR at *
  generalize ti way (pR ls) (pI ls) k = TI at *
  clear hL hf hw hk
  have R1 : Row (w.alloc (.cells L.toArray 22)) w.heap.size 22 L := Row.new w _ _
  have BW : Below w.heap.size w (w.alloc (.cells L.toArray 22)) := (Below.refl _ _).alloc (Nat.le_refl _) _
  have HR1 := Lib.hid R1; have HBW := Lib.hid BW
  clear R1 BW
  go_enter Try.func12, Try.ntmps12
  go_wp2_with fail
  generalize w.alloc (.cells L.toArray 22) = W at *
  go_loopw [8, 9, 10] (fun v8 v9 v10 wr => SumAt w w.heap.size way ls k v8 v9 v10 wr) (fun _ _ v10 _ => 4 - (intOf v10).toNat)
  case atStart => exact ⟨0, by omega, rfl, rfl, rfl, HL.out ▸ HR1.out, HBW.out⟩
  case round =>
    clear HR1 HBW
    obtain ⟨j, hj, rfl, rfl, rfl, R1, B⟩ := hrel
    by_cases h4 : j < 4
    · have d1 : decide ((j : Int) < 4) = true := by simp; omega
      have i0 : (0 : Int) ≤ (j : Int) := by omega
      have i4 : (j : Int) < 4 := by omega
      have x1 : wr.cell? ⟨w.heap.size, 2 * j, none⟩ = some (.int .i64 (pR ls j)) := (R1.cell (2 * j)).trans (HC.out (2 * j) (by omega))
      have y1 : wr.cell? ⟨w.heap.size, 2 * j + 1, none⟩ = some (.int .i64 (pI ls j)) := (R1.cell (2 * j + 1)).trans (HC.out (2 * j + 1) (by omega))
      have i5 : (2 : Int) * (j : Int) = ((2 * j : Nat) : Int) := by omega
      have i6 : ((2 * j : Nat) : Int) + 1 = ((2 * j + 1 : Nat) : Int) := by omega
      have i7 : ((2 * j : Nat) : Int) < 8 := by omega
      have i8 : ((2 * j + 1 : Nat) : Int) < 8 := by omega
      have bs := s_bound (way := way) HF.out k (show j ≤ 4 by omega)
      have fx := HF.out j h4
      obtain ⟨⟨m1, m2⟩, m3, m4⟩ := way_num HW.out h4 HK.out
      have HSR : Hid (sR way ls k (j + 1) = sR way ls k j + turnRe ((way * j * k) % 4) (pR ls j) (pI ls j)) := rfl
      have HSI : Hid (sI way ls k (j + 1) = sI way ls k j + turnIm ((way * j * k) % 4) (pR ls j) (pI ls j)) := rfl
      obtain ⟨e1, he1⟩ : ∃ e1, way * (j : Int) = e1 := ⟨_, rfl⟩
      rw [he1] at m1 m2 m3 m4 HSR HSI
      obtain ⟨e2, he2⟩ : ∃ e2, e1 * (k : Int) = e2 := ⟨_, rfl⟩
      rw [he2] at m3 m4 HSR HSI
      have q1 : wrap64 e1 = e1 := by unfold wrap64; omega
      have q2 : wrap64 e2 = e2 := by unfold wrap64; omega
      have q3 := i64_and3 e2
      generalize pR ls j = x at *
      generalize pI ls j = y at *
      generalize sR way ls k j = u at *
      generalize sI way ls k j = v at *
      obtain ⟨x0, x9⟩ := fx.1
      obtain ⟨y0, y9⟩ := fx.2
      have u0 : -4503599627370496 ≤ u := by omega
      have u9 : u ≤ 4503599627370496 := by omega
      have v0 : -4503599627370496 ≤ v := by omega
      have v9 : v ≤ 4503599627370496 := by omega
      have a1 : wrap64 (u + x) = u + x := by unfold wrap64; omega
      have a2 : wrap64 (v + y) = v + y := by unfold wrap64; omega
      have a3 : wrap64 (u - y) = u - y := by unfold wrap64; omega
      have a4 : wrap64 (v + x) = v + x := by unfold wrap64; omega
      have a5 : wrap64 (u - x) = u - x := by unfold wrap64; omega
      have a6 : wrap64 (v - y) = v - y := by unfold wrap64; omega
      have a7 : wrap64 (u + y) = u + y := by unfold wrap64; omega
      have a8 : wrap64 (v - x) = v - x := by unfold wrap64; omega
      have H4 := Lib.hid h4
      have HR := Lib.hid R1; have HB := Lib.hid B
      clear bs fx m1 m2 m3 m4 R1 B h4 hj u0 u9 v0 v9 x0 x9 y0 y9
      generalize 2 * j + 1 = I3 at *
      generalize 2 * j = I2 at *
      have i9 : (0 : Int) ≤ (I2 : Int) := by omega
      have i10 : (0 : Int) ≤ (I3 : Int) := by omega
      have i11 : wrap64 (I2 : Int) = (I2 : Int) := by unfold wrap64; omega
      have i12 : wrap64 (I3 : Int) = (I3 : Int) := by unfold wrap64; omega
      rcases (show e2 % 4 = 0 ∨ e2 % 4 = 1 ∨ e2 % 4 = 2 ∨ e2 % 4 = 3 by omega) with h | h | h | h
      · rw [h] at q3 HSR HSI
        clear h
        go_wp2_with fail
        go_quiet (fail)
        have HR' := Lib.hid (HR.out.drewN nq); have HB' := Lib.hid (drawn_below HB.out nq)
        generalize wr.drewN nq = wd at *
        clear x1 y1 HR HB
        go_wp2_with fail
        go_roundw
        case rel => exact ⟨j + 1, H4.out, by rw [HSR.out]; simp [turnRe, a1], by rw [HSI.out]; simp [turnIm, a2], ret_val (by have := H4.out; omega), HR'.out, HB'.out⟩
        case measure => simp [intOf]; have := H4.out; omega
      · rw [h] at q3 HSR HSI
        clear h
        go_wp2_with fail
        go_quiet (fail)
        have HR' := Lib.hid (HR.out.drewN nq); have HB' := Lib.hid (drawn_below HB.out nq)
        generalize wr.drewN nq = wd at *
        clear x1 y1 HR HB
        go_wp2_with fail
        go_roundw
        case rel => exact ⟨j + 1, H4.out, by rw [HSR.out]; simp [turnRe, a3]; omega, by rw [HSI.out]; simp [turnIm, a4], ret_val (by have := H4.out; omega), HR'.out, HB'.out⟩
        case measure => simp [intOf]; have := H4.out; omega
      · rw [h] at q3 HSR HSI
        clear h
        go_wp2_with fail
        go_quiet (fail)
        have HR' := Lib.hid (HR.out.drewN nq); have HB' := Lib.hid (drawn_below HB.out nq)
        generalize wr.drewN nq = wd at *
        clear x1 y1 HR HB
        go_wp2_with fail
        go_roundw
        case rel => exact ⟨j + 1, H4.out, by rw [HSR.out]; simp [turnRe, a5]; omega, by rw [HSI.out]; simp [turnIm, a6]; omega, ret_val (by have := H4.out; omega), HR'.out, HB'.out⟩
        case measure => simp [intOf]; have := H4.out; omega
      · rw [h] at q3 HSR HSI
        clear h
        go_wp2_with fail
        go_quiet (fail)
        have HR' := Lib.hid (HR.out.drewN nq); have HB' := Lib.hid (drawn_below HB.out nq)
        generalize wr.drewN nq = wd at *
        clear x1 y1 HR HB
        go_wp2_with fail
        go_roundw
        case rel => exact ⟨j + 1, H4.out, by rw [HSR.out]; simp [turnRe, a7], by rw [HSI.out]; simp [turnIm, a8]; omega, ret_val (by have := H4.out; omega), HR'.out, HB'.out⟩
        case measure => simp [intOf]; have := H4.out; omega
    · obtain rfl : j = 4 := by omega
      have HB := Lib.hid B
      clear R1 B hj h4
      rw [ER.out, EI.out]
      go_wp2_with fail
      go_ret2
      exact ⟨rfl, HB.out⟩

end Go.Proofs.Ytdclgdpifamomaa
