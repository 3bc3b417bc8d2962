/-
  What the program's Check and Same do (chapter 17), for every tree; no condition but bounds.
-/
import Derived.Test.YtfpocpmcoobjkaaDoorCodeK17
namespace Go.Proofs.YtfpocpmcoobjkaaDoor
set_option maxRecDepth 100000
open Go.RowKit

theorem below_put {w0 w : World} {B g n : Nat} (h : Below B w0 w) (hg : B ≤ g) (off : Nat) (d : Array Int) : Below B w0 (Sort.putRow (Value.int .i64) (Sort.ahead w n) g off d) :=
  ⟨h.os, h.tape, h.output, by rw [Sort.size_putRow]; exact h.size, fun k hk => by
    have : ¬ g = k := by omega
    have e : (Sort.putRow (Value.int .i64) (Sort.ahead w n) g off d).heap[k]? = w.heap[k]? := by
      simp [Sort.putRow, Sort.mapBlock, Array.getElem?_modify, this]
    rw [e]
    exact h.block k hk⟩
theorem own_holds {w : World} {base n c : Nat} {e : TypeId} {A : Option Addr} {xs : List Int} (h : w.ownsRow base e 1 (.slice A n c) n (intCells xs)) (hn : 0 < n) :
    ∃ g, A = some ⟨g, 0, none⟩ ∧ base ≤ g ∧ g < w.heap.size ∧ xs.length = n ∧ Sort.Holds (Value.int .i64) w g 0 xs.toArray := by
  obtain ⟨g, rfl, hb, hlt, hc⟩ := own_cell h hn
  have hl : xs.length = n := by have := h.1; simp [intCells] at this; omega
  refine ⟨g, rfl, hb, hlt, hl, fun j hj => ?_⟩
  have hj : j < xs.length := by simpa using hj
  rw [Nat.zero_add]
  refine ⟨?_, World.ownsRow.frozenAt h j⟩
  rw [hc j (by omega)]
  simp [intCells, hj]
/-- Turned round. -/
theorem turn_any (A : Option Addr) (c : Nat) (xs : List Int) (w0 w : World) (B : Below w0.heap.size w0 w) (h : w.ownsRow w0.heap.size 3 1 (.slice A xs.length c) xs.length (intCells xs)) (hm : xs.length ≤ 9223372036854775807) :
    Calls Tryd.prog 32 #[.slice A xs.length c] w fun e w' => e = .returned (.tuple #[]) ∧ Below w0.heap.size w0 w' ∧ Ints w' (· < w'.heap.size) A xs.length xs.reverse := by
  rcases Nat.eq_zero_or_pos xs.length with h0 | h0
  · have hx : xs = [] := List.length_eq_zero_iff.1 h0
    subst hx
    refine (reverse_none A c w).mono ?_
    rintro e w' ⟨rfl, rfl⟩
    exact ⟨rfl, B, rfl, fun h => absurd h (Nat.lt_irrefl _)⟩
  · obtain ⟨g, rfl, hb, hlt, _, hH⟩ := own_holds h h0
    refine (reverse_any g 0 c xs w hH hm).mono ?_
    rintro e w' ⟨rfl, n, rfl⟩
    refine ⟨rfl, below_put B hb _ _, by simp, fun _ => ⟨g, 0, rfl, by rw [Sort.size_putRow]; exact hlt, fun i hi => ?_⟩⟩
    have := (Sort.holds_putRow (Value.int .i64) (Sort.ahead w n) g 0 xs.toArray xs.reverse.toArray (Sort.holds_ahead _ _ _ _ _ _ hH) (by simp) i (by simpa using hi)).1
    rw [this]
    simp [List.getD, hi]
set_option maxHeartbeats 2000000 in
theorem checkV_any (t : Tree) (cs : List Value) (w : World) (hW : Words w) (hc : cntT t ≤ 1000000) (hf : fewT t) (hT : TreeAt w (· < w.heap.size) t cs) :
    Calls Tryd.prog 11 #[.agg cs.toArray] w (AnsC w (chkT t [] [])) := by
  have e : chkT t [] [] = ((bckT t []).1.reverse, (bckT t []).2) := by
    rw [chk_bck]
    by_cases z : (bckT t []).2 = 0
    · rw [if_pos z, z]
      have : (bckT t []).1 = [] := bck_ok t [] z
      rw [this]; rfl
    · rw [if_neg z]; rfl
  rw [e]
  clear e
  obtain ⟨o, l⟩ := t
  obtain ⟨Ab, cb, Ak, ck, rfl, _, _, _, _⟩ := hT.open_
  have V1 := ValAt.box hT rfl 26
  have B1 : Below w.heap.size w (w.alloc (.cells (cellsV o Ab cb Ak l.length ck).toArray 26)) := (Below.refl _ _).alloc (Nat.le_refl _) _
  have cC := Lib.hid (check2_any (.node o l) [] w.heap.size 0 _ (hW.up B1) hc hf (by simp) V1)
  have hln := bck_len (.node o l) []
  have HLN : Hid ((bckT (.node o l) []).1.length ≤ 9223372036854775807) := show _ ≤ _ by omega
  have HB1 := Lib.hid B1
  generalize bckT (.node o l) [] = r at *
  obtain ⟨P, E⟩ := r
  clear hln V1 B1 hT hc hf hW
  unfold cellsV at *
  go_enter Tryd.func11, Tryd.ntmps11
  go_wp2_with fail
  refine (cC.out).mono ?_
  rintro e w1 ⟨⟨A, c, rfl, hO⟩, B2⟩
  have HB2 := Lib.hid (low17 HB1.out B2)
  have cT := Lib.hid (turn_any A c P w w1 HB2.out (own_mono hO HB1.out.size) HLN.out)
  clear hO B2 cC HB1 HB2
  go_wp2_with fail
  refine (cT.out).mono ?_
  rintro e w2 ⟨rfl, B3, hI⟩
  have HB3 := Lib.hid B3
  have HI := Lib.hid hI
  clear cT B3 hI
  go_wp2_with fail
  go_ret2
  exact ⟨⟨A, P.length, c, rfl, HI.out⟩, HB3.out⟩
set_option maxHeartbeats 2000000 in
theorem sameV_any (t u : Tree) (cs ds : List Value) (w : World) (hT : TreeAt w (· < w.heap.size) t cs) (hU : TreeAt w (· < w.heap.size) u ds) :
    Calls Tryd.prog 14 #[.agg cs.toArray, .agg ds.toArray] w fun e w' => e = .returned (.bool (sameT t u)) ∧ Below w.heap.size w w' := by
  obtain ⟨o, l⟩ := t
  obtain ⟨p, m⟩ := u
  obtain ⟨Ab, cb, Ak, ck, rfl, _, _, _, _⟩ := hT.open_
  obtain ⟨Bb, db, Bk, dk, rfl, _, _, _, _⟩ := hU.open_
  have B1 : Below w.heap.size w (w.alloc (.cells (cellsV o Ab cb Ak l.length ck).toArray 26)) := (Below.refl _ _).alloc (Nat.le_refl _) _
  have hs : (w.alloc (.cells (cellsV o Ab cb Ak l.length ck).toArray 26)).heap.size = w.heap.size + 1 := by simp
  have V1 := ValAt.box hT rfl 26
  have V2 := ValAt.box (w := w.alloc (.cells (cellsV o Ab cb Ak l.length ck).toArray 26)) (TreeAt.weaken (fun j hj => Nat.lt_of_lt_of_le hj B1.size) _ _ (hU.on B1)) rfl 26
  have V3 := V1.up ((Below.refl _ _).alloc (Nat.le_refl _) (.cells (cellsV p Bb db Bk m.length dk).toArray 26))
  have cS := Lib.hid (same_any _ _ _ _ _ _ _ V3 V2)
  rw [hs] at cS
  have HB := Lib.hid (two_new w (.cells (cellsV o Ab cb Ak l.length ck).toArray 26) (.cells (cellsV p Bb db Bk m.length dk).toArray 26))
  generalize sameT (.node o l) (.node p m) = r at *
  clear V1 V2 V3 hT hU hs B1
  unfold cellsV at *
  go_enter Tryd.func14, Tryd.ntmps14
  go_wp2_with fail
  refine (cS.out).mono ?_
  rintro e w5 ⟨rfl, B5⟩
  have HB5 := Lib.hid (low17 HB.out B5)
  clear B5 cS
  go_wp2_with fail
  go_ret
  exact ⟨rfl, HB5.out⟩
end Go.Proofs.YtfpocpmcoobjkaaDoor
