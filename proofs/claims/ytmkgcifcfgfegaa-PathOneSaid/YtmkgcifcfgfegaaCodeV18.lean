/-
  Laws of cells, rows and trees that the walks use; no condition beyond what each lemma asks.
-/
import Derived.Test.YtmkgcifcfgfegaaCodeE17
import Derived.Test.YtmkgcifcfgfegaaLib18
namespace Go.Proofs.Ytmkgcifcfgfegaa
set_option maxRecDepth 100000
open Go.RowKit

set_option maxHeartbeats 2000000 in
theorem sameV_any (t u : Tree) (cs ds : List Value) (w : World) (hT : TreeAt w (· < w.heap.size) t cs) (hU : TreeAt w (· < w.heap.size) u ds) :
    Calls Try.prog 43 #[.agg cs.toArray, .agg ds.toArray] w fun e w' => e = .returned (.bool (sameT t u)) ∧ Below w.heap.size w w' := by
  obtain ⟨o, l⟩ := t
  obtain ⟨p, m⟩ := u
  obtain ⟨Ab, cb, Ak, ck, rfl, _, _, _, _⟩ := hT.open_
  obtain ⟨Bb, db, Bk, dk, rfl, _, _, _, _⟩ := hU.open_
  have B1 : Below w.heap.size w (w.alloc (.cells (cellsV o Ab cb Ak l.length ck).toArray 26)) := (Below.refl _ _).alloc (Nat.le_refl _) _
  have hs : (w.alloc (.cells (cellsV o Ab cb Ak l.length ck).toArray 26)).heap.size = w.heap.size + 1 := by simp
  have V1 := ValAt.box hT rfl 26
  have V2 := ValAt.box (w := w.alloc (.cells (cellsV o Ab cb Ak l.length ck).toArray 26)) (TreeAt.weaken (fun j hj => Nat.lt_of_lt_of_le hj B1.size) _ _ (hU.on B1)) rfl 26
  have V3 := V1.up ((Below.refl _ _).alloc (Nat.le_refl _) (.cells (cellsV p Bb db Bk m.length dk).toArray 26))
  have cS := Lib.hid (same_any _ _ _ _ _ _ _ V3 V2)
  rw [hs] at cS
  have HB := Lib.hid (two_new w (.cells (cellsV o Ab cb Ak l.length ck).toArray 26) (.cells (cellsV p Bb db Bk m.length dk).toArray 26))
  generalize sameT (.node o l) (.node p m) = r at *
  clear V1 V2 V3 hT hU hs B1
  unfold cellsV at *
  go_enter Try.func43, Try.ntmps43
  go_wp2_with fail
  refine (cS.out).mono ?_
  rintro e w5 ⟨rfl, B5⟩
  have HB5 := Lib.hid (low17 HB.out B5)
  clear B5 cS
  go_wp2_with fail
  go_ret
  exact ⟨rfl, HB5.out⟩
end Go.Proofs.Ytmkgcifcfgfegaa
