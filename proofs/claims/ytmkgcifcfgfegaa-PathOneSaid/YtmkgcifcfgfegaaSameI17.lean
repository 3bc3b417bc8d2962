/-
  What the document's SameInts does; no condition beyond what each contract asks.
-/
import Derived.Test.YtmkgcifcfgfegaaRefC17

namespace Go.Proofs.Ytmkgcifcfgfegaa
open Go.RowKit
theorem ret_val {k : IntKind} {a b : Int} (h : a = b) : Value.int k a = .int k b := by rw [h]
theorem drawn_below {B : Nat} {w w' : World} (h : Below B w w') (m : Nat) : Below B w (w'.drewN m) := ⟨h.os, h.tape, h.output, h.size, h.block⟩
/-- Behind k numbers that are alike. -/
def Alike (xs ys : List Int) (k : Nat) : Prop := ∀ i, i < k → xs.getD i 0 = ys.getD i 0
theorem alike_all {xs ys : List Int} (hl : xs.length = ys.length) (h : Alike xs ys xs.length) : xs = ys := by
  apply List.ext_getElem hl
  intro i h1 h2
  have := h i h1
  simpa [List.getD, h1, h2] using this
set_option maxHeartbeats 2000000 in
theorem sameInts_any (A : Option Addr) (n c : Nat) (xs : List Int) (B : Option Addr) (m d : Nat) (ys : List Int) (w : World) (h1 : Ints w (· < w.heap.size) A n xs) (h2 : Ints w (· < w.heap.size) B m ys) (hn : n ≤ 1000000000) (hm : m ≤ 1000000000) :
    Calls Try.prog 28 #[.slice A n c, .slice B m d] w fun x w' => x = .returned (.bool (decide (xs = ys))) ∧ Below w.heap.size w w' := by
  obtain ⟨r, hr⟩ : ∃ r, r = decide (xs = ys) := ⟨_, rfl⟩
  rw [← hr]
  have HR := Lib.hid hr
  have H1 := Lib.hid h1
  have H2 := Lib.hid h2
  clear hr h1 h2
  by_cases hnm : n = m
  · have d0 : ((n : Int) != (m : Int)) = false := by simp [hnm]
    have d0n : (n != m) = false := by simpa using hnm
    have HNm := Lib.hid hnm
    clear hnm
    go_enter Try.func28, Try.ntmps28
    go_wp2_with fail
    go_loopw [5] (fun i wr => Below w.heap.size w wr ∧ ∃ k : Nat, k ≤ n ∧ i = .int .i64 (k : Int) ∧ Alike xs ys k) (fun i _ => n - (intOf i).toNat)
    case atStart => exact ⟨Below.refl _ _, 0, by omega, rfl, fun i hi => absurd hi (by omega)⟩
    case round =>
      obtain ⟨Br, k, hk, rfl, hal⟩ := hrel
      have HAl := Lib.hid hal
      clear hal
      by_cases hlt : k < n
      · have d1 : decide ((k : Int) < (n : Int)) = true := by simp; omega
        have d1n : decide (k < n) = true := by simp; omega
        have hkm : k < m := by have := HNm.out; omega
        obtain ⟨b0, o, rfl, m1, hc⟩ := H1.out.2 (by omega)
        obtain ⟨b1, p, rfl, m2, hd⟩ := H2.out.2 (by omega)
        have x1 := (Br.cell (p := ⟨b0, o + k, none⟩) m1).trans (hc k hlt)
        have x2 := (Br.cell (p := ⟨b1, p + k, none⟩) m2).trans (hd k hkm)
        clear hc hd m1 m2
        by_cases he : xs.getD k 0 = ys.getD k 0
        · have HA2 : Hid (Alike xs ys (k + 1)) := fun i hi => by
            by_cases hik : i < k
            · exact HAl.out i hik
            · obtain rfl : i = k := by omega
              exact he
          have e1 : (xs.getD k 0 != ys.getD k 0) = false := by simpa using he
          generalize xs.getD k 0 = x at *
          generalize ys.getD k 0 = y at *
          clear he HAl
          go_wp2_with fail
          go_quiet (fail)
          have BD : Below w.heap.size w (wr.drewN nq) := drawn_below Br _
          generalize wr.drewN nq = wd at *
          go_wp2_with fail
          go_roundw
          case rel => exact ⟨BD, k + 1, by omega, ret_val (by omega), HA2.out⟩
          case measure => simp [intOf]; omega
        · have HE : Hid (r = false) := show _ = _ by
            rw [HR.out]
            exact decide_eq_false (fun h => he (by rw [h]))
          have e1 : (xs.getD k 0 != ys.getD k 0) = true := by simpa using he
          generalize xs.getD k 0 = x at *
          generalize ys.getD k 0 = y at *
          clear he HAl
          go_wp2_with fail
          go_quiet (fail)
          have BD : Below w.heap.size w (wr.drewN nq) := drawn_below Br _
          generalize wr.drewN nq = wd at *
          go_wp2_with fail
          go_ret
          exact ⟨by rw [HE.out]; rfl, BD⟩
      · obtain rfl : k = n := by omega
        have d1 : decide ((k : Int) < (k : Int)) = false := by simp
        have HE : Hid (r = true) := show _ = _ by
          rw [HR.out]
          refine decide_eq_true (alike_all ?_ ?_)
          · rw [H1.out.1, H2.out.1]; exact HNm.out
          · rw [H1.out.1]; exact HAl.out
        go_wp2_with fail
        go_ret
        exact ⟨by rw [HE.out]; rfl, Br⟩
  · have d0 : ((n : Int) != (m : Int)) = true := bne_iff_ne.2 (by omega)
    have d0n : (n != m) = true := by simpa using hnm
    have HE : Hid (r = false) := show _ = _ by
      rw [HR.out]
      exact decide_eq_false (fun h => hnm (by rw [← H1.out.1, ← H2.out.1, h]))
    clear hnm
    go_enter Try.func28, Try.ntmps28
    go_wp2_with fail
    go_ret
    exact ⟨by rw [HE.out]; rfl, Below.refl _ _⟩
end Go.Proofs.Ytmkgcifcfgfegaa
