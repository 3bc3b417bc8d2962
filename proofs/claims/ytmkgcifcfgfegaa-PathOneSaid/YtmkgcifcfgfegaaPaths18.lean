/-
  Lists of paths in memory, and what the document's SamePaths does; no condition but bounds.
-/
import Derived.Test.YtmkgcifcfgfegaaClone18
import Derived.BigQuiet
namespace Go.Proofs.Ytmkgcifcfgfegaa
set_option maxRecDepth 100000
open Go.RowKit

theorem RowsI.get {w : World} {M : Nat → Prop} : ∀ {xs : List Value} {ls : List (List Int)}, RowsI w M xs ls → ∀ (k : Nat) (h : k < ls.length), ∃ A n c, xs[k]? = some (.slice A n c) ∧ n ≤ c ∧ Ints w M A n ls[k]
  | [], [], _, _, h => absurd h (Nat.not_lt_zero _)
  | _ :: _, _ :: _, ⟨⟨A, n, c, e, hc, hI⟩, _⟩, 0, _ => ⟨A, n, c, by rw [e]; rfl, hc, hI⟩
  | _ :: _, _ :: _, ⟨_, r⟩, k + 1, h => by
    obtain ⟨A, n, c, h1, h2, h3⟩ := RowsI.get r k (Nat.lt_of_succ_lt_succ h)
    exact ⟨A, n, c, by simpa using h1, h2, by simpa using h3⟩
/-- A slice of paths. -/
def PathsAt (w : World) (A : Option Addr) (n : Nat) (ls : List (List Int)) : Prop :=
  ls.length = n ∧ ∃ xs : List Value, Lie w A n xs ∧ RowsI w (· < w.heap.size) xs ls
theorem Lie.up {w w' : World} {A : Option Addr} {n : Nat} {xs : List Value} (h : Lie w A n xs) (hB : Below w.heap.size w w') : Lie w' A n xs := fun hn => by
  obtain ⟨b, o, e, hb, hc⟩ := h hn
  exact ⟨b, o, e, Nat.lt_of_lt_of_le hb hB.size, fun j u hj => (hB.cell (p := ⟨b, o + j, none⟩) hb).trans (hc j u hj)⟩
theorem PathsAt.up {w w' : World} {A : Option Addr} {n : Nat} {ls : List (List Int)} (h : PathsAt w A n ls) (hB : Below w.heap.size w w') : PathsAt w' A n ls := by
  obtain ⟨h1, xs, h2, h3⟩ := h
  exact ⟨h1, xs, h2.up hB, RowsI.turn (fun b hb => hB.block b hb) (fun b hb => Nat.lt_of_lt_of_le hb hB.size) h3⟩
theorem lie_own {w : World} {base n c : Nat} {e : TypeId} {A : Option Addr} {xs : List Value} (h : w.ownsRow base e 1 (.slice A n c) n xs) : Lie w A n xs := fun hn => by
  obtain ⟨g, e, _, hg, _, _, _, hc⟩ := own_rows h hn
  exact ⟨g, 0, e, hg, fun j u hj => by rw [Nat.zero_add]; exact hc j u hj⟩
theorem paths_ans {w w' : World} {M : Nat → Prop} {ls : List (List Int)} {e : Ending} (h : AnsL w M ls e w') : ∃ A c, e = .returned (.slice A ls.length c) ∧ PathsAt w' A ls.length ls ∧ Below w.heap.size w w' := by
  obtain ⟨⟨A, n, c, xs, h1, h2, h3⟩, h4⟩ := h
  have hn : n = ls.length := by have a := h2.1; have b := h3.len; omega
  subst hn
  exact ⟨A, c, h1, ⟨rfl, xs, lie_own h2, RowsI.turn (fun _ _ => rfl) (fun b hb => hb.2.1) h3⟩, h4⟩
theorem PathsAt.get {w : World} {A : Option Addr} {n : Nat} {ls : List (List Int)} (h : PathsAt w A n ls) (k : Nat) (hk : k < n) (hk2 : k < ls.length) : ∃ b o A2 n2 c2, A = some ⟨b, o, none⟩ ∧ b < w.heap.size ∧ w.cell? ⟨b, o + k, none⟩ = some (.slice A2 n2 c2) ∧ n2 ≤ c2 ∧ Ints w (· < w.heap.size) A2 n2 ls[k] := by
  obtain ⟨h1, xs, h2, h3⟩ := h
  obtain ⟨b, o, e, hb, hc⟩ := h2 (by omega)
  obtain ⟨A2, n2, c2, q1, q2, q3⟩ := h3.get k hk2
  exact ⟨b, o, A2, n2, c2, e, hb, hc k _ q1, q2, q3⟩
theorem drop_eq {ls ms : List (List Int)} {k : Nat} (h1 : k < ls.length) (h2 : k < ms.length) : decide (ls.drop k = ms.drop k) = (decide (ls[k] = ms[k]) && decide (ls.drop (k + 1) = ms.drop (k + 1))) := by
  rw [List.drop_eq_getElem_cons h1, List.drop_eq_getElem_cons h2]
  simp only [List.cons.injEq, Bool.decide_and]
theorem Ints.grown {w : World} {A : Option Addr} {n : Nat} {xs : List Int} (h : Ints w (· < w.heap.size) A n xs) (d os) : Ints (Sort.grow (redrawn w d) os) (· < (Sort.grow (redrawn w d) os).heap.size) A n xs := h.on (below_regrown w d os)
set_option maxHeartbeats 4000000 in
theorem samePaths_any (A : Option Addr) (n c : Nat) (ls : List (List Int)) (B : Option Addr) (m d : Nat) (ms : List (List Int)) (w : World) (h1 : PathsAt w A n ls) (h2 : PathsAt w B m ms) (hn : n ≤ 1000000) (b1 : ∀ r ∈ ls, r.length ≤ 1000000) (b2 : ∀ r ∈ ms, r.length ≤ 1000000) :
    Calls Try.prog 15 #[.slice A n c, .slice B m d] w fun e w' => e = .returned (.bool (decide (ls = ms))) ∧ Below w.heap.size w w' := by
  obtain ⟨R, hR⟩ : ∃ R, R = decide (ls = ms) := ⟨_, rfl⟩
  rw [← hR]
  have H1 := Lib.hid h1
  have H2 := Lib.hid h2
  have l1 := h1.1
  have l2 := h2.1
  by_cases hnm : n = m
  rotate_left 1
  · have d0 : ((n : Int) != (m : Int)) = true := by simp; omega
    have d0n : (n != m) = true := by simpa using hnm
    have HE : Hid (R = false) := show _ = _ by rw [hR]; exact decide_eq_false (fun e => hnm (by rw [← l1, ← l2, e]))
    clear hR h1 h2 b1 b2
    go_enter Try.func15, Try.ntmps15
    go_wp2_with fail
    go_ret
    exact ⟨by rw [HE.out]; rfl, Below.refl _ _⟩
  have d0 : ((n : Int) != (m : Int)) = false := by simp [hnm]
  have d0n : (n != m) = false := by simpa using hnm
  have HR : Hid (R = decide (ls.drop 0 = ms.drop 0)) := hR
  have HB1 := Lib.hid b1
  have HB2 := Lib.hid b2
  have HNM := Lib.hid hnm
  have HL1 := Lib.hid l1
  have HL2 := Lib.hid l2
  have HN := Lib.hid hn
  clear hR h1 h2 b1 b2 hnm l1 l2 hn
  go_enter Try.func15, Try.ntmps15
  go_wp2_with fail
  clear d0 d0n
  go_loopw [5] (fun i wr => Below w.heap.size w wr ∧ ∃ k : Nat, k ≤ n ∧ i = .int .i64 (k : Int) ∧ R = decide (ls.drop k = ms.drop k)) (fun i _ => n - natV i)
  case atStart => exact ⟨Below.refl _ _, 0, Nat.zero_le _, rfl, HR.out⟩
  case round =>
    obtain ⟨hB, k, hk, rfl, hr⟩ := hrel
    have HB := Lib.hid hB
    have hn := HN.out
    have hnm := HNM.out
    have l1 := HL1.out
    have l2 := HL2.out
    by_cases hlt : k < n
    · have e1 : decide ((k : Int) < (n : Int)) = true := decide_eq_true (by omega)
      have e1n : decide (k < n) = true := decide_eq_true hlt
      obtain ⟨b, o, A2, n2, c2, rfl, hb, x1, _, hI⟩ := (H1.out.up hB).get k hlt (by omega)
      obtain ⟨b', o', A3, n3, c3, rfl, hb', x2, _, hJ⟩ := (H2.out.up hB).get k (by omega) (by omega)
      have bI := HB1.out _ (List.getElem_mem (show k < ls.length by omega))
      have bJ := HB2.out _ (List.getElem_mem (show k < ms.length by omega))
      rw [drop_eq (by omega) (by omega)] at hr
      have hi1 := hI.1
      have hj1 := hJ.1
      have cI0 := fun d os => Calls.regrown_of (sameInts_any A2 n2 c2 _ A3 n3 c3 _ _ (hI.grown d os) (hJ.grown d os) (by omega) (by omega))
      obtain ⟨v, hv⟩ : ∃ v, v = decide (ls[k]'(by omega) = ms[k]'(by omega)) := ⟨_, rfl⟩
      rw [← hv] at hr
      have cI : ∀ d os, Calls Try.prog 28 #[.slice A2 n2 c2, .slice A3 n3 c3] (Sort.grow (redrawn wr d) os) fun x w'' => x = .returned (.bool v) ∧ ∃ p : Regrown, w'' = Sort.grow (redrawn wr p.d) p.os := fun d os => by rw [hv]; exact cI0 d os
      have HE := Lib.hid hr
      have HK1 : Hid (k + 1 ≤ n) := hlt
      have u2 : Hid (wrap64 ((k : Int) + 1) = ((k + 1 : Nat) : Int)) := show _ = _ from w64 (by omega) (by omega)
      have i0 : (0 : Int) ≤ (k : Int) := by omega
      have i1 : (k : Int) < (n : Int) := by omega
      have i2 : (k : Int) < (m : Int) := by omega
      have r1 := cell_regrown x1
      have r2 := cell_regrown x2
      clear hr hI hJ bI bJ hi1 hj1 cI0 hv hk hnm l1 l2
      cases v with
      | true =>
        go_upto_region 6 with fail
        refine wp_region_quiet_below (by kernel_rfl) (by kernel_rfl) ?_
        repeat (go_big_quiet_step (first | with_reducible exact cI _ _))
        refine wpQuiet_nil ?_
        intro _ hw'
        obtain ⟨⟨dq, osq⟩, hw''⟩ := hw'
        subst hw''
        have HB5 := Lib.hid (HB.out.trans ((below_regrown wr dq osq).mono HB.out.size))
        generalize Sort.grow (redrawn wr dq) osq = w2 at *
        have HE2 : Hid (R = decide (ls.drop (k + 1) = ms.drop (k + 1))) := show _ = _ by rw [HE.out, Bool.true_and]
        clear cI r1 r2 x1 x2 hB HE
        go_wp2_with fail
        go_roundw
        case rel => exact ⟨HB5.out, k + 1, HK1.out, by first | rfl | rw [u2.out], HE2.out⟩
        case measure => have := HK1.out; first | (rw [u2.out]; simp [natV]; omega) | (simp [natV]; omega)
      | false =>
        go_upto_region 6 with fail
        refine wp_region_quiet_below (by kernel_rfl) (by kernel_rfl) ?_
        repeat (go_big_quiet_step (first | with_reducible exact cI _ _))
        refine wpQuiet_nil ?_
        intro _ hw'
        obtain ⟨⟨dq, osq⟩, hw''⟩ := hw'
        subst hw''
        have HB5 := Lib.hid (HB.out.trans ((below_regrown wr dq osq).mono HB.out.size))
        generalize Sort.grow (redrawn wr dq) osq = w2 at *
        have HE2 : Hid (R = false) := show _ = _ by rw [HE.out]; rfl
        clear cI r1 r2 x1 x2 hB HE
        go_wp2_with fail
        go_ret
        exact ⟨by rw [HE2.out]; rfl, HB5.out⟩
    · obtain rfl : k = n := by omega
      have e1 : decide ((k : Int) < (k : Int)) = false := decide_eq_false (by omega)
      have e1n : decide (k < k) = false := decide_eq_false (by omega)
      have HE : Hid (R = true) := show _ = _ by
        rw [hr, List.drop_of_length_le (by omega), List.drop_of_length_le (by omega)]
        simp
      clear hr hlt hk hB hnm l1 l2
      go_wp2_with fail
      go_ret
      exact ⟨by rw [HE.out]; rfl, HB.out⟩
end Go.Proofs.Ytmkgcifcfgfegaa
