/-
  What the program's All does (chapter 18), for every tree; no condition but bounds.
-/
import Derived.Test.YtmkgcifcfgfegaaAll18
import Derived.Test.YtmkgcifcfgfegaaCodeA17
namespace Go.Proofs.Ytmkgcifcfgfegaa
set_option maxRecDepth 100000
open Go.RowKit

theorem make_rows (n : Nat) (hn : n ≤ 1000000) (w : World) : ∃ w', (Instr.makeSlice 37 (.int .i64 0) (.int .i64 (n : Int))).run Try.prog w = .ok (.slice (some ⟨w.heap.size, 0, none⟩) 0 n) w' ∧
    w'.ownsRow w.heap.size 27 1 (.slice (some ⟨w.heap.size, 0, none⟩) 0 n) 0 [] ∧ Below w.heap.size w w' ∧ w'.heap.size = w.heap.size + 1 := by
  obtain ⟨i, hi, hz, hs, hb⟩ := info_parts info_ints
  have h := run_makeSlice (P := Try.prog) w 37 27 i _ Try.underlying37 hi hz .i64 .i64 0 (n : Int) (by omega) (by omega) (by rw [hs]; simp; omega) (by rw [hb]; omega) (by omega)
  refine ⟨_, h, ⟨rfl, .inr ⟨w.heap.size, n, _, rfl, Nat.le_refl _, heap_alloc_new _ _, Nat.zero_le _, by unfold maxLen; omega, by simp [madeCells, hs, Value.cells], rfl⟩⟩, (Below.refl _ _).alloc (Nat.le_refl _) _, by simp⟩
set_option maxHeartbeats 4000000 in
theorem allV_any (t : Tree) (cs : List Value) (w : World) (hc : cntT t ≤ 1000000) (hT : TreeAt w (· < w.heap.size) t cs) :
    Calls Try.prog 14 #[.agg cs.toArray] w (AnsL w (fun _ => False) (allT t [])) := by
  obtain ⟨o, l⟩ := t
  obtain ⟨Ab, cb, Ak, ck, rfl, _, _, _, _⟩ := hT.open_
  have B0 : Below w.heap.size w (w.alloc (.cells (cellsV o Ab cb Ak l.length ck).toArray 26)) := (Below.refl _ _).alloc (Nat.le_refl _) _
  have hs0 : (w.alloc (.cells (cellsV o Ab cb Ak l.length ck).toArray 26)).heap.size = w.heap.size + 1 := by simp
  have hV : ValAt (w.alloc (.cells (cellsV o Ab cb Ak l.length ck).toArray 26)) (· < w.heap.size + 1) w.heap.size 0 (.node o l) := by
    have := ValAt.box hT rfl 26
    rw [hs0] at this
    exact this
  have hb : (w.alloc (.cells (cellsV o Ab cb Ak l.length ck).toArray 26)).heap[w.heap.size]? = some (.cells (cellsV o Ab cb Ak l.length ck).toArray 26) := heap_alloc_new w _
  have cC := Lib.hid (count_any (.node o l) _ _ hc ((TreeAt.weaken (fun j hj => Nat.lt_of_lt_of_le hj B0.size) _ _ (hT.on B0))))
  obtain ⟨P, hP⟩ : ∃ P, P = allT (.node o l) [] := ⟨_, rfl⟩
  obtain ⟨N, hN⟩ : ∃ N, N = cntT (.node o l) := ⟨_, rfl⟩
  rw [← hP]
  rw [← hN] at cC hc
  have HP := Lib.hid hP
  have HN := Lib.hid hN
  have HV := Lib.hid hV
  have HC := Lib.hid hc
  have HB0 := Lib.hid B0
  have HS0 := Lib.hid hs0
  have Hb := Lib.hid hb
  clear hP hN hT hc hV B0 hs0 hb
  unfold cellsV at *
  go_enter Try.func14, Try.ntmps14
  go_upto_region 1 with fail
  generalize w.alloc (.cells #[.int .i64 o.kind, .int .u64 (o.bits : Int), .int .u64 (o.high : Int), .int .u64 (o.low : Int), .string ⟨o.text.toArray⟩, .string ⟨o.more.toArray⟩, .int .i64 o.sub, .slice Ab o.bytes.length cb, .slice Ak l.length ck] 26) = W at *
  have j0 : W.cell? ⟨w.heap.size, 0, none⟩ = some (.int .i64 o.kind) := by rw [block_cell Hb.out]; rfl
  have j1 : W.cell? ⟨w.heap.size, 1, none⟩ = some (.int .u64 (o.bits : Int)) := by rw [block_cell Hb.out]; rfl
  have j2 : W.cell? ⟨w.heap.size, 2, none⟩ = some (.int .u64 (o.high : Int)) := by rw [block_cell Hb.out]; rfl
  have j3 : W.cell? ⟨w.heap.size, 3, none⟩ = some (.int .u64 (o.low : Int)) := by rw [block_cell Hb.out]; rfl
  have j4 : W.cell? ⟨w.heap.size, 4, none⟩ = some (.string ⟨o.text.toArray⟩) := by rw [block_cell Hb.out]; rfl
  have j5 : W.cell? ⟨w.heap.size, 5, none⟩ = some (.string ⟨o.more.toArray⟩) := by rw [block_cell Hb.out]; rfl
  have j6 : W.cell? ⟨w.heap.size, 6, none⟩ = some (.int .i64 o.sub) := by rw [block_cell Hb.out]; rfl
  have j7 : W.cell? ⟨w.heap.size, 7, none⟩ = some (.slice Ab o.bytes.length cb) := by rw [block_cell Hb.out]; rfl
  have j8 : W.cell? ⟨w.heap.size, 8, none⟩ = some (.slice Ak l.length ck) := by rw [block_cell Hb.out]; rfl
  go_wp2_with fail
  refine (cC.out).mono ?_
  rintro e w1 ⟨rfl, B1⟩
  obtain ⟨W2, mk, o2, B2, s2⟩ := make_rows N HC.out w1
  have hs0 := HS0.out
  have hs1 := B1.size
  have hV2 := HV.out.keep (fun k hk => (B2.block k (by omega)).trans (B1.block k (by omega)))
  have hsz : w.heap.size + 1 ≤ w1.heap.size := by omega
  have BB : Below w.heap.size w W2 := HB0.out.trans ((B1.mono HB0.out.size).trans (B2.mono (by omega)))
  have HV2 := Lib.hid hV2
  have HO2 := Lib.hid o2
  have HSZ := Lib.hid hsz
  have HS2 := Lib.hid s2
  have HBB := Lib.hid BB
  clear B1 B2 o2 s2 hV2 hsz BB hs0 hs1 cC j0 j1 j2 j3 j4 j5 j6 j7 j8 HB0 Hb HV
  go_upto_region 2 with fail
  have B3 : Below W2.heap.size W2 (W2.alloc (.cells #[.slice none 0 0, .slice (some ⟨w1.heap.size, 0, none⟩) 0 N] 56)) := (Below.refl _ _).alloc (Nat.le_refl _) _
  have g3 : (W2.alloc (.cells #[.slice none 0 0, .slice (some ⟨w1.heap.size, 0, none⟩) 0 N] 56)).heap[W2.heap.size]? = some (.cells #[.slice none 0 0, .slice (some ⟨w1.heap.size, 0, none⟩) 0 N] 56) := heap_alloc_new W2 _
  have hs2 := HS2.out
  have hsz := HSZ.out
  have HT3 : Hid (Trl (w.heap.size + 1) W2.heap.size (W2.alloc (.cells #[.slice none 0 0, .slice (some ⟨w1.heap.size, 0, none⟩) 0 N] 56)) [] []) :=
    ⟨_, _, [], g3, World.ownsRow_nil _ _ _ 1, own_mono (owns_keep HO2.out (fun b hb => B3.block b (HO2.out.lt b hb).2)) hsz, trivial, (fun e => by cases e), (fun e => by
      have : w1.heap.size = W2.heap.size := Option.some.inj e
      omega), (fun b hb => by cases hb)⟩
  have HBB3 := Lib.hid (HBB.out.trans (B3.mono HBB.out.size))
  have HGT : Hid (w.heap.size + 1 ≤ W2.heap.size) := show _ ≤ _ by omega
  have cA := Lib.hid (all_any (w.heap.size + 1) W2.heap.size HGT.out (.node o l) w.heap.size 0 _ [] [] (HV2.out.keep (fun k hk => B3.block k (by omega))) HT3.out (by rw [List.length_nil, Nat.zero_add, ← HN.out]; exact HC.out) (by rw [List.length_nil, Nat.zero_add, ← HN.out]; exact HC.out))
  rw [List.nil_append, ← HP.out] at cA
  clear B3 g3 hs2 hsz HT3 HBB HV2 HO2 mk
  generalize W2.alloc (.cells #[.slice none 0 0, .slice (some ⟨w1.heap.size, 0, none⟩) 0 N] 56) = W3 at *
  go_wp2_with fail
  refine (cA.out).mono ?_
  rintro e w4 ⟨⟨rfl, T4⟩, B4⟩
  obtain ⟨Ap, cp, Af, cf, xs, h4⟩ := trl_form T4
  have k1 : w4.cell? ⟨W2.heap.size, 1, none⟩ = some (.slice Af P.length cf) := by rw [block_cell h4.1]; rfl
  have HB5 := Lib.hid (HBB3.out.trans (B4.mono (Nat.le_succ _)))
  have H4 := Lib.hid h4
  clear T4 B4 h4 cA HBB3
  go_wp2_with fail
  go_ret
  refine ⟨⟨Af, P.length, cf, xs, rfl, own_mono H4.out.2.2.1 (Nat.le_succ _), RowsI.turn (fun _ _ => rfl) (fun b hb => ⟨.inr (by have := hb.1; omega), hb.2.1, hb.2.2.2.2⟩) H4.out.2.2.2.1⟩, HB5.out⟩
end Go.Proofs.Ytmkgcifcfgfegaa
