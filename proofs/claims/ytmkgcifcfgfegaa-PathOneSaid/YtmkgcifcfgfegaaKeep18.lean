/-
  What the program's keep does (chapter 18): one more path found, in a row of its own; no condition but bounds.
-/
import Derived.Test.YtmkgcifcfgfegaaTrail18
namespace Go.Proofs.Ytmkgcifcfgfegaa
set_option maxRecDepth 100000
open Go.RowKit

theorem keep_own {w w1 : World} {B m cf : Nat} {Af : Option Addr} {xs : List Value} {ls : List (List Int)} (h : w.ownsRow B 27 1 (.slice Af ls.length cf) ls.length xs) (hm : m = ls.length) (B1 : Below w.drew.heap.size w.drew w1) : w1.ownsRow B 27 1 (.slice Af m cf) m xs := by
  subst hm
  exact owns_keep h (fun b hb => B1.block b (h.lt b hb).2)
theorem keep_base {w w1 : World} {B gt : Nat} (hB : B ≤ gt) (hgt : gt < w.heap.size) (B1 : Below w.drew.heap.size w.drew w1) (o : Obj) : B ≤ (w1.alloc o).heap.size := by
  have h1 := B1.size
  have h2 : w.drew.heap.size = w.heap.size := rfl
  simp
  omega
theorem keep_cell {w w1 w3 : World} {B gt m cf : Nat} {P : Value} {Af : Option Addr} {xs : List Value} {p : List Int} {ls : List (List Int)} (h : TrlX B gt w P (.slice Af ls.length cf) xs p ls) (hm : m = ls.length) (hgt : gt < w.heap.size) (B1 : Below w.drew.heap.size w.drew w1) (o : Obj) (hg : (w1.alloc o).grownBy w3 (Value.slice Af m cf).ownBlock) :
    w3.cell? ⟨gt, 1, none⟩ = some (.slice Af m cf) ∧ w3.frozen? ⟨gt, 1, none⟩ = false := by
  subst hm
  have h1 := B1.size
  have h2 : w.drew.heap.size = w.heap.size := rfl
  have g : w3.heap[gt]? = some (.cells #[P, .slice Af ls.length cf] 56 (0, 0)) :=
    (hg.block gt (by simp; omega) (fun e => h.2.2.2.2.2.1 e.symm)).trans ((Below.heap_alloc _ _ _ (by omega)).trans ((B1.block gt hgt).trans h.1))
  exact ⟨by rw [block_cell g]; rfl, block_frozen g 1⟩
theorem keep_cell1 {w w1 : World} {B gt m cf : Nat} {P : Value} {Af : Option Addr} {xs : List Value} {p : List Int} {ls : List (List Int)} (h : TrlX B gt w P (.slice Af ls.length cf) xs p ls) (hm : m = ls.length) (hgt : gt < w.heap.size) (B1 : Below w.drew.heap.size w.drew w1) :
    w1.cell? ⟨gt, 1, none⟩ = some (.slice Af m cf) := by
  subst hm
  rw [block_cell ((B1.block gt hgt).trans h.1)]; rfl
theorem keep_done {w w1 w3 : World} {B gt m n cf c' c3 : Nat} {P : Value} {Af A' A3 : Option Addr} {xs : List Value} {p : List Int} {ls : List (List Int)} (h : TrlX B gt w P (.slice Af ls.length cf) xs p ls) (hm : m = ls.length) (hB : B ≤ gt) (hgt : gt < w.heap.size)
    (B1 : Below w.drew.heap.size w.drew w1) (o1 : w1.ownsRow w.drew.heap.size 3 1 (.slice A' n c') n (intCells p)) (ho : w3.ownsRow B 27 1 (.slice A3 (m + 1) c3) (m + 1) (xs ++ [.slice A' n c']))
    (hg : (w1.alloc (.cells #[.slice A' n c'] 27)).grownBy w3 (Value.slice Af m cf).ownBlock) (hs : (Value.slice A3 (m + 1) c3).ownBlock = (Value.slice Af m cf).ownBlock ∨ (Value.slice A3 (m + 1) c3).ownBlock = some (w1.alloc (.cells #[.slice A' n c'] 27)).heap.size) :
    TrlX B gt (w3.setCell ⟨gt, 1, none⟩ (.slice A3 (m + 1) c3)) P (.slice A3 (m + 1) c3) (xs ++ [.slice A' n c']) p (ls ++ [p]) ∧ Below B w (w3.setCell ⟨gt, 1, none⟩ (.slice A3 (m + 1) c3)) := by
  subst hm
  have s1 := B1.size
  have s2 : w.drew.heap.size = w.heap.size := rfl
  have s3 := hg.size
  have s4 : (w1.alloc (.cells #[.slice A' n c'] 27)).heap.size = w1.heap.size + 1 := by simp
  have hF := fun b hb => (h.2.2.1.lt b hb).2
  have hb1 : ∀ b, b < w1.heap.size → (Value.slice Af ls.length cf).ownBlock ≠ some b → w3.heap[b]? = w1.heap[b]? := fun b hb hn => (hg.block b (by omega) (fun e => hn e.symm)).trans (Below.heap_alloc _ _ _ hb)
  refine ⟨TrlX.found (w := w.drew) (w5 := w3) h.drew (fun b hb hn => (hb1 b (by omega) hn).trans (B1.block b hb)) (by omega) (by omega) ho ?_ (own_le o1) ?_, ?_⟩
  · rcases hs with h | h
    · exact .inl h
    · exact .inr ⟨_, h, by omega⟩
  · refine ((own_ints_new o1).keep (fun b hb => hb1 b hb.2 (fun e => by have := hF b e; omega))).weaken (fun b hb => ⟨hb.1, by omega, fun e => ?_⟩)
    rcases hs with h | h
    · have := hF b (h ▸ e); omega
    · rw [h] at e; cases e; omega
  · refine Below.setCell (p := ⟨gt, 1, none⟩) ?_ hB _
    have q1 : Below B w w1 := (Below.refl B w).drew.trans (B1.mono (by omega))
    exact (q1.alloc (by omega) _).grown hg (by omega) (fun k hk => (h.2.2.1.lt k hk).1)
set_option maxHeartbeats 8000000 in
theorem keep_any (B gt : Nat) (w : World) (p : List Int) (ls : List (List Int)) (h : Trl B gt w p ls) (hB : B ≤ gt) (hp : p.length ≤ 1000000) (hl : ls.length ≤ 1000000) :
    Calls Try.prog 36 #[.pointer (some ⟨gt, 0, none⟩)] w fun e w' => (e = .returned (.tuple #[]) ∧ Trl B gt w' p (ls ++ [p])) ∧ Below B w w' := by
  obtain ⟨Ap, cp, Af, cf, xs, h⟩ := trl_form h
  obtain ⟨i0, hi0, hz0, hz1, hz2⟩ := info_parts info_ints
  have HZ := Lib.hid hz0; have HI0 := Lib.hid hi0; have H1 := Lib.hid hz1; have H2 := Lib.hid hz2
  have hgt := block_lt h.1
  have j0 : w.cell? ⟨gt, 0, none⟩ = some (.slice Ap p.length cp) := by rw [block_cell h.1]; rfl
  have j1 : w.cell? ⟨gt, 1, none⟩ = some (.slice Af ls.length cf) := by rw [block_cell h.1]; rfl
  have f1 : w.frozen? ⟨gt, 1, none⟩ = false := block_frozen h.1 1
  have cI := Lib.hid fun (V : World) (hV : Below w.heap.size w V) => cloneI_any Ap p.length cp (intCells p) V (by simp [intCells]) (lie_ints ((own_ints (owns_keep h.2.1 (fun b hb => hV.block b (h.2.1.lt b hb).2))))) (intCells_one p) (by omega)
  have M2 : ls.length + 1 ≤ maxLen := by simp only [maxLen]; omega
  have M3 : (ls.length + 1) * 24 ≤ 140737488355328 := by omega
  have HH := Lib.hid h
  have HGT := Lib.hid hgt
  obtain ⟨n, hn⟩ : ∃ n, n = p.length := ⟨_, rfl⟩
  obtain ⟨m, hm⟩ : ∃ m, m = ls.length := ⟨_, rfl⟩
  rw [← hn] at j0 cI
  rw [← hm] at j1 M2 M3
  have HN := Lib.hid hn
  have HMM := Lib.hid hm
  clear h hi0 hz0 hz1 hz2 hgt hp hl hn hm
  go_enter Try.func36, Try.ntmps36
  go_wp2_with fail
  go_region_law (first
    | (refine step_append_held rfl (.tmp 6) (.tmp 12) 37 rfl B 27 i0 _ 24 Try.underlying37 HI0.out HZ.out H1.out H2.out rfl _ m xs rfl ((keep_own (HH.out.2.2.1) HMM.out B1).alloc _) (some ⟨w1.heap.size, 0, none⟩) 1 1 [.slice A' n c'] rfl rfl (fun _ => ⟨_, rfl, World.news_of_block (cs := #[.slice A' n c']) (t := 27) (fr := (0, 0)) (heap_alloc_new w1 _)⟩) (by simp [Value.oneCell']) M2 M3 (keep_base hB HGT.out B1 _) ?_; intro A3 c3 w3 ho3 hg3 hs3; have q3 := keep_cell HH.out HMM.out HGT.out B1 _ hg3; have c3' := q3.1; have f3 := q3.2)
    | (go_simp; go_at_call 42; (with_reducible refine (cI.out _ (Below.refl _ _).drew).mono ?_); rintro e w1 ⟨⟨A', c', rfl, o1⟩, B1⟩; have k1 := keep_cell1 HH.out HMM.out HGT.out B1; have k2 := cell_past (.cells #[.slice A' n c'] 27) k1))
  all_goals
    have XX := keep_done HH.out HMM.out hB HGT.out B1 o1 ho3.out hg3 hs3.out
    have HXX := Lib.hid XX
    clear XX k1 k2 q3 c3' f3 ho3 hg3 hs3 o1 B1 cI M2 M3
    go_wp2_with fail
    refine bodyPost_end (results_none rfl _ _ _) rfl ?_
    exact ⟨⟨rfl, _, _, _, HXX.out.1⟩, HXX.out.2⟩
end Go.Proofs.Ytmkgcifcfgfegaa
