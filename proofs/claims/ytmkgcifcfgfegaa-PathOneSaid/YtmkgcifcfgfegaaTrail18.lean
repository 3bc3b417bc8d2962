/-
  A walk through a tree, as the program's trail holds it: the path and the paths found, in rows of its own; what its methods do; no condition but bounds.
-/
import Derived.Test.YtmkgcifcfgfegaaClone18
import Derived.Deep.AppendLies
import Derived.BigRegion
namespace Go.Proofs.Ytmkgcifcfgfegaa
set_option maxRecDepth 100000
open Go.RowKit

/-- Blocks of the walk's own that are neither its own nor one of its rows. -/
def Free (B gt : Nat) (w : World) (P F : Value) (b : Nat) : Prop := B ≤ b ∧ b < w.heap.size ∧ b ≠ gt ∧ P.ownBlock ≠ some b ∧ F.ownBlock ≠ some b
def TrlX (B gt : Nat) (w : World) (P F : Value) (xs : List Value) (p : List Int) (ls : List (List Int)) : Prop :=
  w.heap[gt]? = some (.cells #[P, F] 56 (0, 0)) ∧ w.ownsRow B 3 1 P p.length (intCells p) ∧ w.ownsRow B 27 1 F ls.length xs ∧ RowsI w (Free B gt w P F) xs ls ∧
  P.ownBlock ≠ some gt ∧ F.ownBlock ≠ some gt ∧ (∀ b, P.ownBlock = some b → F.ownBlock ≠ some b)
def Trl (B gt : Nat) (w : World) (p : List Int) (ls : List (List Int)) : Prop := ∃ P F xs, TrlX B gt w P F xs p ls
theorem owns_keep {w w' : World} {base : Nat} {e : TypeId} {sz : Nat} {v : Value} {n : Nat} {xs : List Value} (h : w.ownsRow base e sz v n xs) (hk : ∀ b, v.ownBlock = some b → w'.heap[b]? = w.heap[b]?) : w'.ownsRow base e sz v n xs := by
  refine ⟨h.1, ?_⟩
  rcases h.2 with h2 | ⟨g, cap, cur, e1, hb, hg, r⟩
  · exact .inl h2
  · exact .inr ⟨g, cap, cur, e1, hb, (hk g (by rw [e1]; rfl)).trans hg, r⟩
theorem set_other {w : World} {g k : Nat} (i : Nat) (u : Value) (h : k ≠ g) : (w.setCell ⟨g, i, none⟩ u).heap[k]? = w.heap[k]? := block_keep1 (fun e => h e.symm) i u
theorem set_size (w : World) (a : Addr) (u : Value) : (w.setCell a u).heap.size = w.heap.size := by simp [World.setCell]
/-- The path turned. -/
theorem TrlX.path {B gt : Nat} {w w5 : World} {P F P' : Value} {xs : List Value} {p p' : List Int} {ls : List (List Int)} (h : TrlX B gt w P F xs p ls)
    (hk : ∀ b, b < w.heap.size → P.ownBlock ≠ some b → w5.heap[b]? = w.heap[b]?) (hs : w.heap.size ≤ w5.heap.size) (ho : w5.ownsRow B 3 1 P' p'.length (intCells p'))
    (hat : P'.ownBlock = P.ownBlock ∨ P'.ownBlock = none ∨ ∃ b, P'.ownBlock = some b ∧ w.heap.size ≤ b) : TrlX B gt (w5.setCell ⟨gt, 0, none⟩ P') P' F xs p' ls := by
  obtain ⟨h1, h2, h3, h4, h5, h6, h7⟩ := h
  have hgt := block_lt h1
  have hpg : P'.ownBlock ≠ some gt := by
    rcases hat with e | e | ⟨b, e, hb⟩
    · rw [e]; exact h5
    · rw [e]; exact fun e => by cases e
    · rw [e]; exact fun e => by cases e; omega
  have hpf : ∀ b, P'.ownBlock = some b → F.ownBlock ≠ some b := fun b hb e => by
    have hl := (h3.lt b e).2
    rcases hat with e2 | e2 | ⟨b2, e2, hb2⟩
    · exact h7 b (e2 ▸ hb) e
    · rw [e2] at hb; cases hb
    · rw [e2] at hb; cases hb; omega
  refine ⟨?_, owns_keep ho (fun b hb => set_other 0 P' (fun e => hpg (e ▸ hb))), owns_keep (owns_keep (w' := w5) h3 (fun b hb => hk b (h3.lt b hb).2 (fun e => h7 b e hb))) (fun b hb => set_other 0 P' (fun e => h6 (e ▸ hb))), ?_, hpg, h6, hpf⟩
  · exact block_set ((hk gt hgt h5).trans h1) 0 P'
  · refine RowsI.turn (fun b hb => ?_) (fun b hb => ?_) h4
    · exact (set_other 0 P' hb.2.2.1).trans (hk b hb.2.1 hb.2.2.2.1)
    · refine ⟨hb.1, by rw [set_size]; exact Nat.lt_of_lt_of_le hb.2.1 hs, hb.2.2.1, fun e => ?_, hb.2.2.2.2⟩
      have hlt := hb.2.1
      rcases hat with e2 | e2 | ⟨b2, e2, hb2⟩
      · exact hb.2.2.2.1 (e2 ▸ e)
      · rw [e2] at e; cases e
      · rw [e2] at e; cases e; omega
/-- One more path found. -/
theorem TrlX.found {B gt : Nat} {w w5 : World} {P F F' : Value} {xs : List Value} {p q : List Int} {ls : List (List Int)} {A : Option Addr} {n c : Nat} (h : TrlX B gt w P F xs p ls)
    (hk : ∀ b, b < w.heap.size → F.ownBlock ≠ some b → w5.heap[b]? = w.heap[b]?) (hs : w.heap.size ≤ w5.heap.size) (hB : B ≤ w.heap.size) (ho : w5.ownsRow B 27 1 F' (ls.length + 1) (xs ++ [.slice A n c]))
    (hat : F'.ownBlock = F.ownBlock ∨ ∃ b, F'.ownBlock = some b ∧ w.heap.size ≤ b) (hc : n ≤ c) (hI : Ints w5 (fun b => w.heap.size ≤ b ∧ b < w5.heap.size ∧ F'.ownBlock ≠ some b) A n q) :
    TrlX B gt (w5.setCell ⟨gt, 1, none⟩ F') P F' (xs ++ [.slice A n c]) p (ls ++ [q]) := by
  obtain ⟨h1, h2, h3, h4, h5, h6, h7⟩ := h
  have hgt := block_lt h1
  have hfg : F'.ownBlock ≠ some gt := by
    rcases hat with e | ⟨b, e, hb⟩
    · rw [e]; exact h6
    · rw [e]; exact fun e => by cases e; omega
  have hpf : ∀ b, P.ownBlock = some b → F'.ownBlock ≠ some b := fun b hb e => by
    have hl := (h2.lt b hb).2
    rcases hat with e2 | ⟨b2, e2, hb2⟩
    · exact h7 b hb (e2 ▸ e)
    · rw [e2] at e; cases e; omega
  have el : (ls ++ [q]).length = ls.length + 1 := by simp
  refine ⟨?_, owns_keep (owns_keep (w' := w5) h2 (fun b hb => hk b (h2.lt b hb).2 (h7 b hb))) (fun b hb => set_other 1 F' (fun e => h5 (e ▸ hb))), ?_, RowsI.append ?_ ⟨⟨A, n, c, rfl, hc, ?_⟩, trivial⟩, h5, hfg, hpf⟩
  · exact block_set ((hk gt hgt h6).trans h1) 1 F'
  · rw [el]; exact owns_keep ho (fun b hb => set_other 1 F' (fun e => hfg (e ▸ hb)))
  · refine RowsI.turn (fun b hb => ?_) (fun b hb => ?_) h4
    · exact (set_other 1 F' hb.2.2.1).trans (hk b hb.2.1 hb.2.2.2.2)
    · refine ⟨hb.1, by rw [set_size]; exact Nat.lt_of_lt_of_le hb.2.1 hs, hb.2.2.1, hb.2.2.2.1, fun e => ?_⟩
      rcases hat with e2 | ⟨b2, e2, hb2⟩
      · exact hb.2.2.2.2 (e2 ▸ e)
      · rw [e2] at e; cases e; have := hb.2.1; omega
  · refine (hI.keep (fun b hb => set_other 1 F' (by omega))).weaken (fun b hb => ⟨by omega, by rw [set_size]; exact hb.2.1, by omega, fun e => ?_, hb.2.2⟩)
    have := (h2.lt b e).2
    omega
/-- The path's last number turned. -/
theorem TrlX.last {B gt : Nat} {w : World} {g cp : Nat} {F : Value} {xs : List Value} {p : List Int} {x y : Int} {ls : List (List Int)} (h : TrlX B gt w (.slice (some ⟨g, 0, none⟩) (p.length + 1) cp) F xs (p ++ [x]) ls) :
    TrlX B gt (w.setCell ⟨g, p.length, none⟩ (.int .i64 y)) (.slice (some ⟨g, 0, none⟩) (p.length + 1) cp) F xs (p ++ [y]) ls := by
  obtain ⟨h1, h2, h3, h4, h5, h6, h7⟩ := h
  have hgg : gt ≠ g := fun e => h5 (by rw [e]; rfl)
  have el : (p ++ [y]).length = p.length + 1 := by simp
  have el2 : (p ++ [x]).length = p.length + 1 := by simp
  refine ⟨(set_other _ _ hgg).trans h1, ?_, owns_keep h3 (fun b hb => set_other _ _ (fun e => h7 g rfl (e ▸ hb))), RowsI.turn (fun b hb => set_other _ _ (fun e => hb.2.2.2.1 (by rw [e]; rfl))) (fun b hb => ⟨hb.1, by rw [set_size]; exact hb.2.1, hb.2.2⟩) h4, h5, h6, h7⟩
  rw [el]
  rw [el2] at h2
  refine ⟨by simp [intCells], ?_⟩
  rcases h2.2 with ⟨_, e⟩ | ⟨g', cap, cur, e1, hb, hg, hnc, hcm, hsz, htk⟩
  · omega
  · injection e1 with e1 e2 e3
    injection e1 with e1
    injection e1 with e1
    subst e1
    subst e3
    refine .inr ⟨g, cp, cur.set! p.length (.int .i64 y), rfl, hb, block_set hg p.length _, hnc, hcm, by simpa using hsz, ?_⟩
    rw [Nat.mul_one] at htk hsz ⊢
    have hl : p.length < cur.toList.length := by have hcl : cur.toList.length = cur.size := Array.length_toList; omega
    have e4 : (cur.set! p.length (Value.int .i64 y)).toList = cur.toList.set p.length (.int .i64 y) := by simp
    rw [e4, List.take_set, htk]
    unfold intCells
    rw [List.map_append, List.map_append, List.set_append_right _ _ (by simp)]
    simp
theorem TrlX.drew {B gt : Nat} {w : World} {P F : Value} {xs : List Value} {p : List Int} {ls : List (List Int)} (h : TrlX B gt w P F xs p ls) : TrlX B gt w.drew P F xs p ls :=
  ⟨h.1, h.2.1, h.2.2.1, RowsI.turn (w := w) (w' := w.drew) (fun _ _ => rfl) (fun _ hb => hb) h.2.2.2.1, h.2.2.2.2⟩
theorem trl_form {B gt : Nat} {w : World} {p : List Int} {ls : List (List Int)} (h : Trl B gt w p ls) : ∃ (Ap : Option Addr) (cp : Nat) (Af : Option Addr) (cf : Nat) (xs : List Value), TrlX B gt w (.slice Ap p.length cp) (.slice Af ls.length cf) xs p ls := by
  obtain ⟨P, F, xs, h⟩ := h
  obtain ⟨Ap, cp, rfl⟩ := own_form h.2.1
  obtain ⟨Af, cf, rfl⟩ := own_form h.2.2.1
  exact ⟨Ap, cp, Af, cf, xs, h⟩
set_option maxHeartbeats 2000000 in
theorem down_any (B gt : Nat) (w : World) (p : List Int) (ls : List (List Int)) (h : Trl B gt w p ls) (hB : B ≤ gt) (hp : p.length ≤ 1000000) :
    Calls Try.prog 37 #[.pointer (some ⟨gt, 0, none⟩)] w fun e w' => (e = .returned (.tuple #[]) ∧ Trl B gt w' (p ++ [0]) ls) ∧ Below B w w' := by
  obtain ⟨Ap, cp, Af, cf, xs, h⟩ := trl_form h
  obtain ⟨i0, hi0, hz0, hz1, hz2⟩ := info_parts info_int
  have HZ := Lib.hid hz0; have HI0 := Lib.hid hi0; have H1 := Lib.hid hz1; have H2 := Lib.hid hz2
  have hgt := block_lt h.1
  have BA : Below B w (w.alloc (.cells #[.int .i64 0] 3)) := (Below.refl _ _).alloc (by omega) _
  have HOA : Hid ((w.alloc (.cells #[.int .i64 0] 3)).ownsRow B 3 1 (.slice Ap p.length cp) p.length (intCells p)) := h.2.1.alloc _
  have hgn := heap_alloc_new w (.cells #[.int .i64 0] 3)
  have HSr : Hid (0 < 1 → ∃ ad, some (⟨w.heap.size, 0, none⟩ : Addr) = some ad ∧ ∀ j u, ([.int .i64 0] : List Value)[j]? = some u → (w.alloc (.cells #[.int .i64 0] 3)).cell? (ad.add j) = some u) := fun _ =>
    ⟨_, rfl, World.news_of_block (cs := #[.int .i64 0]) (t := 3) (fr := (0, 0)) hgn⟩
  have hsz : B ≤ (w.alloc (.cells #[.int .i64 0] 3)).heap.size := by simp; omega
  have M2 : p.length + 1 ≤ maxLen := by simp only [maxLen]; omega
  have M3 : (p.length + 1) * 8 ≤ 140737488355328 := by omega
  have l4 : ∀ u ∈ ([.int .i64 0] : List Value), u.oneCell' = true := by simp [Value.oneCell']
  have j0 : w.cell? ⟨gt, 0, none⟩ = some (.slice Ap p.length cp) := by rw [block_cell h.1]; rfl
  have HH := Lib.hid h
  have HBA := Lib.hid BA
  have HGT := Lib.hid hgt
  clear h hi0 hz0 hz1 hz2 BA hgn hgt
  go_enter Try.func37, Try.ntmps37
  go_wp2_with (first | (at_builtin; refine wpList_append_held _ rfl (.tmp 6) (.tmp 7) 27 rfl B 3 i0 _ 8 Try.underlying27 HI0.out HZ.out H1.out H2.out rfl _ p.length (intCells p) rfl HOA.out (some ⟨w.heap.size, 0, none⟩) 1 1 [.int .i64 0] rfl rfl HSr.out l4 M2 M3 hsz ?_))
  intro A5 c5 w5 ho5 hg5 hat5
  have hne := HH.out.2.2.2.2.1
  have hgt := HGT.out
  have g5 : w5.heap[gt]? = some (.cells #[.slice Ap p.length cp, .slice Af ls.length cf] 56 (0, 0)) :=
    (hg5.block gt (by simp; omega) (fun e => hne e.symm)).trans ((Below.heap_alloc _ _ _ hgt).trans HH.out.1)
  have c0 : w5.cell? ⟨gt, 0, none⟩ = some (.slice Ap p.length cp) := by rw [block_cell g5]; rfl
  have f0 : w5.frozen? ⟨gt, 0, none⟩ = false := block_frozen g5 0
  have s5 := hg5.size
  have XX : TrlX B gt (w5.setCell ⟨gt, 0, none⟩ (.slice A5 (p.length + 1) c5)) (.slice A5 (p.length + 1) c5) (.slice Af ls.length cf) xs (p ++ [0]) ls := by
    refine HH.out.path (fun b hb hn => (hg5.block b (by simp; omega) (fun e => hn e.symm)).trans (Below.heap_alloc _ _ _ hb)) (by simp at s5; omega) ?_ ?_
    · have e : (p ++ [(0 : Int)]).length = p.length + 1 := by simp
      rw [e]
      have := ho5.out
      unfold intCells at this ⊢
      rw [List.map_append]
      exact this
    · rcases hat5.out with h | h
      · exact .inl h
      · exact .inr (.inr ⟨_, h, by simp⟩)
  have HXX := Lib.hid XX
  have BW := Lib.hid ((HBA.out.grown hg5 hsz (fun k hk => (HOA.out.lt k hk).1)).setCell (p := ⟨gt, 0, none⟩) hB (.slice A5 (p.length + 1) c5))
  clear ho5 hg5 hat5 XX HOA HSr hsz M2 M3 l4 j0 s5 HBA
  go_wp2_with fail
  refine bodyPost_end (results_none rfl _ _ _) rfl ?_
  exact ⟨⟨rfl, _, _, _, HXX.out⟩, BW.out⟩
set_option maxHeartbeats 2000000 in
theorem turn_any (B gt : Nat) (w : World) (p : List Int) (x y : Int) (ls : List (List Int)) (h : Trl B gt w (p ++ [x]) ls) (hp : p.length ≤ 1000000) :
    Calls Try.prog 38 #[.pointer (some ⟨gt, 0, none⟩), .int .i64 y] w fun e w' => (e = .returned (.tuple #[]) ∧ Trl B gt w' (p ++ [y]) ls) ∧ Below B w w' := by
  obtain ⟨Ap, cp, Af, cf, xs, h⟩ := trl_form h
  have el : (p ++ [x]).length = p.length + 1 := by simp
  rw [el] at h
  have ho := h.2.1
  rw [el] at ho
  obtain ⟨g, rfl, hBg, hg, _, _, _, hc⟩ := own_rows ho (Nat.succ_pos _)
  have hfz : w.frozen? ⟨g, p.length, none⟩ = false := World.ownsRow.frozenAt ho _
  have hcell : w.cell? ⟨g, p.length, none⟩ = some (.int .i64 x) := hc _ _ (by simp [intCells])
  have j0 : w.cell? ⟨gt, 0, none⟩ = some (.slice (some ⟨g, 0, none⟩) (p.length + 1) cp) := by rw [block_cell h.1]; rfl
  have HH := Lib.hid h
  obtain ⟨n, hn⟩ : ∃ n, n = p.length := ⟨_, rfl⟩
  have BW : Hid (Below B w (w.drew.setCell ⟨g, p.length, none⟩ (.int .i64 y))) := show Below _ _ _ from (Below.refl B w).drew.setCell (p := ⟨g, p.length, none⟩) hBg _
  have HXX : Hid (TrlX B gt (w.drew.setCell ⟨g, p.length, none⟩ (.int .i64 y)) (.slice (some ⟨g, 0, none⟩) (p.length + 1) cp) (.slice Af ls.length cf) xs (p ++ [y]) ls) := TrlX.last (w := w.drew) (x := x) h.drew
  rw [← hn] at hfz hcell j0 HXX BW
  have i0 : (0 : Int) ≤ (n : Int) := by omega
  have i1 : (n : Int) < ((n + 1 : Nat) : Int) := by omega
  have i2 : (n : Int) < (n : Int) + 1 := by omega
  have i3 : (n : Int) ≤ 9223372036854775807 := by omega
  have u4 : IntKind.i64.wrap (n : Int) = (n : Int) := IntWalk.i64_in _ (by omega)
  have u2 : (((n + 1 : Nat) : Int) - 1) = (n : Int) := by omega
  have u2' : ((n : Int) + 1 - 1) = (n : Int) := by omega
  have u3 : wrap64 (n : Int) = (n : Int) := by unfold wrap64; omega
  have u1 : wrap64 (((n + 1 : Nat) : Int) - 1) = (n : Int) := by rw [u2]; exact u3
  have u1' : wrap64 ((n : Int) + 1 - 1) = (n : Int) := by rw [u2']; exact u3
  clear h ho hc hg hBg el hn u2' hp
  go_enter Try.func38, Try.ntmps38
  go_wp2_with fail
  go_still_tail 12, (by kernel_rfl)
  change wpList _ _ _ _ _ w.drew
  go_wp2_with fail
  refine bodyPost_end (results_none rfl _ _ _) rfl ?_
  exact ⟨⟨rfl, _, _, _, HXX.out⟩, BW.out⟩
theorem own_shut {w : World} {B g n c : Nat} {xs : List Int} {x : Int} (h : w.ownsRow B 3 1 (.slice (some ⟨g, 0, none⟩) (n + 1) c) (n + 1) (intCells (xs ++ [x]))) (hn : xs.length = n) : w.ownsRow B 3 1 (.slice (some ⟨g, 0, none⟩) n c) n (intCells xs) := by
  refine ⟨by simp [intCells, hn], ?_⟩
  rcases h.2 with ⟨_, e⟩ | ⟨g', cap, cur, e1, hb, hg, hnc, hcm, hsz, htk⟩
  · omega
  · injection e1 with e1 e2 e3
    injection e1 with e1
    injection e1 with e1
    subst e1
    subst e3
    refine .inr ⟨g, c, cur, rfl, hb, hg, by omega, hcm, hsz, ?_⟩
    rw [Nat.mul_one] at htk ⊢
    have e4 : List.take n (List.take (n + 1) cur.toList) = List.take n (intCells (xs ++ [x])) := by rw [htk]
    rw [List.take_take, Nat.min_eq_left (Nat.le_succ n)] at e4
    rw [e4]
    unfold intCells
    rw [List.map_append, List.take_append_of_le_length (by rw [List.length_map]; omega), List.take_of_length_le (by rw [List.length_map]; omega)]
set_option maxHeartbeats 2000000 in
theorem up_any (B gt : Nat) (w : World) (p : List Int) (x : Int) (ls : List (List Int)) (h : Trl B gt w (p ++ [x]) ls) (hB : B ≤ gt) (hp : p.length ≤ 1000000) :
    Calls Try.prog 39 #[.pointer (some ⟨gt, 0, none⟩)] w fun e w' => (e = .returned (.tuple #[]) ∧ Trl B gt w' p ls) ∧ Below B w w' := by
  obtain ⟨Ap, cp, Af, cf, xs, h⟩ := trl_form h
  have el : (p ++ [x]).length = p.length + 1 := by simp
  rw [el] at h
  have ho := h.2.1
  rw [el] at ho
  obtain ⟨g, rfl, hBg, hg, hnc, hcm, _, hc⟩ := own_rows ho (Nat.succ_pos _)
  have j0 : w.cell? ⟨gt, 0, none⟩ = some (.slice (some ⟨g, 0, none⟩) (p.length + 1) cp) := by rw [block_cell h.1]; rfl
  have f0 : w.frozen? ⟨gt, 0, none⟩ = false := block_frozen h.1 0
  have hgg := h.2.2.2.2.1
  have BW : Hid (Below B w (w.drew.setCell ⟨gt, 0, none⟩ (.slice (some ⟨g, 0, none⟩) p.length cp))) := show Below _ _ _ from (Below.refl B w).drew.setCell (p := ⟨gt, 0, none⟩) hB _
  have HXX : Hid (TrlX B gt (w.drew.setCell ⟨gt, 0, none⟩ (.slice (some ⟨g, 0, none⟩) p.length cp)) (.slice (some ⟨g, 0, none⟩) p.length cp) (.slice Af ls.length cf) xs p ls) := TrlX.path (w := w.drew) (w5 := w.drew) h.drew (fun _ _ _ => rfl) (Nat.le_refl _) (own_shut (w := w.drew) ho rfl) (.inl rfl)
  obtain ⟨n, hn⟩ : ∃ n, n = p.length := ⟨_, rfl⟩
  rw [← hn] at hnc j0 HXX BW
  have i0 : (0 : Int) ≤ (n : Int) := by omega
  have i1 : (n : Int) < ((n + 1 : Nat) : Int) := by omega
  have i2 : (n : Int) < (n : Int) + 1 := by omega
  have i3 : (n : Int) ≤ 9223372036854775807 := by omega
  have i4 : (n : Int) ≤ (cp : Int) := by omega
  have i5 : n ≤ cp := by omega
  have u4 : IntKind.i64.wrap (n : Int) = (n : Int) := IntWalk.i64_in _ (by omega)
  have u2 : (((n + 1 : Nat) : Int) - 1) = (n : Int) := by omega
  have u2' : ((n : Int) + 1 - 1) = (n : Int) := by omega
  have u3 : wrap64 (n : Int) = (n : Int) := by unfold wrap64; omega
  have u1 : wrap64 (((n + 1 : Nat) : Int) - 1) = (n : Int) := by rw [u2]; exact u3
  have u1' : wrap64 ((n : Int) + 1 - 1) = (n : Int) := by rw [u2']; exact u3
  clear h ho hc hg hBg el hn u2' hp hnc hcm hgg
  go_enter Try.func39, Try.ntmps39
  go_wp2_with fail
  go_still_tail 14, (by kernel_rfl)
  change wpList _ _ _ _ _ w.drew
  go_wp2_with fail
  refine bodyPost_end (results_none rfl _ _ _) rfl ?_
  exact ⟨⟨rfl, _, _, _, HXX.out⟩, BW.out⟩
end Go.Proofs.Ytmkgcifcfgfegaa
