/-
  Rows of Kids as cells, and a list of Kids with one more: laws that the walk of SizeAdds uses; no condition beyond what each lemma asks.
-/
import Derived.Test.YtdaoekcabfapaaaRows17
import Derived.Test.YtdaoekcabfapaaaSizeMath
namespace Go.Proofs.Ytdaoekcabfapaaa
set_option maxRecDepth 100000
open Go.RowKit

theorem field_parts : ∃ i z, Try.prog.info? 37 = some i ∧ i.zero = some z ∧ i.size = 10 ∧ i.bytes = 136 ∧ z.cells.size = 10 := by
  have h := info_field
  cases hi : Try.prog.info? 37 with
  | none => rw [hi] at h; cases h
  | some i =>
    rw [hi] at h
    simp only [Option.map_some, Option.some.injEq, Prod.mk.injEq, Option.map_eq_some_iff] at h
    obtain ⟨h1, h2, z, h3, h4⟩ := h
    exact ⟨i, z, rfl, h3, h1, h2, h4⟩
theorem own_rows {w : World} {base n c sz : Nat} {e : TypeId} {A : Option Addr} {xs : List Value} (h : w.ownsRow base e sz (.slice A n c) n xs) (hn : 0 < n) :
    ∃ g, A = some ⟨g, 0, none⟩ ∧ base ≤ g ∧ g < w.heap.size ∧ n ≤ c ∧ c ≤ maxLen ∧ xs.length = n * sz ∧ ∀ i u, xs[i]? = some u → w.cell? ⟨g, i, none⟩ = some u := by
  rcases h.2 with ⟨_, e⟩ | ⟨g, cap, cur, e, hb, hg, hnc, hc, hs, ht⟩
  · omega
  · injection e with e1 e2 e3
    subst e3
    refine ⟨g, e1, hb, block_lt hg, hnc, hc, h.1, fun i u hi => ?_⟩
    rw [block_cell hg]
    rw [← ht, List.getElem?_take] at hi
    split at hi
    · simpa using hi
    · cases hi
theorem kids_iff {w : World} {M : Nat → Prop} {b : Nat} : ∀ {l : List Kid} {off : Nat}, (∀ (i : Nat) (h : i < l.length), KidAt w M b (off + i * 10) l[i]) → KidsAt w M b off l
  | [], _, _ => by rw [KidsAt]; trivial
  | x :: l, off, h => by
    rw [kids_cons]
    refine ⟨by have := h 0 (Nat.succ_pos _); simpa using this, kids_iff fun i hi => ?_⟩
    have := h (i + 1) (Nat.succ_lt_succ hi)
    rw [show off + (i + 1) * 10 = off + 10 + i * 10 by omega] at this
    exact this
theorem cellsV_one (o : OwnV) (Ab : Option Addr) (cb : Nat) (Ak : Option Addr) (nk ck : Nat) : ∀ u ∈ cellsV o Ab cb Ak nk ck, u.oneCell' = true := by
  intro u hu
  simp only [cellsV, List.mem_cons, List.not_mem_nil, or_false] at hu
  rcases hu with rfl | rfl | rfl | rfl | rfl | rfl | rfl | rfl | rfl <;> rfl
theorem tree_one {w : World} {M : Nat → Prop} {t : Tree} {cs : List Value} (h : TreeAt w M t cs) : ∀ u ∈ cs, u.oneCell' = true := by
  cases t with
  | node o l =>
    obtain ⟨Ab, cb, Ak, ck, rfl, _⟩ := h.open_
    exact cellsV_one _ _ _ _ _ _
/-- The Kids' cells, one behind the other. -/
theorem kids_flat {w : World} {M : Nat → Prop} {b : Nat} : ∀ {l : List Kid} {off : Nat}, KidsAt w M b off l → ∃ xs : List Value, xs.length = l.length * 10 ∧ (∀ j u, xs[j]? = some u → w.cell? ⟨b, off + j, none⟩ = some u) ∧ ∀ u ∈ xs, u.oneCell' = true
  | [], _, _ => ⟨[], rfl, fun j u h => by simp at h, fun u h => by cases h⟩
  | x :: l, off, h => by
    rw [kids_cons] at h
    obtain ⟨⟨h1, _, cs, h3, h4, h5⟩, h6⟩ := h
    obtain ⟨xs, e1, e2, e3⟩ := kids_flat h6
    refine ⟨.string ⟨x.1.toArray⟩ :: (cs ++ xs), by simp [h3, e1]; omega, fun j u hj => ?_, fun u hu => ?_⟩
    · cases j with
      | zero =>
        have : Value.string ⟨x.1.toArray⟩ = u := by simpa using hj
        rw [← this]; exact h1
      | succ j =>
        rw [List.getElem?_cons_succ] at hj
        rcases Nat.lt_or_ge j 9 with hlt | hge
        · rw [List.getElem?_append_left (by omega)] at hj
          rw [show off + (j + 1) = off + 1 + j by omega, h4 j hlt, hj]
        · rw [List.getElem?_append_right (by omega), h3] at hj
          have := e2 (j - 9) u hj
          rwa [show off + 10 + (j - 9) = off + (j + 1) by omega] at this
    · rcases List.mem_cons.1 hu with rfl | hu
      · rfl
      · rcases List.mem_append.1 hu with hu | hu
        · exact tree_one h5 u hu
        · exact e3 u hu
theorem block_keep {w : World} {g k : Nat} (hne : ¬ k = g) (i : Nat) (u : Value) : (w.setCell ⟨k, i, none⟩ u).heap[g]? = w.heap[g]? := by
  simp [World.setCell, Array.getElem?_modify, hne]
theorem block_oth {w : World} {g k : Nat} {o : Obj} (h : w.heap[g]? = some o) (hne : ¬ k = g) (i : Nat) (u : Value) : (w.setCell ⟨k, i, none⟩ u).heap[g]? = some o := (block_keep hne i u).trans h
theorem frozen_of_block {w w' : World} {g i : Nat} (h : w'.heap[g]? = w.heap[g]?) : w'.frozen? ⟨g, i, none⟩ = w.frozen? ⟨g, i, none⟩ := by
  unfold World.frozen?
  simp only [h]
theorem cell_oth {w : World} {g k i j : Nat} {u v : Value} (hne : ¬ g = k) (h : w.cell? ⟨k, j, none⟩ = some v) : (w.setCell ⟨g, i, none⟩ u).cell? ⟨k, j, none⟩ = some v := by
  rw [World.cell?_of_block (block_keep hne i u)]; exact h
theorem frozen_low {V w' : World} {g i : Nat} (hB : Below V.heap.size V w') (hl : g < V.heap.size) (h : V.frozen? ⟨g, i, none⟩ = false) : w'.frozen? ⟨g, i, none⟩ = false := by
  rw [frozen_of_block (hB.block g hl)]; exact h
theorem below_drew {W V : World} (h : Below W.heap.size W V) : Below W.heap.size W V.drew := h.drew
theorem below_drewz {W V : World} {z : Nat} (h : Below z W V) : Below z W V.drew := h.drew
theorem below_set {W V : World} {z : Nat} (h : Below z W V) (i : Nat) (u : Value) : Below z W (V.setCell ⟨z, i, none⟩ u) := h.setCell (p := ⟨z, i, none⟩) (Nat.le_refl _) u
theorem below_z {W V : World} {z : Nat} (hz : z < W.heap.size) (h : Below W.heap.size W V) : Below z W V := h.mono (Nat.le_of_lt hz)
theorem below_more {W V : World} (h : Below W.heap.size W V) (o : Obj) : Below W.heap.size W (V.alloc o) := h.alloc h.size o
theorem own_lit {W V : World} (e : TypeId) (sz k : Nat) (h : Below W.heap.size W V) (hk : V.heap.size = k) : (V.alloc (.cells #[] e)).ownsRow W.heap.size e sz (.slice (some ⟨k, 0, none⟩) 0 0) 0 [] := by
  subst hk
  exact World.ownsRow_made V #[] 0 h.size (Nat.zero_le _) (by simp)
theorem own_drew {V : World} {B sz n : Nat} {e : TypeId} {v : Value} {xs : List Value} (h : V.ownsRow B e sz v n xs) : V.drew.ownsRow B e sz v n xs := h
theorem heap_drew {V : World} {k : Nat} {o : Obj} (h : V.heap[k]? = some o) : V.drew.heap[k]? = some o := h
theorem heap_newk {V : World} {k : Nat} (o : Obj) (hk : V.heap.size = k) : (V.alloc o).heap[k]? = some o := hk ▸ heap_alloc_new V o
theorem heap_more {V : World} {k : Nat} {o : Obj} (o' : Obj) (h : V.heap[k]? = some o) : (V.alloc o').heap[k]? = some o := (heap_alloc_old V o' (block_lt h)).trans h
theorem heap_grown {V V' : World} {row : Option Nat} {k : Nat} {o : Obj} (hg : V.grownBy V' row) (h : V.heap[k]? = some o) (hne : row ≠ some k) : V'.heap[k]? = some o := (hg.block k (block_lt h) (Ne.symm hne)).trans h
theorem row_new {V : World} {e : TypeId} {k : Nat} {FL : Array Value} (hk : V.heap.size = k) : 0 < 1 → ∃ ad, some (⟨k, 0, none⟩ : Addr) = some ad ∧ ∀ j u, FL.toList[j]? = some u → (V.alloc (.cells FL e)).cell? (ad.add j) = some u := fun _ => ⟨_, rfl, fun j u hj => by
  subst hk
  rw [Addr.add_lit, Nat.zero_add, block_cell (heap_alloc_new V _)]
  simpa using hj⟩
theorem row_old {V : World} {e : TypeId} {k : Nat} {FL : Array Value} (h : V.heap[k]? = some (.cells FL e)) : 0 < 1 → ∃ ad, some (⟨k, 0, none⟩ : Addr) = some ad ∧ ∀ j u, FL.toList[j]? = some u → V.cell? (ad.add j) = some u := fun _ => ⟨_, rfl, fun j u hj => by
  rw [Addr.add_lit, Nat.zero_add, block_cell h]
  simpa using hj⟩
theorem sizeO_kids {o : OwnV} (ks : Nat) (hk : o.kind = 3 ∨ o.kind = 4 ∨ o.kind = 15) : ks ≤ sizeO o ks := by
  rcases hk with h | h | h <;> simp [sizeO, h] <;> omega
theorem kids_more {w w' : World} {M M' : Nat → Prop} {b off g : Nat} {l : List Kid} {nm : List UInt8} {t : Tree} {xs cs : List Value} (hK : KidsAt w M b off l) (hx : xs.length = l.length * 10)
    (hxc : ∀ j u, xs[j]? = some u → w.cell? ⟨b, off + j, none⟩ = some u) (hn : nm.length ≤ maxLen) (hc : cs.length = 9) (hT : TreeAt w' M' t cs)
    (hrow : ∀ j u, (xs ++ (.string ⟨nm.toArray⟩ :: cs))[j]? = some u → w'.cell? ⟨g, j, none⟩ = some u) (hk : ∀ k, M k → w'.heap[k]? = w.heap[k]?) (hm : ∀ k, M k → M' k) : KidsAt w' M' g 0 (l ++ [(nm, t)]) := by
  refine kids_iff fun i hi => ?_
  rcases Nat.lt_or_ge i l.length with h | h
  · have e : (l ++ [(nm, t)])[i] = l[i] := List.getElem_append_left h
    rw [e]
    obtain ⟨h1, h2, ds, h3, h4, h5⟩ := kids_get hK i h
    have eq : ∀ j, j < 10 → w'.cell? ⟨g, 0 + i * 10 + j, none⟩ = w.cell? ⟨b, off + i * 10 + j, none⟩ := fun j hj => by
      have hlt : i * 10 + j < xs.length := by omega
      have hg : xs[i * 10 + j]? = some xs[i * 10 + j] := List.getElem?_eq_getElem hlt
      have q := hxc _ _ hg
      have r := hrow (i * 10 + j) xs[i * 10 + j] (by rw [List.getElem?_append_left hlt]; exact hg)
      rw [show 0 + i * 10 + j = i * 10 + j by omega, r, show off + i * 10 + j = off + (i * 10 + j) by omega, q]
    refine ⟨?_, h2, ds, h3, fun j hj => ?_, TreeAt.weaken hm _ _ (h5.keep hk _ _)⟩
    · have := eq 0 (by omega)
      rw [Nat.add_zero, Nat.add_zero] at this
      rw [this]; exact h1
    · have := eq (1 + j) (by omega)
      rw [← Nat.add_assoc, ← Nat.add_assoc] at this
      rw [this]; exact h4 j hj
  · have hi' : i = l.length := by rw [List.length_append, List.length_singleton] at hi; omega
    subst hi'
    have e : (l ++ [(nm, t)])[l.length] = (nm, t) := by simp
    rw [e]
    have eq : ∀ j u, (Value.string ⟨nm.toArray⟩ :: cs)[j]? = some u → w'.cell? ⟨g, 0 + l.length * 10 + j, none⟩ = some u := fun j u hu => by
      have := hrow (xs.length + j) u (by rw [List.getElem?_append_right (by omega), Nat.add_sub_cancel_left]; exact hu)
      rwa [hx, show l.length * 10 + j = 0 + l.length * 10 + j by omega] at this
    refine ⟨?_, hn, cs, hc, fun j hj => ?_, hT⟩
    · exact eq 0 _ rfl
    · have hg : cs[j]? = some cs[j] := List.getElem?_eq_getElem (by omega)
      rw [hg]
      have := eq (1 + j) cs[j] (by rw [Nat.add_comm, List.getElem?_cons_succ]; exact hg)
      rwa [← Nat.add_assoc] at this
theorem kids_row {w : World} {M : Nat → Prop} {o : OwnV} {l : List Kid} {Ab Ak : Option Addr} {cb ck : Nat} (h : TreeAt w M (.node o l) (cellsV o Ab cb Ak l.length ck)) :
    ∃ (b off : Nat) (xs : List Value), (l ≠ [] → Ak = some ⟨b, off, none⟩ ∧ M b) ∧ KidsAt w M b off l ∧ xs.length = l.length * 10 ∧ (∀ j u, xs[j]? = some u → w.cell? ⟨b, off + j, none⟩ = some u) ∧ ∀ u ∈ xs, u.oneCell' = true := by
  obtain ⟨Ab', cb', Ak', ck', e, _, _, _, q⟩ := h.open_
  simp only [cellsV, List.cons.injEq, Value.slice.injEq, and_true, true_and] at e
  obtain ⟨_, rfl, _⟩ := e
  by_cases hl : l = []
  · subst hl
    exact ⟨0, 0, [], fun h => absurd rfl h, by rw [KidsAt]; trivial, rfl, fun j u h => by simp at h, fun u h => by cases h⟩
  · obtain ⟨b, off, e1, e2, e3⟩ := q hl
    obtain ⟨xs, h1, h2, h3⟩ := kids_flat e3
    exact ⟨b, off, xs, fun _ => ⟨e1, e2⟩, e3, h1, h2, h3⟩
end Go.Proofs.Ytdaoekcabfapaaa
