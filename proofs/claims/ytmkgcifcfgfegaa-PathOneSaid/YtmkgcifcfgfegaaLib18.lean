/-
  Laws of cells, rows and trees that the walks use; no condition beyond what each lemma asks.
-/
import Derived.Test.YtmkgcifcfgfegaaValAt17
import Derived.Test.YtmkgcifcfgfegaaRows17
import Derived.Test.YtmkgcifcfgfegaaRefAll17
import Derived.Test.YtmkgcifcfgfegaaSameI17
namespace Go.Proofs.Ytmkgcifcfgfegaa
set_option maxRecDepth 100000
open Go.RowKit

theorem results_oneV {fn : Func} {p : Tmp} {ty : TypeId} (h : fn.results = #[.cell p ty]) (tmps : Array Value) {P : Program} (w : World) (g : Nat) (cs : Array Value)
    (hp : tmps.getD p undef = .pointer (some ⟨g, 0, none⟩)) (hl : (loadVar ty ⟨g, 0, none⟩).run P w = .ok (.agg cs) w) : (results fn tmps).run P w = .ok (.agg cs) w := by
  have e : (results fn tmps).run P w = ((asAddr (tmps.getD p undef)).run P w).andThen fun a w₁ => (loadVar ty a).run P w₁ := by
    simp only [results, h]
    simp [Sem.run_bind, Result.andThen]
  rw [e, hp]
  simp [asAddr, hl]
theorem load_value {w : World} {g : Nat} {a b c d e f x y z : Value} (hg : w.heap[g]? = some (.cells #[a, b, c, d, e, f, x, y, z] 26 (0, 0))) :
    (loadVar 26 ⟨g, 0, none⟩).run Try.prog w = .ok (.agg #[a, b, c, d, e, f, x, y, z]) w :=
  run_loadVar_row w g _ _ _ _ _ hg Try.underlying26 rfl (by kernel_rfl)
theorem two_new (w : World) (o1 o2 : Obj) : Below w.heap.size w ((w.alloc o1).alloc o2) := ((Below.refl _ _).alloc (Nat.le_refl _) _).alloc (by simp) _
theorem heap_two (w : World) (o1 o2 : Obj) : ((w.alloc o1).alloc o2).heap[w.heap.size + 1]? = some o2 := by
  have := heap_alloc_new (w.alloc o1) o2
  simpa using this
theorem field_parts : ∃ i z, Try.prog.info? 46 = some i ∧ i.zero = some z ∧ i.size = 10 ∧ i.bytes = 136 ∧ z.cells.size = 10 := by
  have h := info_field
  cases hi : Try.prog.info? 46 with
  | none => rw [hi] at h; cases h
  | some i =>
    rw [hi] at h
    simp only [Option.map_some, Option.some.injEq, Prod.mk.injEq, Option.map_eq_some_iff] at h
    obtain ⟨h1, h2, z, h3, h4⟩ := h
    exact ⟨i, z, rfl, h3, h1, h2, h4⟩
theorem own_rows {w : World} {base n c sz : Nat} {e : TypeId} {A : Option Addr} {xs : List Value} (h : w.ownsRow base e sz (.slice A n c) n xs) (hn : 0 < n) :
    ∃ g, A = some ⟨g, 0, none⟩ ∧ base ≤ g ∧ g < w.heap.size ∧ n ≤ c ∧ c ≤ maxLen ∧ xs.length = n * sz ∧ ∀ i u, xs[i]? = some u → w.cell? ⟨g, i, none⟩ = some u := by
  rcases h.2 with ⟨_, e⟩ | ⟨g, cap, cur, e, hb, hg, hnc, hc, hs, ht⟩
  · omega
  · injection e with e1 e2 e3
    subst e3
    refine ⟨g, e1, hb, block_lt hg, hnc, hc, h.1, fun i u hi => ?_⟩
    rw [block_cell hg]
    rw [← ht, List.getElem?_take] at hi
    split at hi
    · simpa using hi
    · cases hi
theorem owns_up {w w' : World} {base : Nat} {e : TypeId} {sz : Nat} {v : Value} {n : Nat} {xs : List Value} (h : w.ownsRow base e sz v n xs) (hB : Below w.heap.size w w') : w'.ownsRow base e sz v n xs := by
  refine ⟨h.1, ?_⟩
  rcases h.2 with h2 | ⟨g, cap, cur, e1, hb, hg, r⟩
  · exact .inl h2
  · exact .inr ⟨g, cap, cur, e1, hb, (hB.block g (block_lt hg)).trans hg, r⟩
theorem sameT_self (t : Tree) : sameT t t = true := (sameT_iff t t).2 rfl
theorem sameT_comm (t u : Tree) : sameT u t = sameT t u := by
  cases h : sameT t u with
  | true => rw [(sameT_iff t u).1 h]; exact sameT_self u
  | false =>
    cases g : sameT u t with
    | false => rfl
    | true => rw [(sameT_iff u t).1 g, sameT_self] at h; cases h
theorem nine {cs : List Value} (h : cs.length = 9) : ∃ c0 c1 c2 c3 c4 c5 c6 c7 c8, cs = [c0, c1, c2, c3, c4, c5, c6, c7, c8] := by
  match cs, h with
  | [c0, c1, c2, c3, c4, c5, c6, c7, c8], _ => exact ⟨c0, c1, c2, c3, c4, c5, c6, c7, c8, rfl⟩
theorem TreeAt.up {w w' : World} {t : Tree} {cs : List Value} (h : TreeAt w (· < w.heap.size) t cs) (hb : Below w.heap.size w w') : TreeAt w' (· < w'.heap.size) t cs :=
  TreeAt.weaken (fun _ hk => Nat.lt_of_lt_of_le hk hb.size) _ _ (h.on hb)
theorem own_mono {w : World} {base base' : Nat} {e : TypeId} {size : Nat} {v : Value} {n : Nat} {xs : List Value} (h : w.ownsRow base e size v n xs) (hb : base' ≤ base) : w.ownsRow base' e size v n xs :=
  ⟨h.1, h.2.imp id fun ⟨g, cap, cur, e, hg, r⟩ => ⟨g, cap, cur, e, Nat.le_trans hb hg, r⟩⟩
theorem own_none (w : World) (base : Nat) : w.ownsRow base 3 1 (.slice none ([] : List Int).length 0) ([] : List Int).length (intCells []) := World.ownsRow_nil w base _ 1
theorem below_put {w0 w : World} {B g n : Nat} (h : Below B w0 w) (hg : B ≤ g) (off : Nat) (d : Array Int) : Below B w0 (Sort.putRow (Value.int .i64) (Sort.ahead w n) g off d) :=
  ⟨h.os, h.tape, h.output, by rw [Sort.size_putRow]; exact h.size, fun k hk => by
    have : ¬ g = k := by omega
    have e : (Sort.putRow (Value.int .i64) (Sort.ahead w n) g off d).heap[k]? = w.heap[k]? := by
      simp [Sort.putRow, Sort.mapBlock, Array.getElem?_modify, this]
    rw [e]
    exact h.block k hk⟩
theorem own_holds {w : World} {base n c : Nat} {e : TypeId} {A : Option Addr} {xs : List Int} (h : w.ownsRow base e 1 (.slice A n c) n (intCells xs)) (hn : 0 < n) :
    ∃ g, A = some ⟨g, 0, none⟩ ∧ base ≤ g ∧ g < w.heap.size ∧ xs.length = n ∧ Sort.Holds (Value.int .i64) w g 0 xs.toArray := by
  obtain ⟨g, rfl, hb, hlt, hc⟩ := own_cell h hn
  have hl : xs.length = n := by have := h.1; simp [intCells] at this; omega
  refine ⟨g, rfl, hb, hlt, hl, fun j hj => ?_⟩
  have hj : j < xs.length := by simpa using hj
  rw [Nat.zero_add]
  refine ⟨?_, World.ownsRow.frozenAt h j⟩
  rw [hc j (by omega)]
  simp [intCells, hj]
theorem below_cells {B : Nat} {w0 : World} {g : Nat} (hg : B ≤ g) : ∀ (vs : List Value) (o : Nat) (w : World), Below B w0 w → Below B w0 (w.setCells g o vs)
  | [], _, _, h => h
  | v :: r, o, _, h => below_cells hg r (o + 1) _ (h.setCell (p := ⟨g, o, none⟩) hg v)
end Go.Proofs.Ytmkgcifcfgfegaa
