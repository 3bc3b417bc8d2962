/-
  Blocks of memory: what a new one holds, what a store of one cell or of many leaves; no condition beyond what each lemma asks.
-/
import Derived.Test.YtcejbkmmiklhbaaOwnRow
import Derived.Deep.MidRow
namespace Go.Proofs.Ytcejbkmmiklhbaa
open Go.RowKit

theorem ret_val {k : IntKind} {a b : Int} (h : a = b) : Value.int k a = .int k b := by rw [h]
theorem ret_bool {a b : Bool} (h : a = b) : Ending.returned (.bool a) = .returned (.bool b) := by rw [h]
theorem tuple_two {a b c d : Value} (h : a = c) (h' : b = d) : Ending.returned (.tuple #[a, b]) = .returned (.tuple #[c, d]) := by rw [h, h']
theorem drawn_below {B : Nat} {w w' : World} (h : Below B w w') (m : Nat) : Below B w (w'.drewN m) := ⟨h.os, h.tape, h.output, h.size, h.block⟩
theorem heap_drew {V : World} {k : Nat} {x : Option Obj} (h : V.heap[k]? = x) : V.drew.heap[k]? = x := h
theorem heap_drewN {V : World} {k : Nat} {x : Option Obj} (m : Nat) (h : V.heap[k]? = x) : (V.drewN m).heap[k]? = x := h
theorem alloc_here {V : World} {k : Nat} {o : Obj} (z : V.heap.size = k) : (V.alloc o).heap[k]? = some o := by subst z; exact heap_alloc_new _ _
theorem alloc_past {V : World} {k : Nat} {o x : Obj} (h : V.heap[k]? = some x) : (V.alloc o).heap[k]? = some x := (Below.heap_alloc V o k (block_lt h)).trans h
theorem cell_drew {V : World} {p : Addr} {v : Value} (h : V.cell? p = some v) : V.drew.cell? p = some v := h
theorem cell_lt {V : World} {p : Addr} {v : Value} (h : V.cell? p = some v) : p.block < V.heap.size := by
  rcases Nat.lt_or_ge p.block V.heap.size with h1 | h1
  · exact h1
  · exfalso
    unfold World.cell? at h
    rw [Array.getElem?_eq_none h1] at h
    cases h
theorem keep_b {V w' : World} {g : Nat} {x : Obj} (h : V.heap[g]? = some x) (B : Below V.heap.size V w') : w'.heap[g]? = some x := (B.block g (block_lt h)).trans h
theorem keep_at {V w' : World} {n g : Nat} {x : Obj} (h : V.heap[g]? = some x) (B : Below n V w') (hg : g < n) : w'.heap[g]? = some x := (B.block g hg).trans h

/-- Block g holds the cells L. -/
def Row (w : World) (g : Nat) (t : TypeId) (L : List Value) : Prop := w.heap[g]? = some (.cells L.toArray t (0, 0))
section
variable {w w' : World} {g n : Nat} {t : TypeId} {L : List Value}
theorem Row.lt (h : Row w g t L) : g < w.heap.size := block_lt h
theorem Row.new (w : World) (t : TypeId) (L : List Value) : Row (w.alloc (.cells L.toArray t)) w.heap.size t L := alloc_here rfl
theorem Row.new' {k : Nat} (w : World) (t : TypeId) (L : List Value) (h : w.heap.size = k) : Row (w.alloc (.cells L.toArray t)) k t L := alloc_here h
theorem Row.past (h : Row w g t L) (o : Obj) : Row (w.alloc o) g t L := alloc_past h
theorem Row.drew (h : Row w g t L) : Row w.drew g t L := h
theorem Row.drewN (h : Row w g t L) (m : Nat) : Row (w.drewN m) g t L := h
theorem Row.keep (h : Row w g t L) (B : Below w.heap.size w w') : Row w' g t L := keep_b h B
theorem Row.keep_at (h : Row w g t L) (B : Below n w w') (hg : g < n) : Row w' g t L := Go.Proofs.Ytcejbkmmiklhbaa.keep_at h B hg
theorem Row.cell (h : Row w g t L) (i : Nat) : w.cell? ⟨g, i, none⟩ = L[i]? := by
  have := block_cell h i
  simpa using this
theorem Row.frozen (h : Row w g t L) (i : Nat) : w.frozen? ⟨g, i, none⟩ = false := block_frozen h i
theorem Row.set (h : Row w g t L) (i : Nat) (v : Value) : Row (w.setCell ⟨g, i, none⟩ v) g t (L.set i v) := by
  have := block_set h i v
  unfold Row
  rw [this]
  simp
theorem Row.other (h : Row w g t L) {a : Addr} (ha : g ≠ a.block) (v : Value) : Row (w.setCell a v) g t L := (Below.heap_setCell w a v g ha).trans h
theorem Row.range (h : Row w g t L) (o n : Nat) : w.rangeAt g o ((L.drop o).take n) := fun j v hj => by
  rw [h.cell (o + j)]
  have hl : j < n := by
    have := (List.getElem?_eq_some_iff.1 hj).1
    simp at this
    omega
  simpa [List.getElem?_take, hl] using hj
theorem Row.all (h : Row w g t L) : w.rangeAt g 0 L := fun j v hj => by
  rw [Nat.zero_add, h.cell j]
  exact hj
theorem Row.there (h : Row w g t L) (o n : Nat) (hn : o + n ≤ L.length) : w.there g o n := fun j hj => by
  refine ⟨?_, h.frozen _⟩
  rw [h.cell (o + j), List.getElem?_eq_getElem (by omega)]
  rfl
/-- Cells that are put over others, from o on. -/
def putOver (L : List Value) (o : Nat) (vs : List Value) : List Value := match vs with
  | [] => L
  | v :: r => putOver (L.set o v) (o + 1) r
theorem Row.puts (h : Row w g t L) (o : Nat) (vs : List Value) : Row (w.setCells g o vs) g t (putOver L o vs) := by
  induction vs generalizing w L o with
  | nil => exact h
  | cons v r ih => exact ih (h.set o v) (o + 1)
theorem Row.puts_other (h : Row w g t L) {b : Nat} (hb : g ≠ b) (o : Nat) (vs : List Value) : Row (w.setCells b o vs) g t L := by
  induction vs generalizing w o with
  | nil => exact h
  | cons v r ih => exact ih (h.other (a := ⟨b, o, none⟩) hb v) (o + 1)
theorem below_puts {B : Nat} {a : World} (h : Below B a w) {b : Nat} (hb : B ≤ b) (o : Nat) (vs : List Value) : Below B a (w.setCells b o vs) := by
  induction vs generalizing w o with
  | nil => exact h
  | cons v r ih => exact ih (h.setCell (p := ⟨b, o, none⟩) hb v) (o + 1)
theorem size_puts (b o : Nat) (vs : List Value) : (w.setCells b o vs).heap.size = w.heap.size := by
  induction vs generalizing w o with
  | nil => rfl
  | cons v r ih => exact (ih (w := w.setCell ⟨b, o, none⟩ v) (o + 1)).trans (by simp [World.setCell])
end

/-- A result that lies in memory beside one that does not. -/
theorem results_row2 {fn : Func} {p u : Tmp} {ty : TypeId} (h : fn.results = #[.cell p ty, .tmp u]) (tmps : Array Value) {P : Program} (w : World) (g : Nat) (cs : Array Value)
    (hp : tmps.getD p undef = .pointer (some ⟨g, 0, none⟩)) (hl : (loadVar ty ⟨g, 0, none⟩).run P w = .ok (.agg cs) w) :
    (results fn tmps).run P w = .ok (.tuple #[.agg cs, tmps.getD u undef]) w := by
  rw [results_cell_tmp h, hp]
  simp [asAddr, hl]
theorem results_row1 {fn : Func} {p : Tmp} {ty : TypeId} (h : fn.results = #[.cell p ty]) (tmps : Array Value) {P : Program} (w : World) (g : Nat) (cs : Array Value)
    (hp : tmps.getD p undef = .pointer (some ⟨g, 0, none⟩)) (hl : (loadVar ty ⟨g, 0, none⟩).run P w = .ok (.agg cs) w) :
    (results fn tmps).run P w = .ok (.agg cs) w := by
  have hp' : tmps[p]?.getD undef = .pointer (some ⟨g, 0, none⟩) := by simpa [Array.getD_eq_getD_getElem?] using hp
  simp [results, h, hp', asAddr, hl]

end Go.Proofs.Ytcejbkmmiklhbaa
