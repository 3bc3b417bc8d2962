/-
  A slice of integers that came in, as a walk is told of it; no condition beyond what each lemma asks.
  Rows that a call itself made and appended to, read as bytes and as numbers; no condition beyond what each lemma asks.
  Blocks of memory: what a new one holds, what a store of one cell or of many leaves; no condition beyond what each lemma asks.
-/
import Derived.Test.YtojpfmlmalmlcaaGreatDoorBase
import Derived.Deep.MidRow
namespace Go.Proofs.YtojpfmlmalmlcaaGreatDoor
open Go.RowKit
/-- What a walk is told of a slice of integers that came in: nil, or a row of 'cap' cells, the numbers 'zs', of which the first 'len' are its elements. -/
def IsRow (k : IntKind) (w : World) (a : Option Addr) (len cap : Nat) (zs : List Int) : Prop :=
  (a = none ∧ len = 0 ∧ cap = 0 ∧ zs = []) ∨
  ∃ x, a = some x ∧ len ≤ cap ∧ cap ≤ maxLen ∧ zs.length = cap ∧ (∀ i, i < zs.length → w.cell? (x.add i) = some (.int k (zs.getD i 0))) ∧ ∀ n ∈ zs, (Lit.int k n).wf = true
/-- Of bytes that came in. -/
theorem IsRow.held {w : World} {a : Option Addr} {len cap : Nat} {zs : List Int} (h : IsRow .u8 w a len cap zs) : ∃ bs, Held w (· < w.heap.size) a len bs ∧ len ≤ cap := by
  rcases h with ⟨rfl, rfl, rfl, rfl⟩ | ⟨x, rfl, hl, hm, hz, hc, hw⟩
  · exact ⟨[], Held.nothing rfl, Nat.le_refl _⟩
  · refine ⟨(zs.take len).map fun n => UInt8.ofNat n.toNat, ⟨by simp; omega, fun hn => ?_⟩, hl⟩
    obtain ⟨b, o, sp⟩ := x
    have hsp : sp = none := by
      have := World.cell?_spot (hc 0 (by omega))
      simpa [Addr.add] using this
    subst hsp
    refine ⟨b, o, rfl, World.block_lt_of_cell? w ⟨b, o, none⟩ (by simpa [Addr.add] using hc 0 (by omega)), fun i hi => ?_⟩
    have h1 := hc i (by omega)
    rw [Addr.add_lit] at h1
    rw [h1]
    have h2 := hw (zs.getD i 0) (by simp [List.getD, show i < zs.length by omega])
    have h3 : 0 ≤ zs.getD i 0 ∧ zs.getD i 0 ≤ 255 := Go.bounds_u8 h2
    have h4 : ((zs.take len).map fun n => UInt8.ofNat n.toNat).getD i 0 = UInt8.ofNat (zs.getD i 0).toNat := by
      simp [List.getD, hi, show i < zs.length by omega]
    rw [h4]
    generalize zs.getD i 0 = z at h3 ⊢
    simp
    omega
/-- A slice of int that begins at A and is n long reads as the numbers xs. -/
def Ints (w : World) (M : Nat → Prop) (A : Option Addr) (n : Nat) (xs : List Int) : Prop :=
  xs.length = n ∧ (0 < n → ∃ b o, A = some ⟨b, o, none⟩ ∧ M b ∧ ∀ i, i < n → w.cell? ⟨b, o + i, none⟩ = some (.int .i64 (xs.getD i 0)))
theorem Ints.keep {w w' : World} {M : Nat → Prop} {A : Option Addr} {n : Nat} {xs : List Int} (h : Ints w M A n xs) (hk : ∀ k, M k → w'.heap[k]? = w.heap[k]?) : Ints w' M A n xs :=
  ⟨h.1, fun hn => by
    obtain ⟨b, o, e, hm, hc⟩ := h.2 hn
    exact ⟨b, o, e, hm, fun i hi => (World.cell?_of_block (hk b hm)).trans (hc i hi)⟩⟩
theorem IsRow.ints {w : World} {a : Option Addr} {len cap : Nat} {zs : List Int} (h : IsRow .i64 w a len cap zs) : ∃ xs, Ints w (· < w.heap.size) a len xs := by
  rcases h with ⟨rfl, rfl, rfl, rfl⟩ | ⟨x, rfl, hl, hm, hz, hc, hw⟩
  · exact ⟨[], rfl, fun h => absurd h (by omega)⟩
  · refine ⟨zs.take len, by simp; omega, fun hn => ?_⟩
    obtain ⟨b, o, sp⟩ := x
    have hsp : sp = none := by
      have := World.cell?_spot (hc 0 (by omega))
      simpa [Addr.add] using this
    subst hsp
    refine ⟨b, o, rfl, World.block_lt_of_cell? w ⟨b, o, none⟩ (by simpa [Addr.add] using hc 0 (by omega)), fun i hi => ?_⟩
    have h1 := hc i (by omega)
    rw [Addr.add_lit] at h1
    rw [h1]
    simp [List.getD, hi, show i < zs.length by omega]
end Go.Proofs.YtojpfmlmalmlcaaGreatDoor

namespace Go.Proofs.YtojpfmlmalmlcaaGreatDoor
open Go.RowKit
theorem own_cell {w : World} {base n c : Nat} {e : TypeId} {A : Option Addr} {zs : List Value} (h : w.ownsRow base e 1 (.slice A n c) n zs) (hn : 0 < n) :
    ∃ g, A = some ⟨g, 0, none⟩ ∧ base ≤ g ∧ g < w.heap.size ∧ ∀ i, i < n → w.cell? ⟨g, i, none⟩ = zs[i]? := by
  rcases h.2 with ⟨_, e⟩ | ⟨g, cap, cur, e, hb, hg, hnc, _, hs, ht⟩
  · omega
  · injection e with e1 e2 e3
    refine ⟨g, e1, hb, block_lt hg, fun i hi => ?_⟩
    rw [block_cell hg, ← ht]
    have hi' : i < cur.size := by omega
    simp [hi, hi']
theorem own_bytes {w : World} {base n c : Nat} {e : TypeId} {A : Option Addr} {bs : List UInt8} (h : w.ownsRow base e 1 (.slice A n c) n (cellsOf bs)) : Held w (· < w.heap.size) A n bs := by
  have hl : bs.length = n := by have := h.1; rw [cellsOf_length] at this; omega
  refine ⟨hl, fun hn => ?_⟩
  obtain ⟨g, e, _, hlt, hc⟩ := own_cell h hn
  refine ⟨g, 0, e, hlt, fun i hi => ?_⟩
  rw [Nat.zero_add, hc i hi, cellsOf_get bs i (by omega)]
/-- Numbers of int. -/
def intCells (xs : List Int) : List Value := xs.map fun x => Value.int .i64 x
theorem intCells_one (xs : List Int) : ∀ u ∈ intCells xs, u.oneCell' = true := by
  intro u hu
  obtain ⟨b, _, rfl⟩ := List.mem_map.1 hu
  rfl
theorem own_ints {w : World} {base n c : Nat} {e : TypeId} {A : Option Addr} {xs : List Int} (h : w.ownsRow base e 1 (.slice A n c) n (intCells xs)) : Ints w (· < w.heap.size) A n xs := by
  have hl : xs.length = n := by have := h.1; simp [intCells] at this; omega
  refine ⟨hl, fun hn => ?_⟩
  obtain ⟨g, e, _, hlt, hc⟩ := own_cell h hn
  refine ⟨g, 0, e, hlt, fun i hi => ?_⟩
  rw [Nat.zero_add, hc i hi]
  have : i < xs.length := by omega
  simp [intCells, List.getD, this]
end Go.Proofs.YtojpfmlmalmlcaaGreatDoor

namespace Go.Proofs.YtojpfmlmalmlcaaGreatDoor
open Go.RowKit
theorem ret_val {k : IntKind} {a b : Int} (h : a = b) : Value.int k a = .int k b := by rw [h]
theorem ret_bool {a b : Bool} (h : a = b) : Ending.returned (.bool a) = .returned (.bool b) := by rw [h]
theorem tuple_two {a b c d : Value} (h : a = c) (h' : b = d) : Ending.returned (.tuple #[a, b]) = .returned (.tuple #[c, d]) := by rw [h, h']
theorem drawn_below {B : Nat} {w w' : World} (h : Below B w w') (m : Nat) : Below B w (w'.drewN m) := ⟨h.os, h.tape, h.output, h.size, h.block⟩
theorem heap_drew {V : World} {k : Nat} {x : Option Obj} (h : V.heap[k]? = x) : V.drew.heap[k]? = x := h
theorem heap_drewN {V : World} {k : Nat} {x : Option Obj} (m : Nat) (h : V.heap[k]? = x) : (V.drewN m).heap[k]? = x := h
theorem alloc_here {V : World} {k : Nat} {o : Obj} (z : V.heap.size = k) : (V.alloc o).heap[k]? = some o := by subst z; exact heap_alloc_new _ _
theorem alloc_past {V : World} {k : Nat} {o x : Obj} (h : V.heap[k]? = some x) : (V.alloc o).heap[k]? = some x := (Below.heap_alloc V o k (block_lt h)).trans h
theorem cell_drew {V : World} {p : Addr} {v : Value} (h : V.cell? p = some v) : V.drew.cell? p = some v := h
theorem cell_lt {V : World} {p : Addr} {v : Value} (h : V.cell? p = some v) : p.block < V.heap.size := by
  rcases Nat.lt_or_ge p.block V.heap.size with h1 | h1
  · exact h1
  · exfalso
    unfold World.cell? at h
    rw [Array.getElem?_eq_none h1] at h
    cases h
theorem keep_b {V w' : World} {g : Nat} {x : Obj} (h : V.heap[g]? = some x) (B : Below V.heap.size V w') : w'.heap[g]? = some x := (B.block g (block_lt h)).trans h
theorem keep_at {V w' : World} {n g : Nat} {x : Obj} (h : V.heap[g]? = some x) (B : Below n V w') (hg : g < n) : w'.heap[g]? = some x := (B.block g hg).trans h
/-- Block g holds the cells L. -/
def Row (w : World) (g : Nat) (t : TypeId) (L : List Value) : Prop := w.heap[g]? = some (.cells L.toArray t (0, 0))
section
variable {w w' : World} {g n : Nat} {t : TypeId} {L : List Value}
theorem Row.lt (h : Row w g t L) : g < w.heap.size := block_lt h
theorem Row.new (w : World) (t : TypeId) (L : List Value) : Row (w.alloc (.cells L.toArray t)) w.heap.size t L := alloc_here rfl
theorem Row.new' {k : Nat} (w : World) (t : TypeId) (L : List Value) (h : w.heap.size = k) : Row (w.alloc (.cells L.toArray t)) k t L := alloc_here h
theorem Row.past (h : Row w g t L) (o : Obj) : Row (w.alloc o) g t L := alloc_past h
theorem Row.drew (h : Row w g t L) : Row w.drew g t L := h
theorem Row.drewN (h : Row w g t L) (m : Nat) : Row (w.drewN m) g t L := h
theorem Row.keep (h : Row w g t L) (B : Below w.heap.size w w') : Row w' g t L := keep_b h B
theorem Row.keep_at (h : Row w g t L) (B : Below n w w') (hg : g < n) : Row w' g t L := Go.Proofs.YtojpfmlmalmlcaaGreatDoor.keep_at h B hg
theorem Row.cell (h : Row w g t L) (i : Nat) : w.cell? ⟨g, i, none⟩ = L[i]? := by
  have := block_cell h i
  simpa using this
theorem Row.frozen (h : Row w g t L) (i : Nat) : w.frozen? ⟨g, i, none⟩ = false := block_frozen h i
theorem Row.set (h : Row w g t L) (i : Nat) (v : Value) : Row (w.setCell ⟨g, i, none⟩ v) g t (L.set i v) := by
  have := block_set h i v
  unfold Row
  rw [this]
  simp
theorem Row.other (h : Row w g t L) {a : Addr} (ha : g ≠ a.block) (v : Value) : Row (w.setCell a v) g t L := (Below.heap_setCell w a v g ha).trans h
theorem Row.range (h : Row w g t L) (o n : Nat) : w.rangeAt g o ((L.drop o).take n) := fun j v hj => by
  rw [h.cell (o + j)]
  have hl : j < n := by
    have := (List.getElem?_eq_some_iff.1 hj).1
    simp at this
    omega
  simpa [List.getElem?_take, hl] using hj
theorem Row.all (h : Row w g t L) : w.rangeAt g 0 L := fun j v hj => by
  rw [Nat.zero_add, h.cell j]
  exact hj
theorem Row.there (h : Row w g t L) (o n : Nat) (hn : o + n ≤ L.length) : w.there g o n := fun j hj => by
  refine ⟨?_, h.frozen _⟩
  rw [h.cell (o + j), List.getElem?_eq_getElem (by omega)]
  rfl
/-- Cells that are put over others, from o on. -/
def putOver (L : List Value) (o : Nat) (vs : List Value) : List Value := match vs with
  | [] => L
  | v :: r => putOver (L.set o v) (o + 1) r
theorem Row.puts (h : Row w g t L) (o : Nat) (vs : List Value) : Row (w.setCells g o vs) g t (putOver L o vs) := by
  induction vs generalizing w L o with
  | nil => exact h
  | cons v r ih => exact ih (h.set o v) (o + 1)
theorem Row.puts_other (h : Row w g t L) {b : Nat} (hb : g ≠ b) (o : Nat) (vs : List Value) : Row (w.setCells b o vs) g t L := by
  induction vs generalizing w o with
  | nil => exact h
  | cons v r ih => exact ih (h.other (a := ⟨b, o, none⟩) hb v) (o + 1)
theorem below_puts {B : Nat} {a : World} (h : Below B a w) {b : Nat} (hb : B ≤ b) (o : Nat) (vs : List Value) : Below B a (w.setCells b o vs) := by
  induction vs generalizing w o with
  | nil => exact h
  | cons v r ih => exact ih (h.setCell (p := ⟨b, o, none⟩) hb v) (o + 1)
theorem size_puts (b o : Nat) (vs : List Value) : (w.setCells b o vs).heap.size = w.heap.size := by
  induction vs generalizing w o with
  | nil => rfl
  | cons v r ih => exact (ih (w := w.setCell ⟨b, o, none⟩ v) (o + 1)).trans (by simp [World.setCell])
end
/-- A result that lies in memory beside one that does not. -/
theorem results_row2 {fn : Func} {p u : Tmp} {ty : TypeId} (h : fn.results = #[.cell p ty, .tmp u]) (tmps : Array Value) {P : Program} (w : World) (g : Nat) (cs : Array Value)
    (hp : tmps.getD p undef = .pointer (some ⟨g, 0, none⟩)) (hl : (loadVar ty ⟨g, 0, none⟩).run P w = .ok (.agg cs) w) :
    (results fn tmps).run P w = .ok (.tuple #[.agg cs, tmps.getD u undef]) w := by
  rw [results_cell_tmp h, hp]
  simp [asAddr, hl]
theorem results_row1 {fn : Func} {p : Tmp} {ty : TypeId} (h : fn.results = #[.cell p ty]) (tmps : Array Value) {P : Program} (w : World) (g : Nat) (cs : Array Value)
    (hp : tmps.getD p undef = .pointer (some ⟨g, 0, none⟩)) (hl : (loadVar ty ⟨g, 0, none⟩).run P w = .ok (.agg cs) w) :
    (results fn tmps).run P w = .ok (.agg cs) w := by
  have hp' : tmps[p]?.getD undef = .pointer (some ⟨g, 0, none⟩) := by simpa [Array.getD_eq_getD_getElem?] using hp
  simp [results, h, hp', asAddr, hl]
end Go.Proofs.YtojpfmlmalmlcaaGreatDoor
