/-
  Rows of Fields that have nothing but a Name, as a law builds them; numbers in order, one left out, two turned: pure, and what a row says of its Kids; no condition beyond what each lemma asks.
-/
import Derived.Test.YtfpocpmcoobjkaaDoorAwake17
import Derived.Test.YtfpocpmcoobjkaaDoorRows17
import Derived.Test.YtfpocpmcoobjkaaDoorCodeR17
import Derived.Deep.MidRow
namespace Go.Proofs.YtfpocpmcoobjkaaDoor
set_option maxRecDepth 100000
open Go.RowKit
open Go.Lib (decDigits)

/-- A Field that has nothing but a Name, as cells. -/
def fCells (n : List UInt8) : List Value := [.string ⟨n.toArray⟩, .int .i64 0, .int .u64 0, .int .u64 0, .int .u64 0, .string ⟨#[]⟩, .string ⟨#[]⟩, .int .i64 0, .slice none 0 0, .slice none 0 0]
def rowF (ns : List (List UInt8)) : List Value := ns.flatMap fCells
def kidsN (ns : List (List UInt8)) : List Kid := ns.map fun n => (n, .node (zeroO 0) [])
theorem rowF_len (ns : List (List UInt8)) : (rowF ns).length = ns.length * 10 := by
  induction ns with
  | nil => rfl
  | cons n ns ih =>
    have : rowF (n :: ns) = fCells n ++ rowF ns := rfl
    rw [this, List.length_append, ih, List.length_cons]
    show 10 + _ = _
    omega
theorem rowF_one (ns : List (List UInt8)) : ∀ u ∈ rowF ns, u.oneCell' = true := by
  intro u hu
  obtain ⟨n, _, h⟩ := List.mem_flatMap.1 hu
  simp only [fCells, List.mem_cons, List.not_mem_nil, or_false] at h
  rcases h with rfl | rfl | rfl | rfl | rfl | rfl | rfl | rfl | rfl | rfl <;> rfl
theorem rowF_append (a b : List (List UInt8)) : rowF (a ++ b) = rowF a ++ rowF b := List.flatMap_append
theorem kidsN_len (ns : List (List UInt8)) : (kidsN ns).length = ns.length := List.length_map _
theorem kids_row {w : World} {M : Nat → Prop} {b : Nat} : ∀ (ns : List (List UInt8)) (off : Nat), (∀ j u, (rowF ns)[j]? = some u → w.cell? ⟨b, off + j, none⟩ = some u) → (∀ n ∈ ns, n.length ≤ maxLen) → KidsAt w M b off (kidsN ns)
  | [], _, _, _ => by show KidsAt w M b _ []; rw [KidsAt]; trivial
  | n :: ns, off, h, hl => by
    have e : rowF (n :: ns) = fCells n ++ rowF ns := rfl
    rw [e] at h
    have h1 : ∀ j u, (fCells n)[j]? = some u → w.cell? ⟨b, off + j, none⟩ = some u := fun j u hj => h j u (by
      rw [List.getElem?_append_left (List.getElem?_eq_some_iff.1 hj).1]; exact hj)
    have h2 : ∀ j u, (rowF ns)[j]? = some u → w.cell? ⟨b, off + 10 + j, none⟩ = some u := fun j u hj => by
      have := h (10 + j) u (by
        rw [List.getElem?_append_right (show 10 ≤ 10 + j by omega)]
        show (rowF ns)[10 + j - 10]? = _
        rw [show 10 + j - 10 = j by omega]; exact hj)
      rwa [show off + (10 + j) = off + 10 + j by omega] at this
    show KidsAt w M b off ((n, _) :: kidsN ns)
    rw [kids_cons]
    refine ⟨⟨h1 0 _ rfl, hl n (.head _), cellsV (zeroO 0) none 0 none 0 0, rfl, fun j hj => ?_, tree_zero 0 (by decide) (by decide) w M⟩, kids_row ns (off + 10) h2 fun x hx => hl x (.tail _ hx)⟩
    rcases (by omega : j = 0 ∨ j = 1 ∨ j = 2 ∨ j = 3 ∨ j = 4 ∨ j = 5 ∨ j = 6 ∨ j = 7 ∨ j = 8) with rfl | rfl | rfl | rfl | rfl | rfl | rfl | rfl | rfl
    · exact h1 1 _ rfl
    · exact h1 2 _ rfl
    · exact h1 3 _ rfl
    · exact h1 4 _ rfl
    · exact h1 5 _ rfl
    · exact h1 6 _ rfl
    · exact h1 7 _ rfl
    · exact h1 8 _ rfl
    · exact h1 9 _ rfl
/-- The numbers from 0 on, as digits. -/
def digs (n : Nat) : List (List UInt8) := (List.range n).map decDigits
theorem digs_len (n : Nat) : (digs n).length = n := by simp [digs]
theorem digs_succ (n : Nat) : digs (n + 1) = digs n ++ [decDigits n] := by simp [digs, List.range_succ]
theorem digs_take {n k : Nat} (h : k ≤ n) : (digs n).take k = digs k := by
  unfold digs
  rw [← List.map_take, List.take_range, Nat.min_eq_left h]
theorem digs_get {n k : Nat} (h : k < n) : (digs n)[k]? = some (decDigits k) := by simp [digs, h]
theorem digs_short {n : Nat} (hn : n ≤ 200) : ∀ x ∈ digs n, x.length ≤ maxLen := by
  intro x hx
  obtain ⟨k, hk, rfl⟩ := List.mem_map.1 hx
  have hk := List.mem_range.1 hk
  have := dec_length (u := k) (by omega)
  simp only [maxLen]
  omega
theorem reg_at : ∀ (ns : List (List UInt8)) (i : Nat), regF i (kidsN ns) = true ↔ ∀ j, j < ns.length → ns[j]? = some (decDigits (i + j))
  | [], i => by
    show regF i [] = true ↔ _
    rw [regF]
    exact ⟨fun _ j hj => absurd hj (Nat.not_lt_zero _), fun _ => rfl⟩
  | n :: ns, i => by
    show regF i ((n, _) :: kidsN ns) = true ↔ _
    rw [regF, Bool.and_eq_true, reg_at ns (i + 1), beq_iff_eq]
    constructor
    · rintro ⟨h1, h2⟩ j hj
      cases j with
      | zero => simpa using h1
      | succ j =>
        have := h2 j (by simpa using hj)
        rw [show i + (j + 1) = i + 1 + j by omega]
        simpa using this
    · intro h
      refine ⟨by simpa using h 0 (by simp), fun j hj => ?_⟩
      have := h (j + 1) (by simpa using hj)
      rw [show i + (j + 1) = i + 1 + j by omega] at this
      simpa using this
theorem reg_digs (n : Nat) : regF 0 (kidsN (digs n)) = true := by
  rw [reg_at]
  intro j hj
  rw [digs_len] at hj
  rw [digs_get hj, Nat.zero_add]
/-- One left out ahead of the last. -/
def lessN (n at_ : Nat) : List (List UInt8) := (digs n).take at_ ++ (digs n).drop (at_ + 1)
theorem reg_less {n k : Nat} (h : k + 1 < n) : regF 0 (kidsN (lessN n k)) = false := by
  cases hr : regF 0 (kidsN (lessN n k)) with
  | false => rfl
  | true =>
    rw [reg_at] at hr
    have h1 := hr k (by simp [lessN, digs_len]; omega)
    unfold lessN at h1
    rw [List.getElem?_append_right (by rw [List.length_take]; exact Nat.min_le_left _ _), List.length_take, digs_len, Nat.min_eq_left (by omega), Nat.sub_self, List.getElem?_drop, digs_get (by omega), Nat.zero_add] at h1
    have := dec_inj (Option.some.inj h1)
    omega
/-- Two turned. -/
def turnN (n k : Nat) : List (List UInt8) := ((digs n).set k (decDigits (k + 1))).set (k + 1) (decDigits k)
theorem turnN_len (n k : Nat) : (turnN n k).length = n := by simp [turnN, digs_len]
theorem reg_turn {n k : Nat} (h : k + 1 < n) : regF 0 (kidsN (turnN n k)) = false := by
  cases hr : regF 0 (kidsN (turnN n k)) with
  | false => rfl
  | true =>
    rw [reg_at] at hr
    have h1 := hr k (by rw [turnN_len]; omega)
    unfold turnN at h1
    rw [List.getElem?_set_ne (by omega), List.getElem?_set_self (by rw [digs_len]; omega), Nat.zero_add] at h1
    have := dec_inj (Option.some.inj h1)
    omega
/-- A store of several cells, as one step of a region that draws its order. -/
theorem step_store_mid {P : Program} {ops : Array Oper} {o : Oper} {a : Act} {w : World} {K : Act → World → Prop} {Q : Exit → Act → World → Prop} {E : Prop} (hg : o.guard = none) (ty : TypeId) (x y : Operand) (ho : o.op = .store ty x y)
    (b off : Nat) (cells : Array Value) (hx : a.eval x = .pointer (some ⟨b, off, none⟩)) (hy : a.eval y = .agg cells) (ht : w.there b off cells.size) (hi : (P.info? ty).map (·.size) = some cells.size) (h1 : cells.all (·.oneCell') = true)
    (h : K (a.put o.dst undef) (w.setCells b off cells.toList)) : if Region.wanted o (yielded ops a.tmps) = true then Oper.wp P o a w K Q else E := by
  have hw : Region.wanted o (yielded ops a.tmps) = true := by simp [Region.wanted, hg]
  rw [if_pos hw]
  exact wp_store_mid ty x y ho b off cells hx hy ht hi h1 h
theorem rowF_get : ∀ (ns : List (List UInt8)) (q r : Nat), r < 10 → (rowF ns)[q * 10 + r]? = ns[q]?.bind fun n => (fCells n)[r]?
  | [], q, r, _ => by simp [rowF]
  | n :: ns, 0, r, h => by
    have e : rowF (n :: ns) = fCells n ++ rowF ns := rfl
    rw [e, Nat.zero_mul, Nat.zero_add, List.getElem?_append_left (show r < 10 from h)]
    rfl
  | n :: ns, q + 1, r, h => by
    have e : rowF (n :: ns) = fCells n ++ rowF ns := rfl
    rw [e, List.getElem?_append_right (show 10 ≤ (q + 1) * 10 + r by omega)]
    show (rowF ns)[(q + 1) * 10 + r - 10]? = _
    rw [show (q + 1) * 10 + r - 10 = q * 10 + r by omega, rowF_get ns q r h]
    rfl
/-- Regular of such a row. -/
theorem reg_call {A : Option Addr} {n c : Nat} {ns : List (List UInt8)} {V : World} (hP : Tens V) (hn : ns.length = n) (h4 : n ≤ 1000) (hs : ∀ x ∈ ns, x.length ≤ maxLen)
    (hc : 0 < n → ∃ b off, A = some ⟨b, off, none⟩ ∧ b < V.heap.size ∧ ∀ j u, (rowF ns)[j]? = some u → V.cell? ⟨b, off + j, none⟩ = some u) :
    Calls Tryd.prog 20 #[.slice A n c] V fun e w' => e = .returned (.bool (regF 0 (kidsN ns))) ∧ Below V.heap.size V w' := by
  have := regular_any A (kidsN ns) c V hP (by rw [kidsN_len]; simp only [maxLen]; omega) (fun hne => by
    have h0 : 0 < n := by
      rcases Nat.eq_zero_or_pos n with h | h
      · have : ns = [] := List.length_eq_zero_iff.1 (by omega)
        rw [this] at hne
        exact absurd rfl hne
      · exact h
    obtain ⟨b, off, e, hb, hcell⟩ := hc h0
    exact ⟨b, off, e, hb, kids_row ns off hcell hs⟩)
  rwa [kidsN_len, hn] at this
theorem less_short {n k : Nat} (hn : n ≤ 200) : ∀ x ∈ lessN n k, x.length ≤ maxLen := fun x hx => by
  rcases List.mem_append.1 hx with h | h
  · exact digs_short hn x (List.mem_of_mem_take h)
  · exact digs_short hn x (List.mem_of_mem_drop h)
theorem one_short {k : Nat} (hk : k ≤ 1000) : (decDigits k).length ≤ maxLen := by
  have := dec_length (u := k) (by omega)
  simp only [maxLen]
  omega
theorem turn_short {n k : Nat} (hn : n ≤ 200) (hk : k + 1 < n) : ∀ x ∈ turnN n k, x.length ≤ maxLen := fun x hx => by
  unfold turnN at hx
  rcases List.mem_or_eq_of_mem_set hx with h | rfl
  · rcases List.mem_or_eq_of_mem_set h with h | rfl
    · exact digs_short hn x h
    · exact one_short (by omega)
  · exact one_short (by omega)
theorem less_len {n k : Nat} (h : k + 1 < n) : (lessN n k).length = k + (n - (k + 1)) := by
  simp [lessN, digs_len]; omega
/-- Two elements of a row stored anew. -/
theorem turned_cells {w : World} {g n k : Nat} (hk : k + 1 < n) (hc : ∀ j u, (rowF (digs n))[j]? = some u → w.cell? ⟨g, j, none⟩ = some u) :
    ∀ j u, (rowF (turnN n k))[j]? = some u → ((w.setCells g (k * 10) (fCells (decDigits (k + 1)))).setCells g ((k + 1) * 10) (fCells (decDigits k))).cell? ⟨g, j, none⟩ = some u := by
  intro j u hj
  obtain ⟨q, r, hr, rfl⟩ : ∃ q r, r < 10 ∧ j = q * 10 + r := ⟨j / 10, j % 10, Nat.mod_lt _ (by decide), by omega⟩
  have hl : (fCells (decDigits (k + 1))).length = 10 := rfl
  have hl2 : (fCells (decDigits k)).length = 10 := rfl
  have some_at : ∀ q r, q < n → r < 10 → (w.cell? ⟨g, q * 10 + r, none⟩).isSome = true := fun q r hq hr => by
    have h2 : ((rowF (digs n))[q * 10 + r]?).isSome := by
      rw [List.getElem?_eq_getElem (by rw [rowF_len, digs_len]; omega)]; rfl
    obtain ⟨v, hv⟩ := Option.isSome_iff_exists.1 h2
    rw [hc _ v hv]; rfl
  rw [rowF_get _ _ _ hr] at hj
  by_cases h1 : q = k + 1
  · subst h1
    have e : (turnN n k)[k + 1]? = some (decDigits k) := by
      unfold turnN
      rw [List.getElem?_set_self (by simp [digs_len]; omega)]
    rw [e] at hj
    have hj : (fCells (decDigits k))[r]? = some u := hj
    rw [World.cell?_setCells_in g _ ((k + 1) * 10) _ (fun i hi => World.isSome_setCells _ _ _ _ _ (some_at (k + 1) i (by omega) (by omega))) r (by omega), ← hj]
    exact (List.getElem?_eq_getElem _).symm
  · rw [World.cell?_setCells_out g _ _ _ _ (fun _ _ => by show q * 10 + r < _ ∨ _ ≤ q * 10 + r; rw [hl2]; omega)]
    by_cases h2 : q = k
    · subst h2
      have e : (turnN n q)[q]? = some (decDigits (q + 1)) := by
        unfold turnN
        rw [List.getElem?_set_ne (by omega), List.getElem?_set_self (by rw [digs_len]; omega)]
      rw [e] at hj
      have hj : (fCells (decDigits (q + 1)))[r]? = some u := hj
      rw [World.cell?_setCells_in g _ (q * 10) _ (fun i hi => some_at q i (by omega) (by omega)) r (by omega), ← hj]
      exact (List.getElem?_eq_getElem _).symm
    · rw [World.cell?_setCells_out g _ _ _ _ (fun _ _ => by show q * 10 + r < _ ∨ _ ≤ q * 10 + r; rw [hl]; omega)]
      have e : (turnN n k)[q]? = (digs n)[q]? := by
        unfold turnN
        rw [List.getElem?_set_ne (by omega), List.getElem?_set_ne (by omega)]
      rw [e] at hj
      refine hc _ u ?_
      rw [rowF_get _ _ _ hr]
      exact hj
theorem below_cells {B : Nat} {w0 : World} {g : Nat} (hg : B ≤ g) : ∀ (vs : List Value) (o : Nat) (w : World), Below B w0 w → Below B w0 (w.setCells g o vs)
  | [], _, _, h => h
  | v :: r, o, _, h => below_cells hg r (o + 1) _ (h.setCell (p := ⟨g, o, none⟩) hg v)
theorem cells_chain (w : World) (g p : Nat) (D0 D1 : List UInt8) : ((w.setCells g p (fCells D1)).setCells g (p + 10) (fCells D0)) =
    ((((((((((((((((((((w.setCell ⟨g, p, none⟩ (.string ⟨D1.toArray⟩)).setCell ⟨g, p + 1, none⟩ (.int .i64 0)).setCell ⟨g, p + 2, none⟩ (.int .u64 0)).setCell ⟨g, p + 3, none⟩ (.int .u64 0)).setCell ⟨g, p + 4, none⟩ (.int .u64 0)).setCell ⟨g, p + 5, none⟩ (.string ⟨#[]⟩)).setCell ⟨g, p + 6, none⟩ (.string ⟨#[]⟩)).setCell ⟨g, p + 7, none⟩ (.int .i64 0)).setCell ⟨g, p + 8, none⟩ (.slice none 0 0)).setCell ⟨g, p + 9, none⟩ (.slice none 0 0)).setCell ⟨g, p + 10, none⟩ (.string ⟨D0.toArray⟩)).setCell ⟨g, p + 10 + 1, none⟩ (.int .i64 0)).setCell ⟨g, p + 10 + 2, none⟩ (.int .u64 0)).setCell ⟨g, p + 10 + 3, none⟩ (.int .u64 0)).setCell ⟨g, p + 10 + 4, none⟩ (.int .u64 0)).setCell ⟨g, p + 10 + 5, none⟩ (.string ⟨#[]⟩)).setCell ⟨g, p + 10 + 6, none⟩ (.string ⟨#[]⟩)).setCell ⟨g, p + 10 + 7, none⟩ (.int .i64 0)).setCell ⟨g, p + 10 + 8, none⟩ (.slice none 0 0)).setCell ⟨g, p + 10 + 9, none⟩ (.slice none 0 0)) := by
  simp only [fCells, World.setCells, Nat.add_assoc, Nat.reduceAdd]
theorem turned_world {w7 w9 : World} {g n k p : Nat} {D0 D1 : List UInt8} (hk : k + 1 < n) (hb : w7.heap.size ≤ g) (hl : g < w9.heap.size) (hc : ∀ j u, (rowF (digs n))[j]? = some u → w9.cell? ⟨g, j, none⟩ = some u) (h9 : Below w7.heap.size w7 w9)
    (h0 : D0 = decDigits k) (h1 : D1 = decDigits (k + 1)) (hp : k * 10 = p) :
    ∃ W, W = World.drew ((w9.setCells g p (fCells D1)).setCells g (p + 10) (fCells D0)) ∧ Below w7.heap.size w7 W ∧ (∀ i u, (rowF (turnN n k))[i]? = some u → W.cell? ⟨g, i, none⟩ = some u) ∧ g < W.heap.size := by
  have hp2 : p + 10 = (k + 1) * 10 := by omega
  have hp3 : p = k * 10 := hp.symm
  rw [hp2, hp3, h0, h1]
  have B := below_cells hb (fCells (decDigits k)) ((k + 1) * 10) _ (below_cells hb (fCells (decDigits (k + 1))) (k * 10) _ h9)
  have T := turned_cells hk hc
  have S := (below_cells (Nat.le_refl g) (fCells (decDigits k)) ((k + 1) * 10) _ (below_cells (Nat.le_refl g) (fCells (decDigits (k + 1))) (k * 10) _ (Below.refl g w9))).size
  generalize (w9.setCells g (k * 10) (fCells (decDigits (k + 1)))).setCells g ((k + 1) * 10) (fCells (decDigits k)) = V at *
  exact ⟨_, rfl, B.drew, fun i u hi => cell_drew (T i u hi), Nat.lt_of_lt_of_le hl S⟩
end Go.Proofs.YtfpocpmcoobjkaaDoor
