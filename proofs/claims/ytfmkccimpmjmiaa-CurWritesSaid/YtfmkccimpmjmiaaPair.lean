/-
  A Writer and a row of bytes beside it that share no block, through the steps of the law CurWrites; no condition beyond what each lemma asks.
-/
import Derived.Test.YtfmkccimpmjmiaaRefB
namespace Go.Proofs.Ytfmkccimpmjmiaa
open Go.RowKit

/-- A Writer that holds xs, and beside it, in another block, a row of the law's own that holds ys. -/
def Pair (w : World) (base q : Nat) (v : Value) (xs : List UInt8) (A : Option Addr) (n c : Nat) (ys : List UInt8) : Prop :=
  Wr w base q v xs ∧ w.ownsRow base 5 1 (.slice A n c) n (cellsOf ys) ∧ ∀ k, v.ownBlock = some k → (Value.slice A n c).ownBlock ≠ some k

section
variable {w w' : World} {base q : Nat} {v : Value} {xs ys : List UInt8} {A : Option Addr} {n c : Nat}
theorem own_keep {e : TypeId} {u : Value} {zs : List Value} (h : w.ownsRow base e 1 u n zs) (hk : ∀ k, u.ownBlock = some k → w'.heap[k]? = w.heap[k]?) : w'.ownsRow base e 1 u n zs := by
  refine ⟨h.1, ?_⟩
  rcases h.2 with h2 | ⟨g, cap, cur, rfl, hb, hh, r⟩
  · exact .inl h2
  · exact .inr ⟨g, cap, cur, rfl, hb, (hk g rfl).trans hh, r⟩
theorem own_apart (h : Wr w base q v xs) (ho : w.ownsRow base 5 1 (.slice A n c) n (cellsOf ys)) : (Value.slice A n c).ownBlock ≠ some q := by
  rcases ho.2 with ⟨e, _⟩ | ⟨g, cap, cur, e, _, hg, _⟩
  · rw [e]; simp [Value.ownBlock]
  · rw [e]
    intro hq
    simp only [Value.ownBlock, Option.some.injEq] at hq
    subst hq
    rw [h.1] at hg
    injection hg with hg
    injection hg with _ ht
    exact absurd ht (by decide)
theorem Pair.len (h : Pair w base q v xs A n c ys) : ys.length = n := by
  have := h.2.1.1
  rw [cellsOf_length] at this
  omega
theorem Pair.below (h : Pair w base q v xs A n c ys) (hb : Below w.heap.size w w') : Pair w' base q v xs A n c ys :=
  ⟨h.1.keep hb.size (hb.block _ h.1.lt_q) (fun _ e => hb.block _ (h.1.lt_g e)), own_keep h.2.1 (fun k e => hb.block _ (h.2.1.lt k e).2), h.2.2⟩
/-- Behind a call of the Writer. -/
theorem Pair.writer {xs' : List UInt8} (h : Pair w base q v xs A n c ys) (ht : WrTo base q v w xs' w') : ∃ v', Pair w' base q v' xs' A n c ys ∧ Kept (WrS q v) w w' := by
  obtain ⟨v', hw, hk, hn⟩ := ht
  refine ⟨v', ⟨hw, own_keep h.2.1 (fun k e => hk.block _ (h.2.1.lt k e).2 ?_), fun k e => ?_⟩, hk⟩
  · intro hs
    rcases hs with rfl | hs
    · exact own_apart h.1 h.2.1 e
    · exact h.2.2 k hs e
  · rcases hn with hn | ⟨m, e1, e2⟩
    · exact h.2.2 k (by rw [← hn]; exact e)
    · intro e'
      rw [e1] at e
      injection e with e
      have := (h.2.1.lt k e').2
      omega
/-- Behind an append to the row. -/
theorem Pair.append {A' : Option Addr} {n' c' : Nat} {zs : List Value} {ys' : List UInt8} (h : Pair w base q v xs A n c ys) (ho : w'.ownsRow base 5 1 (.slice A' n' c') n' zs) (hg : w.grownBy w' (Value.slice A n c).ownBlock)
    (ha : (Value.slice A' n' c').ownBlock = (Value.slice A n c).ownBlock ∨ (Value.slice A' n' c').ownBlock = some w.heap.size) (hz : zs = cellsOf ys') : Pair w' base q v xs A' n' c' ys' := by
  subst hz
  refine ⟨h.1.keep hg.size (hg.block _ h.1.lt_q (fun e => own_apart h.1 h.2.1 e.symm)) (fun k e => hg.block _ (h.1.lt_g e) (fun e' => h.2.2 k e e'.symm)), ho, fun k e => ?_⟩
  rcases ha with ha | ha
  · rw [ha]; exact h.2.2 k e
  · rw [ha]
    intro e'
    injection e' with e'
    have := h.1.lt_g e
    omega
theorem Pair.held (h : Pair w base q v xs A n c ys) : Held w (fun k => (Value.slice A n c).ownBlock = some k) A n ys := by
  refine ⟨h.len, fun hn => ?_⟩
  rcases h.2.1.2 with ⟨_, e⟩ | ⟨g, cap, cur, e, _, hg, hnc, _, hcs, ht⟩
  · omega
  · injection e with e1 e2 e3
    subst e1
    refine ⟨g, 0, rfl, rfl, fun i hi => ?_⟩
    have h1 := cellsOf_get ys i (by have := h.len; omega)
    rw [← ht, List.getElem?_take_of_lt (by omega)] at h1
    rw [Nat.zero_add, block_cell hg]
    simpa using h1
end

theorem own_cellsAt {w : World} {base n c : Nat} {e : TypeId} {A : Option Addr} {zs : List Value} (h : w.ownsRow base e 1 (.slice A n c) n zs) :
    0 < n → ∃ ad, A = some ad ∧ ∀ j u, zs[j]? = some u → w.cell? (ad.add j) = some u := by
  intro hn
  rcases h.2 with ⟨_, e⟩ | ⟨g, cap, cur, e, _⟩
  · omega
  · injection e with e1
    subst e1
    exact ⟨_, rfl, h.cells (g := g) rfl⟩

/-- One byte stored into a row of the law's own. -/
theorem own_poke {w : World} {base g n c i : Nat} {e : TypeId} {ys : List UInt8} {b : UInt8} (h : w.ownsRow base e 1 (.slice (some ⟨g, 0, none⟩) n c) n (cellsOf ys)) (hi : i < n) :
    (∃ old, w.cell? ⟨g, i, none⟩ = some old ∧ w.frozen? ⟨g, i, none⟩ = false) ∧ (w.setCell ⟨g, i, none⟩ (.int .u8 (b.toNat : Int))).ownsRow base e 1 (.slice (some ⟨g, 0, none⟩) n c) n (cellsOf (ys.set i b)) := by
  have h1 := h.1
  rcases h.2 with ⟨e, _⟩ | ⟨g', cap', cur, e, hbg, hh, hnc, hcm, hcs, ht⟩
  · cases e
  · injection e with e1 e2 e3
    injection e1 with e1
    injection e1 with e1
    subst e1 e3
    have hic : i < cur.size := by omega
    refine ⟨⟨cur[i], by rw [block_cell hh]; simp [hic], block_frozen hh i⟩, ?_⟩
    refine ⟨by rw [cellsOf_length] at h1 ⊢; simpa using h1, .inr ⟨g, c, cur.setIfInBounds i (.int .u8 (b.toNat : Int)), rfl, hbg, block_set hh i _, hnc, hcm, by simpa using hcs, ?_⟩⟩
    rw [cellsOf_set, ← ht]
    simp [List.take_set]
theorem Pair.poke {w : World} {base q g n c i : Nat} {v : Value} {xs ys : List UInt8} {b : UInt8} (h : Pair w base q v xs (some ⟨g, 0, none⟩) n c ys) (hi : i < n) :
    (∃ old, w.cell? ⟨g, i, none⟩ = some old ∧ w.frozen? ⟨g, i, none⟩ = false) ∧ Pair (w.setCell ⟨g, i, none⟩ (.int .u8 (b.toNat : Int))) base q v xs (some ⟨g, 0, none⟩) n c (ys.set i b) := by
  obtain ⟨hc, ho⟩ := own_poke (b := b) h.2.1 hi
  refine ⟨hc, h.1.keep (by simp [World.setCell]) (Below.heap_setCell _ _ _ _ ?_) (fun k e => Below.heap_setCell _ _ _ _ ?_), ho, h.2.2⟩
  · intro e
    exact own_apart h.1 h.2.1 (by rw [e]; rfl)
  · intro e'
    exact h.2.2 k e (by rw [e']; rfl)

/-- What a Put is. -/
structure PutD where
  kind : Int
  n : Int
  at_ : Int
  x : Nat
  A : Option Addr
  l : Nat
  c : Nat
  b : List UInt8
def PutD.zero : PutD := ⟨0, 0, 0, 0, none, 0, 0, []⟩
def PutD.cells (p : PutD) : Array Value := #[.int .i64 p.kind, .int .i64 p.n, .int .i64 p.at_, .int .u64 (p.x : Int), .slice p.A p.l p.c]
/-- The slice of Puts that begins at A and is m long reads as ps. -/
def Puts (w : World) (M : Nat → Prop) (A : Option Addr) (m : Nat) (ps : List PutD) : Prop :=
  ps.length = m ∧ (0 < m → ∃ b o, A = some ⟨b, o, none⟩ ∧ M b ∧ ∀ i, i < m → ∀ f, f < 5 → w.cell? ⟨b, o + i * 5 + f, none⟩ = (ps.getD i PutD.zero).cells[f]?) ∧
    ∀ i, i < m → Held w M (ps.getD i PutD.zero).A (ps.getD i PutD.zero).l (ps.getD i PutD.zero).b ∧ (ps.getD i PutD.zero).x < 18446744073709551616 ∧
      (-9223372036854775808 ≤ (ps.getD i PutD.zero).n ∧ (ps.getD i PutD.zero).n ≤ 9223372036854775807) ∧ (-9223372036854775808 ≤ (ps.getD i PutD.zero).at_ ∧ (ps.getD i PutD.zero).at_ ≤ 9223372036854775807)
theorem Puts.keep {w w' : World} {M : Nat → Prop} {A : Option Addr} {m : Nat} {ps : List PutD} (h : Puts w M A m ps) (hk : ∀ k, M k → w'.heap[k]? = w.heap[k]?) : Puts w' M A m ps :=
  ⟨h.1, fun hn => by
    obtain ⟨b, o, e, hm, hc⟩ := h.2.1 hn
    exact ⟨b, o, e, hm, fun i hi f hf => (World.cell?_of_block (hk b hm)).trans (hc i hi f hf)⟩, fun i hi => ⟨(h.2.2 i hi).1.keep hk, (h.2.2 i hi).2⟩⟩

end Go.Proofs.Ytfmkccimpmjmiaa
