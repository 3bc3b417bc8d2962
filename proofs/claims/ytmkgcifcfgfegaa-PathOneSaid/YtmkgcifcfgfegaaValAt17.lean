/-
  A value that a pointer leads to, and that it is a tree; no condition beyond what each lemma asks.
-/
import Derived.Test.YtmkgcifcfgfegaaRefS17

namespace Go.Proofs.Ytmkgcifcfgfegaa
set_option maxRecDepth 100000
open Go.RowKit
/-- What lies there reads as the tree. -/
def ValAt (w : World) (M : Nat → Prop) (b off : Nat) (t : Tree) : Prop :=
  M b ∧ ∃ cs : List Value, cs.length = 9 ∧ (∀ j, j < 9 → w.cell? ⟨b, off + j, none⟩ = cs[j]?) ∧ TreeAt w M t cs
theorem KidAt.val {w : World} {M : Nat → Prop} {b off : Nat} {x : Kid} (h : KidAt w M b off x) (hb : M b) : ValAt w M b (off + 1) x.2 := by
  obtain ⟨_, _, cs, h1, h2, h3⟩ := h
  exact ⟨hb, cs, h1, h2, h3⟩
theorem ValAt.keep {w w' : World} {M : Nat → Prop} {b off : Nat} {t : Tree} (h : ValAt w M b off t) (hk : ∀ k, M k → w'.heap[k]? = w.heap[k]?) : ValAt w' M b off t := by
  obtain ⟨h0, cs, h1, h2, h3⟩ := h
  exact ⟨h0, cs, h1, fun j hj => (World.cell?_of_block (hk b h0)).trans (h2 j hj), h3.keep hk _ _⟩
theorem ValAt.weaken {w : World} {M M' : Nat → Prop} {b off : Nat} {t : Tree} (h : ValAt w M b off t) (hk : ∀ k, M k → M' k) : ValAt w M' b off t := by
  obtain ⟨h0, cs, h1, h2, h3⟩ := h
  exact ⟨hk _ h0, cs, h1, h2, TreeAt.weaken hk _ _ h3⟩
theorem ValAt.up {w w' : World} {b off : Nat} {t : Tree} (h : ValAt w (· < w.heap.size) b off t) (hb : Below w.heap.size w w') : ValAt w' (· < w'.heap.size) b off t :=
  (h.keep (fun k hk => hb.block k hk)).weaken fun _ hk => Nat.lt_of_lt_of_le hk hb.size
/-- Behind a box. -/
theorem ValAt.box {w : World} {t : Tree} {cs : List Value} (h : TreeAt w (· < w.heap.size) t cs) (hl : cs.length = 9) (T : TypeId) : ValAt (w.alloc (.cells cs.toArray T)) (· < (w.alloc (.cells cs.toArray T)).heap.size) w.heap.size 0 t := by
  have B0 : Below w.heap.size w (w.alloc (.cells cs.toArray T)) := (Below.refl _ _).alloc (Nat.le_refl _) _
  refine ⟨by simp, cs, hl, fun j hj => ?_, ?_⟩
  · rw [block_cell (heap_alloc_new w _)]
    simp
  · exact TreeAt.weaken (fun j hj => Nat.lt_of_lt_of_le hj B0.size) _ _ (TreeAt.keep (fun j hj => B0.block j hj) _ _ h)
theorem TreeAt.len9 {w : World} {M : Nat → Prop} {t : Tree} {cs : List Value} (h : TreeAt w M t cs) : cs.length = 9 := by
  cases t with
  | node o l =>
    obtain ⟨Ab, cb, Ak, ck, rfl, _⟩ := h.open_
    rfl
theorem ValAt.open_ {w : World} {M : Nat → Prop} {b off : Nat} {o : OwnV} {l : List Kid} (h : ValAt w M b off (.node o l)) :
    M b ∧ ∃ (Ab : Option Addr) (cb : Nat) (Ak : Option Addr) (ck : Nat),
      (w.cell? ⟨b, off, none⟩ = some (.int .i64 o.kind) ∧ w.cell? ⟨b, off + 1, none⟩ = some (.int .u64 (o.bits : Int)) ∧ w.cell? ⟨b, off + 2, none⟩ = some (.int .u64 (o.high : Int)) ∧ w.cell? ⟨b, off + 3, none⟩ = some (.int .u64 (o.low : Int)) ∧ w.cell? ⟨b, off + 4, none⟩ = some (.string ⟨o.text.toArray⟩) ∧ w.cell? ⟨b, off + 5, none⟩ = some (.string ⟨o.more.toArray⟩) ∧ w.cell? ⟨b, off + 6, none⟩ = some (.int .i64 o.sub) ∧ w.cell? ⟨b, off + 7, none⟩ = some (.slice Ab o.bytes.length cb) ∧ w.cell? ⟨b, off + 8, none⟩ = some (.slice Ak l.length ck)) ∧
      OwnFits o ∧ l.length ≤ maxLen ∧ Held w M Ab o.bytes.length o.bytes ∧ (l ≠ [] → ∃ b off, Ak = some ⟨b, off, none⟩ ∧ M b ∧ KidsAt w M b off l) := by
  obtain ⟨h0, cs, h1, h2, h3⟩ := h
  obtain ⟨Ab, cb, Ak, ck, rfl, h4, h5, h6, h7⟩ := h3.open_
  exact ⟨h0, Ab, cb, Ak, ck, ⟨h2 0 (by decide), h2 1 (by decide), h2 2 (by decide), h2 3 (by decide), h2 4 (by decide), h2 5 (by decide), h2 6 (by decide), h2 7 (by decide), h2 8 (by decide)⟩, h4, h5, h6, h7⟩
/-- One Kid's value and name, in a later world. -/
theorem kid_val {w wr : World} {b off : Nat} {l : List Kid} (hK : KidsAt w (· < w.heap.size) b off l) (hB : Below w.heap.size w wr) (hbl : b < w.heap.size) (k : Nat) (h : k < l.length) :
    wr.cell? ⟨b, off + k * 10, none⟩ = some (.string ⟨(l[k]).1.toArray⟩) ∧ ValAt wr (· < wr.heap.size) b (off + k * 10 + 1) (l[k]).2 := by
  have hk := kids_get hK k h
  exact ⟨(hB.cell hbl).trans hk.1, (hk.val hbl).up hB⟩
theorem ValAt.grown {W : World} {b off : Nat} {t : Tree} (h : ValAt W (· < W.heap.size) b off t) (d os) : ValAt (Sort.grow (redrawn W d) os) (· < (Sort.grow (redrawn W d) os).heap.size) b off t :=
  h.up (below_regrown W d os)
theorem held_up {w w' : World} {A : Option Addr} {n : Nat} {bs : List UInt8} (h : Held w (· < w.heap.size) A n bs) (hb : Below w.heap.size w w') : Held w' (· < w'.heap.size) A n bs :=
  (h.keep fun k hk => hb.block k hk).weaken fun _ hk => Nat.lt_of_lt_of_le hk hb.size
theorem below_drewN (w : World) (n : Nat) : Below w.heap.size w (w.drewN n) := ⟨rfl, rfl, rfl, Nat.le_refl _, fun _ _ => rfl⟩
theorem below_drew (w : World) : Below w.heap.size w w.drew := ⟨rfl, rfl, rfl, Nat.le_refl _, fun _ _ => rfl⟩
end Go.Proofs.Ytmkgcifcfgfegaa
