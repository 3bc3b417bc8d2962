/-
  A tree that came in, as a walk is told of it: what its cells hold; no condition beyond what each lemma asks.
-/
import Derived.Test.YtdaoekcabfapaaaIsRow
import Derived.Test.YtdaoekcabfapaaaTreeMath
import Derived.ChangeArms
import Derived.ChangeSlices
import Derived.DataReads
namespace Go.Proofs.Ytdaoekcabfapaaa
set_option maxRecDepth 100000
open Go.ChangeShapes Go.WideShapes Go.ChangeAt Go.RowKit

/-- The numbers are such as a uint64, an int hold; the texts are no longer than any. -/
structure OwnFits (o : OwnV) : Prop where
  k0 : -9223372036854775808 ≤ o.kind
  k1 : o.kind ≤ 9223372036854775807
  bits : o.bits < 18446744073709551616
  high : o.high < 18446744073709551616
  low : o.low < 18446744073709551616
  s0 : -9223372036854775808 ≤ o.sub
  s1 : o.sub ≤ 9223372036854775807
  text : o.text.length ≤ maxLen
  more : o.more.length ≤ maxLen
  bytes : o.bytes.length ≤ maxLen
/-- A value's cells. -/
def cellsV (o : OwnV) (Ab : Option Addr) (cb : Nat) (Ak : Option Addr) (nk ck : Nat) : List Value :=
  [.int .i64 o.kind, .int .u64 (o.bits : Int), .int .u64 (o.high : Int), .int .u64 (o.low : Int), .string ⟨o.text.toArray⟩, .string ⟨o.more.toArray⟩, .int .i64 o.sub, .slice Ab o.bytes.length cb, .slice Ak nk ck]
mutual
/-- The cells read as the tree; what they lead to lies in blocks of M. -/
def TreeAt (w : World) (M : Nat → Prop) : Tree → List Value → Prop
  | .node o l, cs => ∃ (Ab : Option Addr) (cb : Nat) (Ak : Option Addr) (ck : Nat), cs = cellsV o Ab cb Ak l.length ck ∧ OwnFits o ∧ l.length ≤ maxLen ∧ Held w M Ab o.bytes.length o.bytes ∧ (l ≠ [] → ∃ b off, Ak = some ⟨b, off, none⟩ ∧ M b ∧ KidsAt w M b off l)
/-- The Kids, from a place on. -/
def KidsAt (w : World) (M : Nat → Prop) (b : Nat) : Nat → List (List UInt8 × Tree) → Prop
  | _, [] => True
  | off, (n, t) :: l => (w.cell? ⟨b, off, none⟩ = some (.string ⟨n.toArray⟩) ∧ n.length ≤ maxLen ∧ ∃ cs : List Value, cs.length = 9 ∧ (∀ j, j < 9 → w.cell? ⟨b, off + 1 + j, none⟩ = cs[j]?) ∧ TreeAt w M t cs) ∧ KidsAt w M b (off + 10) l
end
/-- One Kid. -/
def KidAt (w : World) (M : Nat → Prop) (b off : Nat) (x : Kid) : Prop :=
  w.cell? ⟨b, off, none⟩ = some (.string ⟨x.1.toArray⟩) ∧ x.1.length ≤ maxLen ∧ ∃ cs : List Value, cs.length = 9 ∧ (∀ j, j < 9 → w.cell? ⟨b, off + 1 + j, none⟩ = cs[j]?) ∧ TreeAt w M x.2 cs
theorem kids_cons {w : World} {M : Nat → Prop} {b off : Nat} {x : Kid} {l : List Kid} : KidsAt w M b off (x :: l) ↔ KidAt w M b off x ∧ KidsAt w M b (off + 10) l := by
  obtain ⟨n, t⟩ := x
  rw [KidsAt]
  exact Iff.rfl
theorem kids_get {w : World} {M : Nat → Prop} {b : Nat} {l : List Kid} : ∀ {off : Nat}, KidsAt w M b off l → ∀ (i : Nat) (h : i < l.length), KidAt w M b (off + i * 10) l[i] := by
  induction l with
  | nil => intro off _ i h; exact absurd h (Nat.not_lt_zero _)
  | cons x l ih =>
    intro off h i hi
    rw [kids_cons] at h
    cases i with
    | zero => simpa using h.1
    | succ i =>
      have := ih h.2 i (by simpa using hi)
      rw [show off + (i + 1) * 10 = off + 10 + i * 10 by omega]
      simpa using this
theorem kids_of {w : World} {M : Nat → Prop} {b : Nat} : ∀ (n off : Nat), (∀ i, i < n → ∃ x : Kid, KidAt w M b (off + i * 10) x) → ∃ l : List Kid, l.length = n ∧ KidsAt w M b off l
  | 0, _, _ => ⟨[], rfl, by rw [KidsAt]; trivial⟩
  | n + 1, off, h => by
    obtain ⟨x, hx⟩ := h 0 (Nat.succ_pos _)
    obtain ⟨l, hl, hk⟩ := kids_of n (off + 10) fun i hi => by
      obtain ⟨y, hy⟩ := h (i + 1) (by omega)
      exact ⟨y, by rwa [show off + (i + 1) * 10 = off + 10 + i * 10 by omega] at hy⟩
    refine ⟨x :: l, by simp [hl], ?_⟩
    rw [kids_cons]
    exact ⟨by simpa using hx, hk⟩
theorem TreeAt.open_ {w : World} {M : Nat → Prop} {o : OwnV} {l : List Kid} {cs : List Value} (h : TreeAt w M (.node o l) cs) :
    ∃ (Ab : Option Addr) (cb : Nat) (Ak : Option Addr) (ck : Nat), cs = cellsV o Ab cb Ak l.length ck ∧ OwnFits o ∧ l.length ≤ maxLen ∧ Held w M Ab o.bytes.length o.bytes ∧ (l ≠ [] → ∃ b off, Ak = some ⟨b, off, none⟩ ∧ M b ∧ KidsAt w M b off l) := by
  rwa [TreeAt] at h
theorem TreeAt.keep {w w' : World} {M : Nat → Prop} (hk : ∀ k, M k → w'.heap[k]? = w.heap[k]?) : ∀ (t : Tree) (cs : List Value), TreeAt w M t cs → TreeAt w' M t cs := by
  refine Tree.ind ?_
  intro o l ih cs h
  rw [TreeAt] at h ⊢
  obtain ⟨Ab, cb, Ak, ck, e, f, hl, hb, hr⟩ := h
  refine ⟨Ab, cb, Ak, ck, e, f, hl, hb.keep hk, fun hne => ?_⟩
  obtain ⟨b, off, e, hm, hK⟩ := hr hne
  refine ⟨b, off, e, hm, ?_⟩
  have go : ∀ (m : List Kid) (off : Nat), (∀ x ∈ m, x ∈ l) → KidsAt w M b off m → KidsAt w' M b off m := fun m => by
    induction m with
    | nil => intro off _ _; rw [KidsAt]; trivial
    | cons x m ihm =>
      intro off hm2 h2
      rw [kids_cons] at h2 ⊢
      obtain ⟨⟨h3, h4, cs, h5, h6, h7⟩, h8⟩ := h2
      refine ⟨⟨(World.cell?_of_block (hk b hm)).trans h3, h4, cs, h5, fun j hj => (World.cell?_of_block (hk b hm)).trans (h6 j hj), ih x (hm2 x (.head _)) cs h7⟩, ihm (off + 10) (fun y hy => hm2 y (.tail _ hy)) h8⟩
  exact go l off (fun _ h => h) hK
theorem TreeAt.on {w w' : World} {B : Nat} {t : Tree} {cs : List Value} (h : TreeAt w (· < B) t cs) (hb : Below B w w') : TreeAt w' (· < B) t cs :=
  h.keep (fun k hk => hb.block k hk) t cs
theorem Held.grow {w : World} {M M' : Nat → Prop} {A : Option Addr} {n : Nat} {bs : List UInt8} (h : Held w M A n bs) (hm : ∀ k, M k → M' k) : Held w M' A n bs := h.weaken hm
theorem TreeAt.weaken {w : World} {M M' : Nat → Prop} (hk : ∀ k, M k → M' k) : ∀ (t : Tree) (cs : List Value), TreeAt w M t cs → TreeAt w M' t cs := by
  refine Tree.ind ?_
  intro o l ih cs h
  rw [TreeAt] at h ⊢
  obtain ⟨Ab, cb, Ak, ck, e, f, hl, hb, hr⟩ := h
  refine ⟨Ab, cb, Ak, ck, e, f, hl, hb.weaken hk, fun hne => ?_⟩
  obtain ⟨b, off, e, hm, hK⟩ := hr hne
  refine ⟨b, off, e, hk b hm, ?_⟩
  have go : ∀ (m : List Kid) (off : Nat), (∀ x ∈ m, x ∈ l) → KidsAt w M b off m → KidsAt w M' b off m := fun m => by
    induction m with
    | nil => intro off _ _; rw [KidsAt]; trivial
    | cons x m ihm =>
      intro off hm2 h2
      rw [kids_cons] at h2 ⊢
      obtain ⟨⟨h3, h4, cs, h5, h6, h7⟩, h8⟩ := h2
      exact ⟨⟨h3, h4, cs, h5, h6, ih x (hm2 x (.head _)) cs h7⟩, ihm (off + 10) (fun y hy => hm2 y (.tail _ hy)) h8⟩
  exact go l off (fun _ h => h) hK

/-! ### From what the statement says -/
theorem addr_none {w : World} {a : Addr} {v : Value} (h : w.cell? a = some v) : a = ⟨a.block, a.off, none⟩ := by
  obtain ⟨b, o, sp⟩ := a
  have := World.cell?_spot h
  simp at this
  rw [this]
theorem nat_u64' {n : Int} (h : (Lit.int .u64 n).wf = true) : ∃ m : Nat, m < 18446744073709551616 ∧ n = (m : Int) := by
  have q := Go.bounds_u64 h
  exact ⟨n.toNat, by omega, by omega⟩
theorem bytes_of {H : Type} {enc : TypeId × Value → H} {w : World} {base fuel : Nat} {held : Bool} {c : Value} {x : DataW H × List MemPlace} (h : DataW.trod enc Try.prog w base (fun _ => true) held fuel 23 [c] = some x) :
    ∃ (A : Option Addr) (n cap : Nat) (bs : List UInt8), c = .slice A n cap ∧ Held w (· < w.heap.size) A n bs ∧ bs.length ≤ maxLen := by
  rcases open_ints Try.underlying23 Try.underlying5 (by kernel_rfl) h with ⟨hcs, _⟩ | ⟨x, l, cp, zs, hcs, _, hl, hm, hz, _, hcell, hwz⟩
  · simp only [List.cons.injEq, and_true] at hcs
    exact ⟨none, 0, 0, [], hcs, Held.nothing rfl, Nat.zero_le _⟩
  · simp only [List.cons.injEq, and_true] at hcs
    have hrow : IsRow .u8 w (some x) l cp zs := .inr ⟨_, rfl, hl, hm, by simpa using hz, hcell, hwz⟩
    obtain ⟨bs, hB, hlc⟩ := hrow.held
    exact ⟨_, l, cp, bs, hcs, hB, by have := hB.1; omega⟩
theorem fld_at {H : Type} {enc : TypeId × Value → H} {w : World} {base n : Nat} {sp : Nat → Bool} {held : Bool} {fs : Array Field} {cs : List Value} {xs : List (DataW H × List MemPlace)}
    (hf : ∀ (i : Nat) (f : Field), fs[i]? = some f → DataW.trod enc Try.prog w base sp held n f.type ((cs.drop f.offset).take (Try.prog.cellsOf f.type)) = xs[i]?) (i : Nat) {f : Field} {ty off c : Nat} (h : fs[i]? = some f) (ht : f.type = ty) (ho : f.offset = off) (hc : Try.prog.cellsOf ty = c) :
    DataW.trod enc Try.prog w base sp held n ty (List.take c (List.drop off cs)) = xs[i]? := by
  have := hf i f h
  rw [ht, ho, hc] at this
  exact this
theorem tree_of {H : Type} {enc : TypeId × Value → H} {w : World} {base : Nat} {held : Bool} : ∀ (fuel : Nat) (cs : List Value) (x : DataW H × List MemPlace),
    DataW.trod enc Try.prog w base (fun _ => true) held fuel 26 cs = some x → ∃ t, TreeAt w (· < w.heap.size) t cs := by
  intro fuel
  induction fuel using Nat.strongRecOn with
  | _ fuel ih =>
  intro cs x h
  obtain ⟨xs, n, hn, _, hl, hx, hf⟩ := DataW.trod_struct Try.underlying26 h
  have hl : cs.length = 9 := hl.trans (by kernel_rfl)
  have hx : xs.length = 9 := hx.trans (by kernel_rfl)
  match cs, hl, xs, hx with
  | [c0, c1, c2, c3, c4, c5, c6, c7, c8], _, [x0, x1, x2, x3, x4, x5, x6, x7, x8], _ =>
    have g0 : DataW.trod enc Try.prog w base (fun _ => true) held n 3 [c0] = some x0 := fld_at hf 0 (ty := 3) (off := 0) (c := 1) rfl rfl rfl (by kernel_rfl)
    have g1 : DataW.trod enc Try.prog w base (fun _ => true) held n 22 [c1] = some x1 := fld_at hf 1 (ty := 22) (off := 1) (c := 1) rfl rfl rfl (by kernel_rfl)
    have g2 : DataW.trod enc Try.prog w base (fun _ => true) held n 22 [c2] = some x2 := fld_at hf 2 (ty := 22) (off := 2) (c := 1) rfl rfl rfl (by kernel_rfl)
    have g3 : DataW.trod enc Try.prog w base (fun _ => true) held n 22 [c3] = some x3 := fld_at hf 3 (ty := 22) (off := 3) (c := 1) rfl rfl rfl (by kernel_rfl)
    have g4 : DataW.trod enc Try.prog w base (fun _ => true) held n 9 [c4] = some x4 := fld_at hf 4 (ty := 9) (off := 4) (c := 1) rfl rfl rfl (by kernel_rfl)
    have g5 : DataW.trod enc Try.prog w base (fun _ => true) held n 9 [c5] = some x5 := fld_at hf 5 (ty := 9) (off := 5) (c := 1) rfl rfl rfl (by kernel_rfl)
    have g6 : DataW.trod enc Try.prog w base (fun _ => true) held n 3 [c6] = some x6 := fld_at hf 6 (ty := 3) (off := 6) (c := 1) rfl rfl rfl (by kernel_rfl)
    have g7 : DataW.trod enc Try.prog w base (fun _ => true) held n 23 [c7] = some x7 := fld_at hf 7 (ty := 23) (off := 7) (c := 1) rfl rfl rfl (by kernel_rfl)
    have g8 : DataW.trod enc Try.prog w base (fun _ => true) held n 24 [c8] = some x8 := fld_at hf 8 (ty := 24) (off := 8) (c := 1) rfl rfl rfl (by kernel_rfl)
    clear hf
    obtain ⟨kd, e0, _, w0⟩ := DataW.trod_int Try.underlying3 g0
    obtain ⟨b1, e1, _, w1⟩ := DataW.trod_int Try.underlying22 g1
    obtain ⟨b2, e2, _, w2⟩ := DataW.trod_int Try.underlying22 g2
    obtain ⟨b3, e3, _, w3⟩ := DataW.trod_int Try.underlying22 g3
    obtain ⟨s4, e4, _, w4⟩ := DataW.trod_string Try.underlying9 g4
    obtain ⟨s5, e5, _, w5⟩ := DataW.trod_string Try.underlying9 g5
    obtain ⟨sb, e6, _, w6⟩ := DataW.trod_int Try.underlying3 g6
    simp only [List.cons.injEq, and_true] at e0 e1 e2 e3 e4 e5 e6
    subst e0 e1 e2 e3 e4 e5 e6
    have r0 := Go.bounds_i64 w0
    have r6 := Go.bounds_i64 w6
    obtain ⟨n1, k1, rfl⟩ := nat_u64' w1
    obtain ⟨n2, k2, rfl⟩ := nat_u64' w2
    obtain ⟨n3, k3, rfl⟩ := nat_u64' w3
    obtain ⟨Ab, nb, cb, bs, rfl, hB, hbl⟩ := bytes_of g7
    have mk : ∀ (Ak : Option Addr) (ck : Nat) (l : List Kid), l.length ≤ maxLen → (l ≠ [] → ∃ b off, Ak = some ⟨b, off, none⟩ ∧ b < w.heap.size ∧ KidsAt w (· < w.heap.size) b off l) → c8 = .slice Ak l.length ck →
        ∃ t, TreeAt w (· < w.heap.size) t [.int .i64 kd, .int .u64 (n1 : Int), .int .u64 (n2 : Int), .int .u64 (n3 : Int), .string s4, .string s5, .int .i64 sb, .slice Ab nb cb, c8] := fun Ak ck l hlm hK hc => by
      refine ⟨.node ⟨kd, n1, n2, n3, s4.data.toList, s5.data.toList, sb, bs⟩ l, ?_⟩
      rw [TreeAt]
      have hb1 := hB.1
      subst hb1
      refine ⟨Ab, cb, Ak, ck, by rw [hc]; rfl, ⟨r0.1, r0.2, k1, k2, k3, r6.1, r6.2, ?_, ?_, hbl⟩, hlm, hB, hK⟩
      · rw [Array.length_toList]; exact w4
      · rw [Array.length_toList]; exact w5
    rcases DataW.trod_slice Try.underlying24 g8 with ⟨hc, _⟩ | ⟨a, len, cap, elems, rest, m, hm, hc, _, _, hlc, hcm, hel, hget, _, _⟩
    · simp only [List.cons.injEq, and_true] at hc
      exact mk none 0 [] (Nat.zero_le _) (fun h => absurd rfl h) hc
    · simp only [List.cons.injEq, and_true] at hc
      rcases Nat.eq_zero_or_pos len with h0 | h0
      · subst h0
        exact mk (some a) cap [] (Nat.zero_le _) (fun h => absurd rfl h) hc
      have e10 : Try.prog.cellsOf 37 = 10 := by kernel_rfl
      have hz0 : ∃ v, w.cell? a = some v := by
        have q := hget 0 h0
        rw [List.getElem?_eq_getElem (by omega), e10] at q
        obtain ⟨cs', q1, _⟩ := Option.bind_eq_some_iff.1 q
        obtain ⟨_, hl', hcell⟩ := World.cells?_some q1
        have := hcell 0 (by decide)
        rw [List.getElem?_eq_getElem (by omega)] at this
        exact ⟨_, by simpa [Addr.add] using this⟩
      obtain ⟨v0, hv0⟩ := hz0
      have hlt := World.block_lt_of_cell? w _ hv0
      have ha := addr_none hv0
      obtain ⟨ab, ao, asp⟩ := a
      simp only [Addr.mk.injEq, true_and] at ha
      subst ha
      have each : ∀ i, i < len → ∃ y : Kid, KidAt w (· < w.heap.size) ab (ao + i * 10) y := by
        intro i hi
        have q := hget i hi
        rw [List.getElem?_eq_getElem (by omega), e10, Addr.add_lit] at q
        obtain ⟨cs', q1, q2⟩ := Option.bind_eq_some_iff.1 q
        obtain ⟨_, hl', hcell⟩ := World.cells?_some q1
        simp only [Addr.add_lit] at hcell
        obtain ⟨ys, k, hk, _, _, hy, hf'⟩ := DataW.trod_struct Try.underlying37 q2
        have hy : ys.length = 2 := hy.trans (by kernel_rfl)
        match ys, hy with
        | [y0, y1], _ =>
          have u0 : DataW.trod enc Try.prog w base (fun _ => true) held k 9 (List.take 1 (List.drop 0 cs')) = some y0 := fld_at hf' 0 (ty := 9) (off := 0) (c := 1) rfl rfl rfl (by kernel_rfl)
          have u1 : DataW.trod enc Try.prog w base (fun _ => true) held k 26 (List.take 9 (List.drop 1 cs')) = some y1 := fld_at hf' 1 (ty := 26) (off := 1) (c := 9) rfl rfl rfl (by kernel_rfl)
          obtain ⟨s, es, _, ws⟩ := DataW.trod_string Try.underlying9 u0
          obtain ⟨t, ht⟩ := ih k (by omega) _ _ u1
          have ec : cs'[0]? = some (.string s) := by
            have : (List.take 1 (List.drop 0 cs'))[0]? = some (Value.string s) := by rw [es]; rfl
            rw [List.getElem?_take, if_pos (by decide), List.getElem?_drop] at this
            exact this
          refine ⟨(s.data.toList, t), ⟨?_, ?_, _, ?_, ?_, ht⟩⟩
          · exact (hcell 0 (by decide)).trans ec
          · rw [Array.length_toList]; exact ws
          · rw [List.length_take, List.length_drop]; omega
          · intro j hj
            rw [show ao + i * 10 + 1 + j = ao + i * 10 + (1 + j) by omega, hcell (1 + j) (by omega), List.getElem?_take, if_pos hj, List.getElem?_drop]
      obtain ⟨l, hll, hK⟩ := kids_of (w := w) (M := (· < w.heap.size)) (b := ab) len ao each
      exact mk _ cap l (by omega) (fun _ => ⟨ab, ao, rfl, hlt, hK⟩) (by rw [hc, hll])
end Go.Proofs.Ytdaoekcabfapaaa
