/-
  A tree that came in, as a walk is told of it, with the room of its rows of Kids: the laws of TreeAt once more; no condition beyond what each lemma asks.
-/
import Derived.Test.YtmkgcifcfgfegaaTreeArg17
namespace Go.Proofs.Ytmkgcifcfgfegaa
set_option maxRecDepth 100000
open Go.ChangeShapes Go.WideShapes Go.ChangeAt Go.RowKit Go.Deep

mutual
/-- The cells read as the tree, and no row of Kids is longer than its room; what they lead to lies in blocks of M. -/
def TreeC (w : World) (M : Nat → Prop) : Tree → List Value → Prop
  | .node o l, cs => ∃ (Ab : Option Addr) (cb : Nat) (Ak : Option Addr) (ck : Nat), cs = cellsV o Ab cb Ak l.length ck ∧ OwnFits o ∧ (l.length ≤ maxLen ∧ l.length ≤ ck) ∧ Held w M Ab o.bytes.length o.bytes ∧ (l ≠ [] → ∃ b off, Ak = some ⟨b, off, none⟩ ∧ M b ∧ KidsC w M b off l)
/-- The Kids, from a place on. -/
def KidsC (w : World) (M : Nat → Prop) (b : Nat) : Nat → List (List UInt8 × Tree) → Prop
  | _, [] => True
  | off, (n, t) :: l => (w.cell? ⟨b, off, none⟩ = some (.string ⟨n.toArray⟩) ∧ n.length ≤ maxLen ∧ ∃ cs : List Value, cs.length = 9 ∧ (∀ j, j < 9 → w.cell? ⟨b, off + 1 + j, none⟩ = cs[j]?) ∧ TreeC w M t cs) ∧ KidsC w M b (off + 10) l
end
/-- One Kid. -/
def KidC (w : World) (M : Nat → Prop) (b off : Nat) (x : Kid) : Prop :=
  w.cell? ⟨b, off, none⟩ = some (.string ⟨x.1.toArray⟩) ∧ x.1.length ≤ maxLen ∧ ∃ cs : List Value, cs.length = 9 ∧ (∀ j, j < 9 → w.cell? ⟨b, off + 1 + j, none⟩ = cs[j]?) ∧ TreeC w M x.2 cs
theorem kidsC_cons {w : World} {M : Nat → Prop} {b off : Nat} {x : Kid} {l : List Kid} : KidsC w M b off (x :: l) ↔ KidC w M b off x ∧ KidsC w M b (off + 10) l := by
  obtain ⟨n, t⟩ := x
  rw [KidsC]
  exact Iff.rfl
theorem kidsC_get {w : World} {M : Nat → Prop} {b : Nat} {l : List Kid} : ∀ {off : Nat}, KidsC w M b off l → ∀ (i : Nat) (h : i < l.length), KidC w M b (off + i * 10) l[i] := by
  induction l with
  | nil => intro off _ i h; exact absurd h (Nat.not_lt_zero _)
  | cons x l ih =>
    intro off h i hi
    rw [kidsC_cons] at h
    cases i with
    | zero => simpa using h.1
    | succ i =>
      have := ih h.2 i (by simpa using hi)
      rw [show off + (i + 1) * 10 = off + 10 + i * 10 by omega]
      simpa using this
theorem kidsC_of {w : World} {M : Nat → Prop} {b : Nat} : ∀ (n off : Nat), (∀ i, i < n → ∃ x : Kid, KidC w M b (off + i * 10) x) → ∃ l : List Kid, l.length = n ∧ KidsC w M b off l
  | 0, _, _ => ⟨[], rfl, by rw [KidsC]; trivial⟩
  | n + 1, off, h => by
    obtain ⟨x, hx⟩ := h 0 (Nat.succ_pos _)
    obtain ⟨l, hl, hk⟩ := kidsC_of n (off + 10) fun i hi => by
      obtain ⟨y, hy⟩ := h (i + 1) (by omega)
      exact ⟨y, by rwa [show off + (i + 1) * 10 = off + 10 + i * 10 by omega] at hy⟩
    refine ⟨x :: l, by simp [hl], ?_⟩
    rw [kidsC_cons]
    exact ⟨by simpa using hx, hk⟩
theorem TreeC.open_ {w : World} {M : Nat → Prop} {o : OwnV} {l : List Kid} {cs : List Value} (h : TreeC w M (.node o l) cs) :
    ∃ (Ab : Option Addr) (cb : Nat) (Ak : Option Addr) (ck : Nat), cs = cellsV o Ab cb Ak l.length ck ∧ OwnFits o ∧ (l.length ≤ maxLen ∧ l.length ≤ ck) ∧ Held w M Ab o.bytes.length o.bytes ∧ (l ≠ [] → ∃ b off, Ak = some ⟨b, off, none⟩ ∧ M b ∧ KidsC w M b off l) := by
  rwa [TreeC] at h
theorem TreeC.keep {w w' : World} {M : Nat → Prop} (hk : ∀ k, M k → w'.heap[k]? = w.heap[k]?) : ∀ (t : Tree) (cs : List Value), TreeC w M t cs → TreeC w' M t cs := by
  refine Tree.ind ?_
  intro o l ih cs h
  rw [TreeC] at h ⊢
  obtain ⟨Ab, cb, Ak, ck, e, f, hl, hb, hr⟩ := h
  refine ⟨Ab, cb, Ak, ck, e, f, hl, hb.keep hk, fun hne => ?_⟩
  obtain ⟨b, off, e, hm, hK⟩ := hr hne
  refine ⟨b, off, e, hm, ?_⟩
  have go : ∀ (m : List Kid) (off : Nat), (∀ x ∈ m, x ∈ l) → KidsC w M b off m → KidsC w' M b off m := fun m => by
    induction m with
    | nil => intro off _ _; rw [KidsC]; trivial
    | cons x m ihm =>
      intro off hm2 h2
      rw [kidsC_cons] at h2 ⊢
      obtain ⟨⟨h3, h4, cs, h5, h6, h7⟩, h8⟩ := h2
      refine ⟨⟨(World.cell?_of_block (hk b hm)).trans h3, h4, cs, h5, fun j hj => (World.cell?_of_block (hk b hm)).trans (h6 j hj), ih x (hm2 x (.head _)) cs h7⟩, ihm (off + 10) (fun y hy => hm2 y (.tail _ hy)) h8⟩
  exact go l off (fun _ h => h) hK
theorem TreeC.on {w w' : World} {B : Nat} {t : Tree} {cs : List Value} (h : TreeC w (· < B) t cs) (hb : Below B w w') : TreeC w' (· < B) t cs :=
  h.keep (fun k hk => hb.block k hk) t cs
theorem TreeC.weaken {w : World} {M M' : Nat → Prop} (hk : ∀ k, M k → M' k) : ∀ (t : Tree) (cs : List Value), TreeC w M t cs → TreeC w M' t cs := by
  refine Tree.ind ?_
  intro o l ih cs h
  rw [TreeC] at h ⊢
  obtain ⟨Ab, cb, Ak, ck, e, f, hl, hb, hr⟩ := h
  refine ⟨Ab, cb, Ak, ck, e, f, hl, hb.weaken hk, fun hne => ?_⟩
  obtain ⟨b, off, e, hm, hK⟩ := hr hne
  refine ⟨b, off, e, hk b hm, ?_⟩
  have go : ∀ (m : List Kid) (off : Nat), (∀ x ∈ m, x ∈ l) → KidsC w M b off m → KidsC w M' b off m := fun m => by
    induction m with
    | nil => intro off _ _; rw [KidsC]; trivial
    | cons x m ihm =>
      intro off hm2 h2
      rw [kidsC_cons] at h2 ⊢
      obtain ⟨⟨h3, h4, cs, h5, h6, h7⟩, h8⟩ := h2
      exact ⟨⟨h3, h4, cs, h5, h6, ih x (hm2 x (.head _)) cs h7⟩, ihm (off + 10) (fun y hy => hm2 y (.tail _ hy)) h8⟩
  exact go l off (fun _ h => h) hK

theorem treeC_of {H : Type} {enc : TypeId × Value → H} {w : World} {base : Nat} {held : Bool} : ∀ (fuel : Nat) (cs : List Value) (x : DataW H × List MemPlace),
    DataW.trod enc Try.prog w base (fun _ => true) held fuel 26 cs = some x → ∃ t, TreeC w (· < w.heap.size) t cs := by
  intro fuel
  induction fuel using Nat.strongRecOn with
  | _ fuel ih =>
  intro cs x h
  obtain ⟨xs, n, hn, _, hl, hx, hf⟩ := DataW.trod_struct Try.underlying26 h
  have hl : cs.length = 9 := hl.trans (by kernel_rfl)
  have hx : xs.length = 9 := hx.trans (by kernel_rfl)
  match cs, hl, xs, hx with
  | [c0, c1, c2, c3, c4, c5, c6, c7, c8], _, [x0, x1, x2, x3, x4, x5, x6, x7, x8], _ =>
    have g0 : DataW.trod enc Try.prog w base (fun _ => true) held n 3 [c0] = some x0 := fld_at hf 0 (ty := 3) (off := 0) (c := 1) rfl rfl rfl (by kernel_rfl)
    have g1 : DataW.trod enc Try.prog w base (fun _ => true) held n 22 [c1] = some x1 := fld_at hf 1 (ty := 22) (off := 1) (c := 1) rfl rfl rfl (by kernel_rfl)
    have g2 : DataW.trod enc Try.prog w base (fun _ => true) held n 22 [c2] = some x2 := fld_at hf 2 (ty := 22) (off := 2) (c := 1) rfl rfl rfl (by kernel_rfl)
    have g3 : DataW.trod enc Try.prog w base (fun _ => true) held n 22 [c3] = some x3 := fld_at hf 3 (ty := 22) (off := 3) (c := 1) rfl rfl rfl (by kernel_rfl)
    have g4 : DataW.trod enc Try.prog w base (fun _ => true) held n 9 [c4] = some x4 := fld_at hf 4 (ty := 9) (off := 4) (c := 1) rfl rfl rfl (by kernel_rfl)
    have g5 : DataW.trod enc Try.prog w base (fun _ => true) held n 9 [c5] = some x5 := fld_at hf 5 (ty := 9) (off := 5) (c := 1) rfl rfl rfl (by kernel_rfl)
    have g6 : DataW.trod enc Try.prog w base (fun _ => true) held n 3 [c6] = some x6 := fld_at hf 6 (ty := 3) (off := 6) (c := 1) rfl rfl rfl (by kernel_rfl)
    have g7 : DataW.trod enc Try.prog w base (fun _ => true) held n 23 [c7] = some x7 := fld_at hf 7 (ty := 23) (off := 7) (c := 1) rfl rfl rfl (by kernel_rfl)
    have g8 : DataW.trod enc Try.prog w base (fun _ => true) held n 24 [c8] = some x8 := fld_at hf 8 (ty := 24) (off := 8) (c := 1) rfl rfl rfl (by kernel_rfl)
    clear hf
    obtain ⟨kd, e0, _, w0⟩ := DataW.trod_int Try.underlying3 g0
    obtain ⟨b1, e1, _, w1⟩ := DataW.trod_int Try.underlying22 g1
    obtain ⟨b2, e2, _, w2⟩ := DataW.trod_int Try.underlying22 g2
    obtain ⟨b3, e3, _, w3⟩ := DataW.trod_int Try.underlying22 g3
    obtain ⟨s4, e4, _, w4⟩ := DataW.trod_string Try.underlying9 g4
    obtain ⟨s5, e5, _, w5⟩ := DataW.trod_string Try.underlying9 g5
    obtain ⟨sb, e6, _, w6⟩ := DataW.trod_int Try.underlying3 g6
    simp only [List.cons.injEq, and_true] at e0 e1 e2 e3 e4 e5 e6
    subst e0 e1 e2 e3 e4 e5 e6
    have r0 := Go.bounds_i64 w0
    have r6 := Go.bounds_i64 w6
    obtain ⟨n1, k1, rfl⟩ := nat_u64' w1
    obtain ⟨n2, k2, rfl⟩ := nat_u64' w2
    obtain ⟨n3, k3, rfl⟩ := nat_u64' w3
    obtain ⟨Ab, nb, cb, bs, rfl, hB, hbl⟩ := bytes_of g7
    have mk : ∀ (Ak : Option Addr) (ck : Nat) (l : List Kid), (l.length ≤ maxLen ∧ l.length ≤ ck) → (l ≠ [] → ∃ b off, Ak = some ⟨b, off, none⟩ ∧ b < w.heap.size ∧ KidsC w (· < w.heap.size) b off l) → c8 = .slice Ak l.length ck →
        ∃ t, TreeC w (· < w.heap.size) t [.int .i64 kd, .int .u64 (n1 : Int), .int .u64 (n2 : Int), .int .u64 (n3 : Int), .string s4, .string s5, .int .i64 sb, .slice Ab nb cb, c8] := fun Ak ck l hlm hK hc => by
      refine ⟨.node ⟨kd, n1, n2, n3, s4.data.toList, s5.data.toList, sb, bs⟩ l, ?_⟩
      rw [TreeC]
      have hb1 := hB.1
      subst hb1
      refine ⟨Ab, cb, Ak, ck, by rw [hc]; rfl, ⟨r0.1, r0.2, k1, k2, k3, r6.1, r6.2, ?_, ?_, hbl⟩, hlm, hB, hK⟩
      · rw [Array.length_toList]; exact w4
      · rw [Array.length_toList]; exact w5
    rcases DataW.trod_slice Try.underlying24 g8 with ⟨hc, _⟩ | ⟨a, len, cap, elems, rest, m, hm, hc, _, _, hlc, hcm, hel, hget, _, _⟩
    · simp only [List.cons.injEq, and_true] at hc
      exact mk none 0 [] ⟨Nat.zero_le _, Nat.zero_le _⟩ (fun h => absurd rfl h) hc
    · simp only [List.cons.injEq, and_true] at hc
      rcases Nat.eq_zero_or_pos len with h0 | h0
      · subst h0
        exact mk (some a) cap [] ⟨Nat.zero_le _, Nat.zero_le _⟩ (fun h => absurd rfl h) hc
      have e10 : Try.prog.cellsOf 46 = 10 := by kernel_rfl
      have hz0 : ∃ v, w.cell? a = some v := by
        have q := hget 0 h0
        rw [List.getElem?_eq_getElem (by omega), e10] at q
        obtain ⟨cs', q1, _⟩ := Option.bind_eq_some_iff.1 q
        obtain ⟨_, hl', hcell⟩ := World.cells?_some q1
        have := hcell 0 (by decide)
        rw [List.getElem?_eq_getElem (by omega)] at this
        exact ⟨_, by simpa [Addr.add] using this⟩
      obtain ⟨v0, hv0⟩ := hz0
      have hlt := World.block_lt_of_cell? w _ hv0
      have ha := addr_none hv0
      obtain ⟨ab, ao, asp⟩ := a
      simp only [Addr.mk.injEq, true_and] at ha
      subst ha
      have each : ∀ i, i < len → ∃ y : Kid, KidC w (· < w.heap.size) ab (ao + i * 10) y := by
        intro i hi
        have q := hget i hi
        rw [List.getElem?_eq_getElem (by omega), e10, Addr.add_lit] at q
        obtain ⟨cs', q1, q2⟩ := Option.bind_eq_some_iff.1 q
        obtain ⟨_, hl', hcell⟩ := World.cells?_some q1
        simp only [Addr.add_lit] at hcell
        obtain ⟨ys, k, hk, _, _, hy, hf'⟩ := DataW.trod_struct Try.underlying46 q2
        have hy : ys.length = 2 := hy.trans (by kernel_rfl)
        match ys, hy with
        | [y0, y1], _ =>
          have u0 : DataW.trod enc Try.prog w base (fun _ => true) held k 9 (List.take 1 (List.drop 0 cs')) = some y0 := fld_at hf' 0 (ty := 9) (off := 0) (c := 1) rfl rfl rfl (by kernel_rfl)
          have u1 : DataW.trod enc Try.prog w base (fun _ => true) held k 26 (List.take 9 (List.drop 1 cs')) = some y1 := fld_at hf' 1 (ty := 26) (off := 1) (c := 9) rfl rfl rfl (by kernel_rfl)
          obtain ⟨s, es, _, ws⟩ := DataW.trod_string Try.underlying9 u0
          obtain ⟨t, ht⟩ := ih k (by omega) _ _ u1
          have ec : cs'[0]? = some (.string s) := by
            have : (List.take 1 (List.drop 0 cs'))[0]? = some (Value.string s) := by rw [es]; rfl
            rw [List.getElem?_take, if_pos (by decide), List.getElem?_drop] at this
            exact this
          refine ⟨(s.data.toList, t), ⟨?_, ?_, _, ?_, ?_, ht⟩⟩
          · exact (hcell 0 (by decide)).trans ec
          · rw [Array.length_toList]; exact ws
          · rw [List.length_take, List.length_drop]; omega
          · intro j hj
            rw [show ao + i * 10 + 1 + j = ao + i * 10 + (1 + j) by omega, hcell (1 + j) (by omega), List.getElem?_take, if_pos hj, List.getElem?_drop]
      obtain ⟨l, hll, hK⟩ := kidsC_of (w := w) (M := (· < w.heap.size)) (b := ab) len ao each
      exact mk _ cap l ⟨by omega, by omega⟩ (fun _ => ⟨ab, ao, rfl, hlt, hK⟩) (by rw [hc, hll])
theorem TreeC.at_ {w : World} {M : Nat → Prop} : ∀ (t : Tree) (cs : List Value), TreeC w M t cs → TreeAt w M t cs := by
  refine Tree.ind ?_
  intro o l ih cs h
  rw [TreeC] at h
  rw [TreeAt]
  obtain ⟨Ab, cb, Ak, ck, e, f, hl, hb, hr⟩ := h
  refine ⟨Ab, cb, Ak, ck, e, f, hl.1, hb, fun hne => ?_⟩
  obtain ⟨b, off, e, hm, hK⟩ := hr hne
  refine ⟨b, off, e, hm, ?_⟩
  have go : ∀ (m : List Kid) (off : Nat), (∀ x ∈ m, x ∈ l) → KidsC w M b off m → KidsAt w M b off m := fun m => by
    induction m with
    | nil => intro off _ _; rw [KidsAt]; trivial
    | cons x m ihm =>
      intro off hm2 h2
      rw [kidsC_cons] at h2
      rw [kids_cons]
      obtain ⟨⟨h3, h4, cs, h5, h6, h7⟩, h8⟩ := h2
      exact ⟨⟨h3, h4, cs, h5, h6, ih x (hm2 x (.head _)) cs h7⟩, ihm (off + 10) (fun y hy => hm2 y (.tail _ hy)) h8⟩
  exact go l off (fun _ h => h) hK
/-- What a document is told by, its rows' room, too. -/
theorem valueC_of {H : Type} {enc : TypeId × Value → H} {w : World} {base : Nat} {held : Bool} {r : Reach} {b0 : Nat} {v : Value} {d : DataW H} {p : List MemPlace}
    (hv : Value.okWide Try.prog w r b0 26 v) (h : DataW.Trod enc Try.prog w base (fun _ => true) held 26 v d p) :
    ∃ (t : Tree) (cs : List Value), v = .agg cs.toArray ∧ TreeC w (· < w.heap.size) t cs := by
  obtain ⟨cs, rfl, _⟩ := okWide_struct Try.underlying26 hv
  obtain ⟨fuel, hf⟩ := h
  obtain ⟨t, ht⟩ := treeC_of fuel _ _ hf
  exact ⟨t, cs.toList, by simp, ht⟩
end Go.Proofs.Ytmkgcifcfgfegaa
