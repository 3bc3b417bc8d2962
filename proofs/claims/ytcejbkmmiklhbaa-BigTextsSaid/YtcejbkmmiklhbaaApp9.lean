/-
  append onto an own row where the two slices' types differ; own rows of bytes. No condition beyond what each lemma asks.
-/
import Derived.Test.YtcejbkmmiklhbaaParse9
namespace Go.Proofs.Ytcejbkmmiklhbaa
open Go.RowKit

theorem append_types {P : Program} (w : World) (t t2 ty e : TypeId) (ht : P.underlying t = some (.slice e)) (ht2 : P.underlying t2 = some (.slice e)) (A : Option Addr) (n k : Nat) (x : Value) :
    (Builtin.append_ #[t, t2] ty #[.slice A n k, x]).run P w = (Builtin.append_ #[t, t] ty #[.slice A n k, x]).run P w := by
  unfold Builtin.append_
  simp [run_underlying ht, run_underlying ht2]

theorem wpList_append_types {P : Program} (w : World) {ops : Array Oper} {rest : List Oper} {o : Oper} {a : Act} {Q : Exit → Act → World → Prop} (hgd : o.guard = none) (s x : Operand) (t t2 : TypeId)
    (ho : o.op = .call { callee := .builtin .append, args := #[s, x], argTypes := #[t, t2] })
    (base : Nat) (e : TypeId) (i : TypeInfo) (z : Value) (bytes : Nat) (ht : P.underlying t = some (.slice e)) (ht2 : P.underlying t2 = some (.slice e)) (hi : P.info? e = some i) (hz : i.zero = some z)
    (hsize : i.size = 1) (hby : i.bytes = bytes) (hzs : z.cells.size = 1) (v : Value) (n : Nat) (xs : List Value) (hs : a.eval s = v) (hown : w.ownsRow base e 1 v n xs)
    (A : Option Addr) (m c : Nat) (news : List Value) (hx : a.eval x = .slice A m c) (hl : news.length = m) (hpos : 0 < m → ∃ ad, A = some ad ∧ ∀ j u, news[j]? = some u → w.cell? (ad.add j) = some u) (h1 : ∀ u ∈ news, u.oneCell' = true)
    (h63 : n + m ≤ maxLen) (hbytes : (n + m) * bytes ≤ 140737488355328) (hbase : base ≤ w.heap.size)
    (h : ∀ A' c' w', Hid (w'.ownsRow base e 1 (.slice A' (n + m) c') (n + m) (xs ++ news)) → w.grownBy w' v.ownBlock → Hid ((Value.slice A' (n + m) c').ownBlock = v.ownBlock ∨ (Value.slice A' (n + m) c').ownBlock = some w.heap.size) →
      wpList P ops Q rest (a.put o.dst (.slice A' (n + m) c')) w') : wpList P ops Q (o :: rest) a w := by
  refine wpList_plain hgd fun K hK => ?_
  obtain ⟨A0, c0, rfl⟩ := own_form hown
  obtain ⟨v', w', hr, h2, h3, h5⟩ := run_append_held (P := P) w base t o.type e i z bytes ht hi hz hsize hby hzs _ n xs hown A m c news hl hpos h1 h63 hbytes hbase
  rw [← append_types w t t2 o.type e ht ht2] at hr
  unfold Oper.wp execOp
  simp only [ho, resolve, invoke, builtin, Sem.run_bind, Sem.run_pure, Result.andThen_ok, List.map_toArray, List.map_cons, List.map_nil, hs, hx, hr]
  obtain ⟨A', c', rfl⟩ := own_form h2
  exact hK _ _ (h A' c' w' (show Hid _ from h2) h3 (show Hid _ from h5))

theorem info_u8 : (Try.prog.info? 5).map (fun i => (i.zero, i.size, i.bytes)) = some (some (.int .u8 0), 1, 1) := by kernel_rfl
theorem own_other {w : World} {base n : Nat} {e : TypeId} {v : Value} {zs : List Value} (h : w.ownsRow base e 1 v n zs) {a : Addr} (ha : a.block < base) (x : Value) : (w.setCell a x).ownsRow base e 1 v n zs := by
  refine ⟨h.1, ?_⟩
  rcases h.2 with h0 | ⟨g, cap, cur, e1, hb, hg, h2⟩
  · exact .inl h0
  · exact .inr ⟨g, cap, cur, e1, hb, (Below.heap_setCell w a x g (by omega)).trans hg, h2⟩
/-- A row of the call's own, as a block. -/
theorem own_block {w : World} {base n c : Nat} {e : TypeId} {A : Option Addr} {L : List Value} (h : w.ownsRow base e 1 (.slice A n c) n L) (h0 : 0 < n) :
    ∃ g post, A = some ⟨g, 0, none⟩ ∧ base ≤ g ∧ Row w g e (L ++ post) ∧ L.length = n := by
  rcases h.2 with ⟨_, e⟩ | ⟨g, cap, cur, e, hb, hg, hnc, hm, hs, ht⟩
  · omega
  · injection e with e1 e2 e3
    have ht' : cur.toList.take n = L := by simpa using ht
    refine ⟨g, cur.toList.drop n, e1, hb, ?_, by have := h.1; omega⟩
    rw [← ht', List.take_append_drop]
    exact hg

/-- A list, the first i and the last i of which are turned. -/
def turned9 (s : List UInt8) (i : Nat) : List UInt8 := (List.range s.length).map fun t => if t < i ∨ s.length - 1 - t < i then s.getD (s.length - 1 - t) 0 else s.getD t 0
theorem turned9_length (s : List UInt8) (i : Nat) : (turned9 s i).length = s.length := by simp [turned9]
theorem turned9_get (s : List UInt8) (i t : Nat) (h : t < s.length) : (turned9 s i).getD t 0 = if t < i ∨ s.length - 1 - t < i then s.getD (s.length - 1 - t) 0 else s.getD t 0 := by
  unfold turned9
  rw [List.getD_eq_getElem?_getD, List.getElem?_map, List.getElem?_range h]
  rfl
theorem list_same {l m : List UInt8} (h : l.length = m.length) (hg : ∀ t, t < l.length → l.getD t 0 = m.getD t 0) : l = m := by
  apply List.ext_getElem h
  intro t h1 h2
  have := hg t h1
  simpa [List.getD, h1, h2] using this
theorem turned9_zero (s : List UInt8) : turned9 s 0 = s := by
  apply list_same (turned9_length s 0)
  intro t ht
  rw [turned9_length] at ht
  rw [turned9_get s 0 t ht, if_neg (by omega)]
theorem turned9_end (s : List UInt8) (n : Nat) (hn : n = s.length / 2) : turned9 s n = s.reverse := by
  apply list_same (by rw [turned9_length, List.length_reverse])
  intro t ht
  rw [turned9_length] at ht
  have hr : s.reverse.getD t 0 = s.getD (s.length - 1 - t) 0 := by
    have h1 : s.length - 1 - t < s.length := by omega
    simp [List.getD, h1, ht]
  rw [turned9_get s n t ht, hr]
  split
  · rfl
  · next h =>
    have : t = s.length - 1 - t := by omega
    rw [← this]
theorem turned9_next (s : List UInt8) (i j : Nat) (hj : j = s.length - 1 - i) (hi : i < s.length / 2) : ((turned9 s i).set i (s.getD j 0)).set j (s.getD i 0) = turned9 s (i + 1) := by
  apply list_same (by rw [List.length_set, List.length_set, turned9_length, turned9_length])
  intro t ht
  rw [List.length_set, List.length_set, turned9_length] at ht
  rw [turned9_get s (i + 1) t ht]
  by_cases h1 : t = j
  · subst h1
    rw [if_pos (by omega), show s.length - 1 - t = i by omega]
    simp [List.getD, turned9_length, ht]
  · by_cases h2 : t = i
    · subst h2
      rw [if_pos (by omega), ← hj]
      simp [List.getD, turned9_length, ht, show ¬ j = t by omega]
    · have h3 : (((turned9 s i).set i (s.getD j 0)).set j (s.getD i 0)).getD t 0 = (turned9 s i).getD t 0 := by
        simp only [List.getD, List.getElem?_set_ne (show j ≠ t by omega), List.getElem?_set_ne (show i ≠ t by omega)]
      rw [h3, turned9_get s i t ht]
      have h4 : (t < i ∨ s.length - 1 - t < i) ↔ (t < i + 1 ∨ s.length - 1 - t < i + 1) := by omega
      simp only [h4]
theorem cells_set (bs : List UInt8) (i : Nat) (c : UInt8) : (cellsOf bs).set i (.int .u8 (c.toNat : Int)) = cellsOf (bs.set i c) := by simp [cellsOf, List.map_set]

end Go.Proofs.Ytcejbkmmiklhbaa
