/-
  A chain of tests ('a || b || ..') in one region, each test by itself, in a frame that is a variable; no condition but what each law says.
-/
import Derived.Great.Frames
import Derived.BigFrame
import Derived.Lib.Hide
namespace Go.Proofs.YtfpocpmcoobjkaaDoor

section
variable {P : Program} {ops : Array Oper} {Q : Exit → Act → World → Prop} {a : Act} {w : World} {o : Oper} {rest : List Oper}

theorem name_frame {l : List Oper} (h : ∀ A, A = a → wpList P ops Q l A w) : wpList P ops Q l a w := h a rfl
theorem name_ops {l : List Oper} (h : ∀ O, O = ops → wpList P O Q l a w) : wpList P ops Q l a w := h ops rfl

theorem tmp_at {m : Nat} {v : Value} (hv : a.eval (.tmp m) = v) (hs : m < a.tmps.size) : a.tmps[m]? = some v := by
  rw [← hv]
  simp [Act.eval, Array.getD, hs]
theorem want_yes {g m : Nat} {b : Bool} (hg : o.guard = some (g, b)) (hm : (ops[g]?).bind (·.dst) = some m) (hv : a.eval (.tmp m) = .bool b) (hs : m < a.tmps.size) : Region.wanted o (yielded ops a.tmps) = true := by
  have h := tmp_at hv hs
  simp [Region.wanted, yielded, hg, hm, h]
theorem want_no {g m : Nat} {b : Bool} (hg : o.guard = some (g, b)) (hm : (ops[g]?).bind (·.dst) = some m) (hv : a.eval (.tmp m) = .bool (!b)) (hs : m < a.tmps.size) : Region.wanted o (yielded ops a.tmps) = false := by
  have h := tmp_at hv hs
  cases b <;> simp [Region.wanted, yielded, hg, hm, h]
theorem want_free (hg : o.guard = none) : Region.wanted o (yielded ops a.tmps) = true := by simp [Region.wanted, hg]

theorem chain_skip (hw : Region.wanted o (yielded ops a.tmps) = false) (h : wpList P ops Q rest (a.put o.dst undef) w) : wpList P ops Q (o :: rest) a w := by
  unfold wpList
  rw [if_neg (by rw [hw]; decide)]
  exact h
theorem chain_move (hw : Region.wanted o (yielded ops a.tmps) = true) {x : Operand} (ho : o.op = .move x) (h : wpList P ops Q rest (a.put o.dst (a.eval x)) w) : wpList P ops Q (o :: rest) a w :=
  BigFrame.wpList_want hw fun _ hK => BigFrame.wp_move x ho (hK _ _ h)
theorem chain_value (hw : Region.wanted o (yielded ops a.tmps) = true) {v : Value} (ho : (execOp a.eval o).run P w = .ok (.value v) w) (h : wpList P ops Q rest (a.put o.dst v) w) : wpList P ops Q (o :: rest) a w :=
  BigFrame.wpList_want hw fun _ hK => by
    unfold Oper.wp
    rw [ho]
    exact hK _ _ h
theorem chain_pick (hg : o.guard = none) {c x y : Operand} {b : Bool} {v : Value} (ho : o.op = .pick c x y) (hb : a.eval c = .bool b) (hv : (if b = true then a.eval x else a.eval y) = v) (h : wpList P ops Q rest (a.put o.dst v) w) : wpList P ops Q (o :: rest) a w := by
  refine chain_value (v := v) (want_free hg) ?_ h
  rw [← hv]
  generalize a.eval = ρ at *
  unfold execOp
  cases b <;> simp [go_sem, ho, hb]
theorem chain_call (hw : Region.wanted o (yielded ops a.tmps) = true) {f : FuncId} {args : Array Value} {v : Value} (ho : (execOp a.eval o).run P w = .ok (.enter f args) w) (hc : Calls P f args w fun e w' => e = .returned v ∧ w' = w)
    (h : wpList P ops Q rest (a.put o.dst v) w) : wpList P ops Q (o :: rest) a w :=
  BigFrame.wpList_want hw fun _ hK => by
    unfold Oper.wp
    rw [ho, Oper.upon_enter]
    refine hc.mono ?_
    rintro e w' ⟨rfl, rfl⟩
    exact hK _ _ h

/-- What is kept of a frame: its size, its deferred calls, the slots below n. -/
structure Keeps (n : Nat) (A a : Act) : Prop where
  size : a.tmps.size = A.tmps.size
  defers : a.defers = A.defers
  low : ∀ j, j < n → a.eval (.tmp j) = A.eval (.tmp j)
theorem Keeps.refl (n : Nat) (A : Act) : Keeps n A A := ⟨rfl, rfl, fun _ _ => rfl⟩
theorem Keeps.put {n : Nat} {A a : Act} (h : Keeps n A a) {d : Nat} (hd : n ≤ d) (v : Value) : Keeps n A (a.put (some d) v) :=
  ⟨by rw [Act.size_put]; exact h.size, by rw [Act.defers_put']; exact h.defers, fun j hj => by rw [Act.eval_put_ne _ _ _ _ (by omega)]; exact h.low j hj⟩
theorem Keeps.putT {n : Nat} {A a : Act} (h : Keeps n A a) {d : Nat} {t : Option Tmp} (ht : t = some d) (hd : n ≤ d) (v : Value) : Keeps n A (a.put t v) := by subst ht; exact h.put hd v
theorem at_same {a : Act} {d : Nat} {t : Option Tmp} (ht : t = some d) (hs : d < a.tmps.size) (v : Value) : (a.put t v).eval (.tmp d) = v := by subst ht; exact Act.eval_put_same a d v hs
theorem at_other {a : Act} {d j : Nat} {t : Option Tmp} (ht : t = some d) (hj : d ≠ j) (v : Value) : (a.put t v).eval (.tmp j) = a.eval (.tmp j) := by subst ht; exact Act.eval_put_ne a d j v hj
theorem size_put' (a : Act) (t : Option Tmp) (v : Value) : (a.put t v).tmps.size = a.tmps.size := Act.size_put a t v
theorem frame_split {n k : Nat} {A a : Act} (K : Keeps n A a) (hk : A.tmps.size = n + k) : a = ⟨(A.tmps.toList.take n ++ (List.range' n k).map fun j => a.eval (.tmp j)).toArray, A.defers⟩ := by
  have hs := K.size.trans hk
  have e : a.tmps = (A.tmps.toList.take n ++ (List.range' n k).map fun j => a.eval (.tmp j)).toArray := by
    apply Array.ext
    · rw [hs]; simp [hk]
    · intro i h1 _
      have h3 : i < n + k := by omega
      have e1 : a.tmps[i] = a.eval (.tmp i) := by simp [Act.eval, Array.getD, h1]
      rw [e1]
      rw [List.getElem_toArray]
      by_cases q : i < n
      · rw [List.getElem_append_left (by rw [List.length_take, Array.length_toList]; omega), K.low i q]
        have h4 : i < A.tmps.size := by omega
        simp [Act.eval, Array.getD, h4]
      · rw [List.getElem_append_right (by rw [List.length_take, Array.length_toList]; omega)]
        have hl : (A.tmps.toList.take n).length = n := by rw [List.length_take, Array.length_toList]; omega
        rw [List.getElem_map, List.getElem_range']
        exact congrArg (fun j => a.eval (.tmp j)) (show i = n + 1 * (i - (A.tmps.toList.take n).length) by rw [hl]; omega)
  cases a with
  | mk t d =>
    have e2 : d = A.defers := K.defers
    subst e2
    exact congrArg (fun t => (⟨t, A.defers⟩ : Act)) e

/-- The first test, by two operations (an index, a comparison). -/
theorem chain3 {n : Nat} {o1 o2 o3 : Oper} {p x : Nat} {r : Bool} {y : Value} (hn : n ≤ p) (hp : p + 2 < a.tmps.size)
    (h1 : o1.op = .move (.tmp x)) (d1 : o1.dst = some p) (g1 : o1.guard = none) (d2 : o2.dst = some (p + 1)) (g2 : o2.guard = none) (d3 : o3.dst = some (p + 2)) (g3 : o3.guard = none)
    (e2 : ∀ f : Act, f.eval (.tmp p) = a.eval (.tmp x) → (execOp f.eval o2).run P w = .ok (.value y) w) (e3 : ∀ f : Act, f.eval (.tmp (p + 1)) = y → (execOp f.eval o3).run P w = .ok (.value (.bool r)) w)
    (next : ∀ a', Keeps n a a' → a'.eval (.tmp (p + 2)) = .bool r → wpList P ops Q rest a' w) : wpList P ops Q (o1 :: o2 :: o3 :: rest) a w := by
  refine chain_move (want_free g1) h1 ?_
  have K1 := (Keeps.refl n a).putT d1 (by omega) (a.eval (.tmp x))
  have F1 : (a.put o1.dst (a.eval (.tmp x))).eval (.tmp p) = a.eval (.tmp x) := at_same d1 (by omega) _
  generalize a.put o1.dst (a.eval (.tmp x)) = a1 at *
  refine chain_value (want_free g2) (e2 a1 F1) ?_
  have K2 := K1.putT d2 (by omega) y
  have F2 : (a1.put o2.dst y).eval (.tmp (p + 1)) = y := at_same d2 (by rw [K1.size]; omega) _
  generalize a1.put o2.dst y = a2 at *
  refine chain_value (want_free g3) (e3 a2 F2) ?_
  exact next _ (K2.putT d3 (by omega) _) (at_same d3 (by rw [K2.size]; omega) _)

/-- One test more that looks at one slot, by two operations (an index, a comparison). -/
theorem chain5 {n : Nat} {A : Act} (K : Keeps n A a) {o1 o2 o3 o4 o5 : Oper} {p g x : Nat} {v r : Bool} {y : Value} (hn : n ≤ p) (hx : x < n) (hp : p + 5 < A.tmps.size) (hv : a.eval (.tmp p) = .bool v)
    (h1 : o1.op = .move (.tmp p)) (d1 : o1.dst = some (p + 1)) (g1 : o1.guard = none) (h2 : o2.op = .move (.tmp x)) (d2 : o2.dst = some (p + 2)) (g2 : o2.guard = some (g, false))
    (d3 : o3.dst = some (p + 3)) (g3 : o3.guard = some (g, false)) (d4 : o4.dst = some (p + 4)) (g4 : o4.guard = some (g, false))
    (h5 : o5.op = .pick (.tmp (p + 1)) (.const (.bool true)) (.tmp (p + 4))) (d5 : o5.dst = some (p + 5)) (g5 : o5.guard = none) (hm : (ops[g]?).bind (·.dst) = some (p + 1))
    (e3 : ∀ f : Act, f.eval (.tmp (p + 2)) = A.eval (.tmp x) → (execOp f.eval o3).run P w = .ok (.value y) w) (e4 : ∀ f : Act, f.eval (.tmp (p + 3)) = y → (execOp f.eval o4).run P w = .ok (.value (.bool r)) w)
    (next : ∀ a', Keeps n A a' → a'.eval (.tmp (p + 5)) = .bool (v || r) → wpList P ops Q rest a' w) : wpList P ops Q (o1 :: o2 :: o3 :: o4 :: o5 :: rest) a w := by
  refine chain_move (want_free g1) h1 ?_
  rw [hv]
  have K1 := K.putT d1 (by omega) (.bool v)
  have E1 : (a.put o1.dst (.bool v)).eval (.tmp (p + 1)) = .bool v := at_same d1 (by rw [K.size]; omega) _
  generalize a.put o1.dst (.bool v) = a1 at *
  cases v with
  | true =>
    refine chain_skip (want_no g2 hm E1 (by rw [K1.size]; omega)) ?_
    have K2 := K1.putT d2 (by omega) undef
    have E2 := (at_other (a := a1) d2 (by omega) undef).trans E1
    generalize a1.put o2.dst undef = a2 at *
    refine chain_skip (want_no g3 hm E2 (by rw [K2.size]; omega)) ?_
    have K3 := K2.putT d3 (by omega) undef
    have E3 := (at_other (a := a2) d3 (by omega) undef).trans E2
    generalize a2.put o3.dst undef = a3 at *
    refine chain_skip (want_no g4 hm E3 (by rw [K3.size]; omega)) ?_
    have K4 := K3.putT d4 (by omega) undef
    have E4 := (at_other (a := a3) d4 (by omega) undef).trans E3
    generalize a3.put o4.dst undef = a4 at *
    refine chain_pick (v := .bool true) g5 h5 E4 rfl ?_
    exact next _ (K4.putT d5 (by omega) _) (at_same d5 (by rw [K4.size]; omega) _)
  | false =>
    refine chain_move (want_yes g2 hm E1 (by rw [K1.size]; omega)) h2 ?_
    have K2 := K1.putT d2 (by omega) (a1.eval (.tmp x))
    have E2 := (at_other (a := a1) d2 (by omega) (a1.eval (.tmp x))).trans E1
    have F2 : (a1.put o2.dst (a1.eval (.tmp x))).eval (.tmp (p + 2)) = A.eval (.tmp x) := by rw [at_same d2 (by rw [K1.size]; omega)]; exact K1.low x hx
    generalize a1.put o2.dst (a1.eval (.tmp x)) = a2 at *
    refine chain_value (want_yes g3 hm E2 (by rw [K2.size]; omega)) (e3 a2 F2) ?_
    have K3 := K2.putT d3 (by omega) y
    have E3 := (at_other (a := a2) d3 (by omega) y).trans E2
    have F3 : (a2.put o3.dst y).eval (.tmp (p + 3)) = y := at_same d3 (by rw [K2.size]; omega) _
    generalize a2.put o3.dst y = a3 at *
    refine chain_value (want_yes g4 hm E3 (by rw [K3.size]; omega)) (e4 a3 F3) ?_
    have K4 := K3.putT d4 (by omega) (.bool r)
    have E4 := (at_other (a := a3) d4 (by omega) (.bool r)).trans E3
    have F4 : (a3.put o4.dst (.bool r)).eval (.tmp (p + 4)) = .bool r := at_same d4 (by rw [K3.size]; omega) _
    generalize a3.put o4.dst (.bool r) = a4 at *
    refine chain_pick (v := .bool r) g5 h5 E4 F4 ?_
    exact next _ (K4.putT d5 (by omega) _) (at_same d5 (by rw [K4.size]; omega) _)

/-- One test more that looks at one slot, by one operation (a comparison). -/
theorem chain4 {n : Nat} {A : Act} (K : Keeps n A a) {o1 o2 o3 o4 : Oper} {p g x : Nat} {v r : Bool} (hn : n ≤ p) (hx : x < n) (hp : p + 4 < A.tmps.size) (hv : a.eval (.tmp p) = .bool v)
    (h1 : o1.op = .move (.tmp p)) (d1 : o1.dst = some (p + 1)) (g1 : o1.guard = none) (h2 : o2.op = .move (.tmp x)) (d2 : o2.dst = some (p + 2)) (g2 : o2.guard = some (g, false))
    (d3 : o3.dst = some (p + 3)) (g3 : o3.guard = some (g, false))
    (h4 : o4.op = .pick (.tmp (p + 1)) (.const (.bool true)) (.tmp (p + 3))) (d4 : o4.dst = some (p + 4)) (g4 : o4.guard = none) (hm : (ops[g]?).bind (·.dst) = some (p + 1))
    (e3 : ∀ f : Act, f.eval (.tmp (p + 2)) = A.eval (.tmp x) → (execOp f.eval o3).run P w = .ok (.value (.bool r)) w)
    (next : ∀ a', Keeps n A a' → a'.eval (.tmp (p + 4)) = .bool (v || r) → wpList P ops Q rest a' w) : wpList P ops Q (o1 :: o2 :: o3 :: o4 :: rest) a w := by
  refine chain_move (want_free g1) h1 ?_
  rw [hv]
  have K1 := K.putT d1 (by omega) (.bool v)
  have E1 : (a.put o1.dst (.bool v)).eval (.tmp (p + 1)) = .bool v := at_same d1 (by rw [K.size]; omega) _
  generalize a.put o1.dst (.bool v) = a1 at *
  cases v with
  | true =>
    refine chain_skip (want_no g2 hm E1 (by rw [K1.size]; omega)) ?_
    have K2 := K1.putT d2 (by omega) undef
    have E2 := (at_other (a := a1) d2 (by omega) undef).trans E1
    generalize a1.put o2.dst undef = a2 at *
    refine chain_skip (want_no g3 hm E2 (by rw [K2.size]; omega)) ?_
    have K3 := K2.putT d3 (by omega) undef
    have E3 := (at_other (a := a2) d3 (by omega) undef).trans E2
    generalize a2.put o3.dst undef = a3 at *
    refine chain_pick (v := .bool true) g4 h4 E3 rfl ?_
    exact next _ (K3.putT d4 (by omega) _) (at_same d4 (by rw [K3.size]; omega) _)
  | false =>
    refine chain_move (want_yes g2 hm E1 (by rw [K1.size]; omega)) h2 ?_
    have K2 := K1.putT d2 (by omega) (a1.eval (.tmp x))
    have E2 := (at_other (a := a1) d2 (by omega) (a1.eval (.tmp x))).trans E1
    have F2 : (a1.put o2.dst (a1.eval (.tmp x))).eval (.tmp (p + 2)) = A.eval (.tmp x) := by rw [at_same d2 (by rw [K1.size]; omega)]; exact K1.low x hx
    generalize a1.put o2.dst (a1.eval (.tmp x)) = a2 at *
    refine chain_value (want_yes g3 hm E2 (by rw [K2.size]; omega)) (e3 a2 F2) ?_
    have K3 := K2.putT d3 (by omega) (.bool r)
    have E3 := (at_other (a := a2) d3 (by omega) (.bool r)).trans E2
    have F3 : (a2.put o3.dst (.bool r)).eval (.tmp (p + 3)) = .bool r := at_same d3 (by rw [K2.size]; omega) _
    generalize a2.put o3.dst (.bool r) = a3 at *
    refine chain_pick (v := .bool r) g4 h4 E3 F3 ?_
    exact next _ (K3.putT d4 (by omega) _) (at_same d4 (by rw [K3.size]; omega) _)

/-- One test more that holds a slot against what a call answers to two others. -/
theorem chain7 {n : Nat} {A : Act} (K : Keeps n A a) {o1 o2 o3 o4 o5 o6 o7 : Oper} {p g x1 x2 x3 : Nat} {v r : Bool} {f : FuncId} {args : Array Value} {y : Value} (hn : n ≤ p) (hx1 : x1 < n) (hx2 : x2 < n) (hx3 : x3 < n) (hp : p + 7 < A.tmps.size) (hv : a.eval (.tmp p) = .bool v)
    (h1 : o1.op = .move (.tmp p)) (d1 : o1.dst = some (p + 1)) (g1 : o1.guard = none) (h2 : o2.op = .move (.tmp x1)) (d2 : o2.dst = some (p + 2)) (g2 : o2.guard = some (g, false))
    (h3 : o3.op = .move (.tmp x2)) (d3 : o3.dst = some (p + 3)) (g3 : o3.guard = some (g, false)) (h4 : o4.op = .move (.tmp x3)) (d4 : o4.dst = some (p + 4)) (g4 : o4.guard = some (g, false))
    (d5 : o5.dst = some (p + 5)) (g5 : o5.guard = some (g, false)) (d6 : o6.dst = some (p + 6)) (g6 : o6.guard = some (g, false))
    (h7 : o7.op = .pick (.tmp (p + 1)) (.const (.bool true)) (.tmp (p + 6))) (d7 : o7.dst = some (p + 7)) (g7 : o7.guard = none) (hm : (ops[g]?).bind (·.dst) = some (p + 1))
    (e5 : ∀ F : Act, F.eval (.tmp (p + 3)) = A.eval (.tmp x2) → F.eval (.tmp (p + 4)) = A.eval (.tmp x3) → (execOp F.eval o5).run P w = .ok (.enter f args) w) (hc : v = false → Calls P f args w fun e w' => e = .returned y ∧ w' = w)
    (e6 : ∀ F : Act, F.eval (.tmp (p + 2)) = A.eval (.tmp x1) → F.eval (.tmp (p + 5)) = y → (execOp F.eval o6).run P w = .ok (.value (.bool r)) w)
    (next : ∀ a', Keeps n A a' → a'.eval (.tmp (p + 7)) = .bool (v || r) → wpList P ops Q rest a' w) : wpList P ops Q (o1 :: o2 :: o3 :: o4 :: o5 :: o6 :: o7 :: rest) a w := by
  refine chain_move (want_free g1) h1 ?_
  rw [hv]
  have K1 := K.putT d1 (by omega) (.bool v)
  have E1 : (a.put o1.dst (.bool v)).eval (.tmp (p + 1)) = .bool v := at_same d1 (by rw [K.size]; omega) _
  generalize a.put o1.dst (.bool v) = a1 at *
  cases v with
  | true =>
    refine chain_skip (want_no g2 hm E1 (by rw [K1.size]; omega)) ?_
    have K2 := K1.putT d2 (by omega) undef
    have E2 := (at_other (a := a1) d2 (by omega) undef).trans E1
    generalize a1.put o2.dst undef = a2 at *
    refine chain_skip (want_no g3 hm E2 (by rw [K2.size]; omega)) ?_
    have K3 := K2.putT d3 (by omega) undef
    have E3 := (at_other (a := a2) d3 (by omega) undef).trans E2
    generalize a2.put o3.dst undef = a3 at *
    refine chain_skip (want_no g4 hm E3 (by rw [K3.size]; omega)) ?_
    have K4 := K3.putT d4 (by omega) undef
    have E4 := (at_other (a := a3) d4 (by omega) undef).trans E3
    generalize a3.put o4.dst undef = a4 at *
    refine chain_skip (want_no g5 hm E4 (by rw [K4.size]; omega)) ?_
    have K5 := K4.putT d5 (by omega) undef
    have E5 := (at_other (a := a4) d5 (by omega) undef).trans E4
    generalize a4.put o5.dst undef = a5 at *
    refine chain_skip (want_no g6 hm E5 (by rw [K5.size]; omega)) ?_
    have K6 := K5.putT d6 (by omega) undef
    have E6 := (at_other (a := a5) d6 (by omega) undef).trans E5
    generalize a5.put o6.dst undef = a6 at *
    refine chain_pick (v := .bool true) g7 h7 E6 rfl ?_
    exact next _ (K6.putT d7 (by omega) _) (at_same d7 (by rw [K6.size]; omega) _)
  | false =>
    refine chain_move (want_yes g2 hm E1 (by rw [K1.size]; omega)) h2 ?_
    have K2 := K1.putT d2 (by omega) (a1.eval (.tmp x1))
    have E2 := (at_other (a := a1) d2 (by omega) (a1.eval (.tmp x1))).trans E1
    have X2 : (a1.put o2.dst (a1.eval (.tmp x1))).eval (.tmp (p + 2)) = A.eval (.tmp x1) := by rw [at_same d2 (by rw [K1.size]; omega)]; exact K1.low x1 hx1
    generalize a1.put o2.dst (a1.eval (.tmp x1)) = a2 at *
    refine chain_move (want_yes g3 hm E2 (by rw [K2.size]; omega)) h3 ?_
    have K3 := K2.putT d3 (by omega) (a2.eval (.tmp x2))
    have E3 := (at_other (a := a2) d3 (by omega) (a2.eval (.tmp x2))).trans E2
    have X3 := (at_other (a := a2) (j := p + 2) d3 (by omega) (a2.eval (.tmp x2))).trans X2
    have Y3 : (a2.put o3.dst (a2.eval (.tmp x2))).eval (.tmp (p + 3)) = A.eval (.tmp x2) := by rw [at_same d3 (by rw [K2.size]; omega)]; exact K2.low x2 hx2
    generalize a2.put o3.dst (a2.eval (.tmp x2)) = a3 at *
    refine chain_move (want_yes g4 hm E3 (by rw [K3.size]; omega)) h4 ?_
    have K4 := K3.putT d4 (by omega) (a3.eval (.tmp x3))
    have E4 := (at_other (a := a3) d4 (by omega) (a3.eval (.tmp x3))).trans E3
    have X4 := (at_other (a := a3) (j := p + 2) d4 (by omega) (a3.eval (.tmp x3))).trans X3
    have Y4 := (at_other (a := a3) (j := p + 3) d4 (by omega) (a3.eval (.tmp x3))).trans Y3
    have Z4 : (a3.put o4.dst (a3.eval (.tmp x3))).eval (.tmp (p + 4)) = A.eval (.tmp x3) := by rw [at_same d4 (by rw [K3.size]; omega)]; exact K3.low x3 hx3
    generalize a3.put o4.dst (a3.eval (.tmp x3)) = a4 at *
    refine chain_call (want_yes g5 hm E4 (by rw [K4.size]; omega)) (e5 a4 Y4 Z4) (hc rfl) ?_
    have K5 := K4.putT d5 (by omega) y
    have E5 := (at_other (a := a4) d5 (by omega) y).trans E4
    have X5 := (at_other (a := a4) (j := p + 2) d5 (by omega) y).trans X4
    have F5 : (a4.put o5.dst y).eval (.tmp (p + 5)) = y := at_same d5 (by rw [K4.size]; omega) _
    generalize a4.put o5.dst y = a5 at *
    refine chain_value (want_yes g6 hm E5 (by rw [K5.size]; omega)) (e6 a5 X5 F5) ?_
    have K6 := K5.putT d6 (by omega) (.bool r)
    have E6 := (at_other (a := a5) d6 (by omega) (.bool r)).trans E5
    have F6 : (a5.put o6.dst (.bool r)).eval (.tmp (p + 6)) = .bool r := at_same d6 (by rw [K5.size]; omega) _
    generalize a5.put o6.dst (.bool r) = a6 at *
    refine chain_pick (v := .bool r) g7 h7 E6 F6 ?_
    exact next _ (K6.putT d7 (by omega) _) (at_same d7 (by rw [K6.size]; omega) _)
end
end Go.Proofs.YtfpocpmcoobjkaaDoor
