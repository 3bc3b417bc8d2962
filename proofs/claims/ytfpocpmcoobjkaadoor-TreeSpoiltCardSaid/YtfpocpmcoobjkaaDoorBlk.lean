/-
  Boolean expressions of a region ('a || b', '!a && b', each operand as it may be), put together by laws, in a frame that is a variable; no condition but what each law says.
-/
import Derived.Test.YtfpocpmcoobjkaaDoorChain16
namespace Go.Proofs.YtfpocpmcoobjkaaDoor

section
variable {P : Program} {ops : Array Oper} {I : World → Prop} {n : Nat} {A : Act}

/-- The operation is guarded so: by nothing, or by what slot m holds. -/
def GuardIs (ops : Array Oper) (o : Oper) : Option (Nat × Bool) → Prop
  | none => o.guard = none
  | some (m, b) => ∃ g, o.guard = some (g, b) ∧ (ops[g]?).bind (·.dst) = some m
def GuardOk (a : Act) : Option (Nat × Bool) → Prop
  | none => True
  | some (m, b) => a.eval (.tmp m) = .bool b ∧ m < a.tmps.size
def GuardNo (a : Act) : Option (Nat × Bool) → Prop
  | none => False
  | some (m, b) => a.eval (.tmp m) ≠ .bool b ∧ m < a.tmps.size
/-- The guard's slot lies below. -/
def GuardLow (lo : Nat) : Option (Nat × Bool) → Prop
  | none => True
  | some (m, _) => m < lo
theorem guard_yes {a : Act} {o : Oper} {gd : Option (Nat × Bool)} (h : GuardIs ops o gd) (k : GuardOk a gd) : Region.wanted o (yielded ops a.tmps) = true := by
  cases gd with
  | none => exact want_free h
  | some x =>
    obtain ⟨m, b⟩ := x
    obtain ⟨g, h1, h2⟩ := h
    exact want_yes h1 h2 k.1 k.2
theorem guard_no {a : Act} {o : Oper} {gd : Option (Nat × Bool)} (h : GuardIs ops o gd) (k : GuardNo a gd) : Region.wanted o (yielded ops a.tmps) = false := by
  cases gd with
  | none => exact k.elim
  | some x =>
    obtain ⟨m, b⟩ := x
    obtain ⟨g, h1, h2⟩ := h
    obtain ⟨v, hv⟩ : ∃ v, a.eval (.tmp m) = v := ⟨_, rfl⟩
    have h3 := tmp_at hv k.2
    have h4 := k.1
    rw [hv] at h4
    clear hv
    simp only [Region.wanted, yielded, h1, h2, Option.bind_some, h3]
    cases v with
    | bool c =>
      have h5 : c ≠ b := fun e => h4 (by rw [e])
      simp [h5]
    | _ => rfl
theorem guard_same {a a' : Act} {lo : Nat} {gd : Option (Nat × Bool)} (hl : GuardLow lo gd) (hs : a'.tmps.size = a.tmps.size) (h : ∀ j, j < lo → a'.eval (.tmp j) = a.eval (.tmp j)) (k : GuardOk a gd) : GuardOk a' gd := by
  cases gd with
  | none => trivial
  | some x => exact ⟨(h x.1 hl).trans k.1, by rw [hs]; exact k.2⟩
theorem guard_same_no {a a' : Act} {lo : Nat} {gd : Option (Nat × Bool)} (hl : GuardLow lo gd) (hs : a'.tmps.size = a.tmps.size) (h : ∀ j, j < lo → a'.eval (.tmp j) = a.eval (.tmp j)) (k : GuardNo a gd) : GuardNo a' gd := by
  cases gd with
  | none => exact k
  | some x => exact ⟨by rw [h x.1 hl]; exact k.1, by rw [hs]; exact k.2⟩

/-- A piece of a region that reckons a Bool: guarded so, it writes the slots from lo to hi, the last of them with r; I is what is known of the world, ahead of it and behind it. -/
structure Blk (P : Program) (ops : Array Oper) (I : World → Prop) (n : Nat) (A : Act) (gd : Option (Nat × Bool)) (G : List Oper) (lo hi : Nat) (r : Bool) : Prop where
  le : lo ≤ hi
  base : n ≤ lo
  top : hi < A.tmps.size
  low : GuardLow lo gd
  run : ∀ (Q : Exit → Act → World → Prop) (rest : List Oper) (a : Act) (w : World), Keeps n A a → I w → GuardOk a gd →
    (∀ a' w', Keeps n A a' → I w' → (∀ j, j < lo → a'.eval (.tmp j) = a.eval (.tmp j)) → a'.eval (.tmp hi) = .bool r → wpList P ops Q rest a' w') → wpList P ops Q (G ++ rest) a w
  skip : ∀ (Q : Exit → Act → World → Prop) (rest : List Oper) (a : Act) (w : World), Keeps n A a → GuardNo a gd →
    (∀ a', Keeps n A a' → (∀ j, j < lo → a'.eval (.tmp j) = a.eval (.tmp j)) → wpList P ops Q rest a' w) → wpList P ops Q (G ++ rest) a w

/-- One operation that yields a value, ahead of a rest. -/
theorem step_value {gd : Option (Nat × Bool)} {o : Oper} {d : Nat} {v : Value} {Q : Exit → Act → World → Prop} {rest : List Oper} {a : Act} {w : World} (hd : o.dst = some d) (hg : GuardIs ops o gd) (hn : n ≤ d) (hs : d < A.tmps.size) (hlow : GuardLow d gd) (K : Keeps n A a) (k : GuardOk a gd)
    (e : (execOp a.eval o).run P w = .ok (.value v) w)
    (next : ∀ a', Keeps n A a' → GuardOk a' gd → (∀ j, j < d → a'.eval (.tmp j) = a.eval (.tmp j)) → a'.eval (.tmp d) = v → wpList P ops Q rest a' w) : wpList P ops Q (o :: rest) a w := by
  refine chain_value (guard_yes hg k) e ?_
  have h1 : ∀ j, j < d → (a.put o.dst v).eval (.tmp j) = a.eval (.tmp j) := fun j hj => at_other hd (by omega) v
  exact next _ (K.putT hd hn v) (guard_same hlow (size_put' _ _ _) h1 k) h1 (at_same hd (by rw [K.size]; exact hs) v)
theorem step_skip {gd : Option (Nat × Bool)} {o : Oper} {d : Nat} {Q : Exit → Act → World → Prop} {rest : List Oper} {a : Act} {w : World} (hd : o.dst = some d) (hg : GuardIs ops o gd) (hn : n ≤ d) (hs : d < A.tmps.size) (hlow : GuardLow d gd) (K : Keeps n A a) (k : GuardNo a gd)
    (next : ∀ a', Keeps n A a' → GuardNo a' gd → (∀ j, j < d → a'.eval (.tmp j) = a.eval (.tmp j)) → a'.eval (.tmp d) = undef → wpList P ops Q rest a' w) : wpList P ops Q (o :: rest) a w := by
  refine chain_skip (guard_no hg k) ?_
  have h1 : ∀ j, j < d → (a.put o.dst undef).eval (.tmp j) = a.eval (.tmp j) := fun j hj => at_other hd (by omega) undef
  exact next _ (K.putT hd hn undef) (guard_same_no hlow (size_put' _ _ _) h1 k) h1 (at_same hd (by rw [K.size]; exact hs) undef)
theorem run_move {o : Oper} {x : Nat} {a : Act} {w : World} (h : o.op = .move (.tmp x)) : (execOp a.eval o).run P w = .ok (.value (a.eval (.tmp x))) w := by
  unfold execOp; rw [h]; rfl
theorem run_pick {o : Oper} {x : Nat} {y z : Operand} {a : Act} {w : World} {b : Bool} (h : o.op = .pick (.tmp x) y z) (hb : a.eval (.tmp x) = .bool b) : (execOp a.eval o).run P w = .ok (.value (if b = true then a.eval y else a.eval z)) w := by
  generalize a.eval = ρ at *
  unfold execOp
  cases b <;> simp [go_sem, h, hb]
theorem low_more {lo d : Nat} {gd : Option (Nat × Bool)} (h : GuardLow lo gd) (hd : lo ≤ d) : GuardLow d gd := by
  cases gd with
  | none => trivial
  | some x => exact Nat.lt_of_lt_of_le h hd

/-- 'a || b'. -/
theorem Blk.or {gd : Option (Nat × Bool)} {G1 G2 : List Oper} {lo h1 h2 : Nat} {r1 r2 : Bool} {mv pk : Oper} (B1 : Blk P ops I n A gd G1 lo h1 r1) (B2 : Blk P ops I n A (some (h1 + 1, false)) G2 (h1 + 2) h2 r2)
    (m1 : mv.op = .move (.tmp h1)) (m2 : mv.dst = some (h1 + 1)) (m3 : GuardIs ops mv gd) (p1 : pk.op = .pick (.tmp (h1 + 1)) (.const (.bool true)) (.tmp h2)) (p2 : pk.dst = some (h2 + 1)) (p3 : GuardIs ops pk gd) (ht : h2 + 1 < A.tmps.size) :
    Blk P ops I n A gd (G1 ++ (mv :: (G2 ++ [pk]))) lo (h2 + 1) (r1 || r2) := by
  have hle := B1.le
  have hle2 := B2.le
  have hbase := B1.base
  refine ⟨by omega, B1.base, ht, B1.low, ?_, ?_⟩
  · intro Q rest a w K hi k next
    have e : (G1 ++ (mv :: (G2 ++ [pk]))) ++ rest = G1 ++ (mv :: (G2 ++ (pk :: rest))) := by simp
    rw [e]
    refine B1.run Q _ a w K hi k fun a1 w1 K1 I1 s1 v1 => ?_
    have k1 := guard_same B1.low (K1.size.trans K.size.symm) s1 k
    refine step_value m2 m3 (by omega) (by omega) (low_more B1.low (by omega)) K1 k1 (run_move m1) fun a2 K2 k2 s2 v2 => ?_
    rw [v1] at v2
    cases r1 with
    | true =>
      refine B2.skip Q _ a2 w1 K2 ⟨by rw [v2]; simp, by rw [K2.size]; omega⟩ fun a3 K3 s3 => ?_
      have q3 := (s3 (h1 + 1) (by omega)).trans v2
      have k3 := guard_same (lo := h1 + 2) (low_more B1.low (by omega)) (K3.size.trans K2.size.symm) s3 k2
      refine step_value p2 p3 (by omega) ht (low_more B1.low (by omega)) K3 k3 (run_pick p1 q3) fun a4 K4 _ s4 v4 => ?_
      refine next a4 w1 K4 I1 (fun j hj => ?_) (by rw [v4]; rfl)
      rw [s4 j (by omega), s3 j (by omega), s2 j (by omega), s1 j hj]
    | false =>
      refine B2.run Q _ a2 w1 K2 I1 ⟨v2, by rw [K2.size]; omega⟩ fun a3 w3 K3 I3 s3 v3 => ?_
      have q3 := (s3 (h1 + 1) (by omega)).trans v2
      have k3 := guard_same (lo := h1 + 2) (low_more B1.low (by omega)) (K3.size.trans K2.size.symm) s3 k2
      refine step_value p2 p3 (by omega) ht (low_more B1.low (by omega)) K3 k3 (run_pick p1 q3) fun a4 K4 _ s4 v4 => ?_
      refine next a4 w3 K4 I3 (fun j hj => ?_) (by rw [v4, if_neg (by decide), v3]; rfl)
      rw [s4 j (by omega), s3 j (by omega), s2 j (by omega), s1 j hj]
  · intro Q rest a w K k next
    have e : (G1 ++ (mv :: (G2 ++ [pk]))) ++ rest = G1 ++ (mv :: (G2 ++ (pk :: rest))) := by simp
    rw [e]
    refine B1.skip Q _ a w K k fun a1 K1 s1 => ?_
    have k1 := guard_same_no B1.low (K1.size.trans K.size.symm) s1 k
    refine step_skip m2 m3 (by omega) (by omega) (low_more B1.low (by omega)) K1 k1 fun a2 K2 k2 s2 v2 => ?_
    refine B2.skip Q _ a2 w K2 ⟨by rw [v2]; simp [undef], by rw [K2.size]; omega⟩ fun a3 K3 s3 => ?_
    have k3 := guard_same_no (lo := h1 + 2) (low_more B1.low (by omega)) (K3.size.trans K2.size.symm) s3 k2
    refine step_skip p2 p3 (by omega) ht (low_more B1.low (by omega)) K3 k3 fun a4 K4 _ s4 _ => ?_
    refine next a4 K4 fun j hj => ?_
    rw [s4 j (by omega), s3 j (by omega), s2 j (by omega), s1 j hj]

/-- 'a && b'. -/
theorem Blk.and {gd : Option (Nat × Bool)} {G1 G2 : List Oper} {lo h1 h2 : Nat} {r1 r2 : Bool} {mv pk : Oper} (B1 : Blk P ops I n A gd G1 lo h1 r1) (B2 : Blk P ops I n A (some (h1 + 1, true)) G2 (h1 + 2) h2 r2)
    (m1 : mv.op = .move (.tmp h1)) (m2 : mv.dst = some (h1 + 1)) (m3 : GuardIs ops mv gd) (p1 : pk.op = .pick (.tmp (h1 + 1)) (.tmp h2) (.const (.bool false))) (p2 : pk.dst = some (h2 + 1)) (p3 : GuardIs ops pk gd) (ht : h2 + 1 < A.tmps.size) :
    Blk P ops I n A gd (G1 ++ (mv :: (G2 ++ [pk]))) lo (h2 + 1) (r1 && r2) := by
  have hle := B1.le
  have hle2 := B2.le
  have hbase := B1.base
  refine ⟨by omega, B1.base, ht, B1.low, ?_, ?_⟩
  · intro Q rest a w K hi k next
    have e : (G1 ++ (mv :: (G2 ++ [pk]))) ++ rest = G1 ++ (mv :: (G2 ++ (pk :: rest))) := by simp
    rw [e]
    refine B1.run Q _ a w K hi k fun a1 w1 K1 I1 s1 v1 => ?_
    have k1 := guard_same B1.low (K1.size.trans K.size.symm) s1 k
    refine step_value m2 m3 (by omega) (by omega) (low_more B1.low (by omega)) K1 k1 (run_move m1) fun a2 K2 k2 s2 v2 => ?_
    rw [v1] at v2
    cases r1 with
    | false =>
      refine B2.skip Q _ a2 w1 K2 ⟨by rw [v2]; simp, by rw [K2.size]; omega⟩ fun a3 K3 s3 => ?_
      have q3 := (s3 (h1 + 1) (by omega)).trans v2
      have k3 := guard_same (lo := h1 + 2) (low_more B1.low (by omega)) (K3.size.trans K2.size.symm) s3 k2
      refine step_value p2 p3 (by omega) ht (low_more B1.low (by omega)) K3 k3 (run_pick p1 q3) fun a4 K4 _ s4 v4 => ?_
      refine next a4 w1 K4 I1 (fun j hj => ?_) (by rw [v4]; rfl)
      rw [s4 j (by omega), s3 j (by omega), s2 j (by omega), s1 j hj]
    | true =>
      refine B2.run Q _ a2 w1 K2 I1 ⟨v2, by rw [K2.size]; omega⟩ fun a3 w3 K3 I3 s3 v3 => ?_
      have q3 := (s3 (h1 + 1) (by omega)).trans v2
      have k3 := guard_same (lo := h1 + 2) (low_more B1.low (by omega)) (K3.size.trans K2.size.symm) s3 k2
      refine step_value p2 p3 (by omega) ht (low_more B1.low (by omega)) K3 k3 (run_pick p1 q3) fun a4 K4 _ s4 v4 => ?_
      refine next a4 w3 K4 I3 (fun j hj => ?_) (by rw [v4, if_pos rfl, v3]; rfl)
      rw [s4 j (by omega), s3 j (by omega), s2 j (by omega), s1 j hj]
  · intro Q rest a w K k next
    have e : (G1 ++ (mv :: (G2 ++ [pk]))) ++ rest = G1 ++ (mv :: (G2 ++ (pk :: rest))) := by simp
    rw [e]
    refine B1.skip Q _ a w K k fun a1 K1 s1 => ?_
    have k1 := guard_same_no B1.low (K1.size.trans K.size.symm) s1 k
    refine step_skip m2 m3 (by omega) (by omega) (low_more B1.low (by omega)) K1 k1 fun a2 K2 k2 s2 v2 => ?_
    refine B2.skip Q _ a2 w K2 ⟨by rw [v2]; simp [undef], by rw [K2.size]; omega⟩ fun a3 K3 s3 => ?_
    have k3 := guard_same_no (lo := h1 + 2) (low_more B1.low (by omega)) (K3.size.trans K2.size.symm) s3 k2
    refine step_skip p2 p3 (by omega) ht (low_more B1.low (by omega)) K3 k3 fun a4 K4 _ s4 _ => ?_
    refine next a4 K4 fun j hj => ?_
    rw [s4 j (by omega), s3 j (by omega), s2 j (by omega), s1 j hj]

/-- '!x' of a slot below. -/
theorem Blk.not {gd : Option (Nat × Bool)} {o1 o2 : Oper} {lo x : Nat} {r : Bool} (hn : n ≤ lo) (hs : lo + 1 < A.tmps.size) (hl : GuardLow lo gd) (hx : x < n) (hr : A.eval (.tmp x) = .bool r)
    (h1 : o1.op = .move (.tmp x)) (d1 : o1.dst = some lo) (g1 : GuardIs ops o1 gd) (d2 : o2.dst = some (lo + 1)) (g2 : GuardIs ops o2 gd)
    (e2 : ∀ (f : Act) (w : World), f.eval (.tmp lo) = .bool r → (execOp f.eval o2).run P w = .ok (.value (.bool !r)) w) :
    Blk P ops I n A gd [o1, o2] lo (lo + 1) (!r) := by
  refine ⟨by omega, hn, hs, hl, ?_, ?_⟩
  · intro Q rest a w K hi k next
    refine step_value d1 g1 hn (by omega) hl K k (run_move h1) fun a1 K1 k1 s1 v1 => ?_
    rw [K.low x hx, hr] at v1
    refine step_value d2 g2 (by omega) hs (low_more hl (by omega)) K1 k1 (e2 a1 w v1) fun a2 K2 _ s2 v2 => ?_
    exact next a2 w K2 hi (fun j hj => (s2 j (by omega)).trans (s1 j hj)) v2
  · intro Q rest a w K k next
    refine step_skip d1 g1 hn (by omega) hl K k fun a1 K1 k1 s1 _ => ?_
    refine step_skip d2 g2 (by omega) hs (low_more hl (by omega)) K1 k1 fun a2 K2 _ s2 _ => ?_
    exact next a2 K2 (fun j hj => (s2 j (by omega)).trans (s1 j hj))
/-- Two operations, the first of which looks at a slot below. -/
theorem Blk.two {gd : Option (Nat × Bool)} {o1 o2 : Oper} {lo x : Nat} {r : Bool} {y : Value} (hn : n ≤ lo) (hs : lo + 1 < A.tmps.size) (hl : GuardLow lo gd) (hx : x < n)
    (d1 : o1.dst = some lo) (g1 : GuardIs ops o1 gd) (d2 : o2.dst = some (lo + 1)) (g2 : GuardIs ops o2 gd)
    (e1 : ∀ (f : Act) (w : World), I w → f.eval (.tmp x) = A.eval (.tmp x) → (execOp f.eval o1).run P w = .ok (.value y) w)
    (e2 : ∀ (f : Act) (w : World), I w → f.eval (.tmp lo) = y → (execOp f.eval o2).run P w = .ok (.value (.bool r)) w) :
    Blk P ops I n A gd [o1, o2] lo (lo + 1) r := by
  refine ⟨by omega, hn, hs, hl, ?_, ?_⟩
  · intro Q rest a w K hi k next
    refine step_value d1 g1 hn (by omega) hl K k (e1 a w hi (K.low x hx)) fun a1 K1 k1 s1 v1 => ?_
    refine step_value d2 g2 (by omega) hs (low_more hl (by omega)) K1 k1 (e2 a1 w hi v1) fun a2 K2 _ s2 v2 => ?_
    exact next a2 w K2 hi (fun j hj => (s2 j (by omega)).trans (s1 j hj)) v2
  · intro Q rest a w K k next
    refine step_skip d1 g1 hn (by omega) hl K k fun a1 K1 k1 s1 _ => ?_
    refine step_skip d2 g2 (by omega) hs (low_more hl (by omega)) K1 k1 fun a2 K2 _ s2 _ => ?_
    exact next a2 K2 (fun j hj => (s2 j (by omega)).trans (s1 j hj))
/-- Three operations in a row (the place of a field, its load, a comparison). -/
theorem Blk.three {gd : Option (Nat × Bool)} {o1 o2 o3 : Oper} {lo x : Nat} {r : Bool} {y z : Value} (hn : n ≤ lo) (hs : lo + 2 < A.tmps.size) (hl : GuardLow lo gd) (hx : x < n)
    (d1 : o1.dst = some lo) (g1 : GuardIs ops o1 gd) (d2 : o2.dst = some (lo + 1)) (g2 : GuardIs ops o2 gd) (d3 : o3.dst = some (lo + 2)) (g3 : GuardIs ops o3 gd)
    (e1 : ∀ (f : Act) (w : World), I w → f.eval (.tmp x) = A.eval (.tmp x) → (execOp f.eval o1).run P w = .ok (.value y) w)
    (e2 : ∀ (f : Act) (w : World), I w → f.eval (.tmp lo) = y → (execOp f.eval o2).run P w = .ok (.value z) w)
    (e3 : ∀ (f : Act) (w : World), I w → f.eval (.tmp (lo + 1)) = z → (execOp f.eval o3).run P w = .ok (.value (.bool r)) w) :
    Blk P ops I n A gd [o1, o2, o3] lo (lo + 2) r := by
  refine ⟨by omega, hn, hs, hl, ?_, ?_⟩
  · intro Q rest a w K hi k next
    refine step_value d1 g1 hn (by omega) hl K k (e1 a w hi (K.low x hx)) fun a1 K1 k1 s1 v1 => ?_
    refine step_value d2 g2 (by omega) (by omega) (low_more hl (by omega)) K1 k1 (e2 a1 w hi v1) fun a2 K2 k2 s2 v2 => ?_
    refine step_value d3 g3 (by omega) hs (low_more hl (by omega)) K2 k2 (e3 a2 w hi v2) fun a3 K3 _ s3 v3 => ?_
    exact next a3 w K3 hi (fun j hj => ((s3 j (by omega)).trans (s2 j (by omega))).trans (s1 j hj)) v3
  · intro Q rest a w K k next
    refine step_skip d1 g1 hn (by omega) hl K k fun a1 K1 k1 s1 _ => ?_
    refine step_skip d2 g2 (by omega) (by omega) (low_more hl (by omega)) K1 k1 fun a2 K2 k2 s2 _ => ?_
    refine step_skip d3 g3 (by omega) hs (low_more hl (by omega)) K2 k2 fun a3 K3 _ s3 _ => ?_
    exact next a3 K3 (fun j hj => ((s3 j (by omega)).trans (s2 j (by omega))).trans (s1 j hj))
/-- Four operations in a row (the place of a field, its load, a length, a comparison). -/
theorem Blk.four {gd : Option (Nat × Bool)} {o1 o2 o3 o4 : Oper} {lo x : Nat} {r : Bool} {y z u : Value} (hn : n ≤ lo) (hs : lo + 3 < A.tmps.size) (hl : GuardLow lo gd) (hx : x < n)
    (d1 : o1.dst = some lo) (g1 : GuardIs ops o1 gd) (d2 : o2.dst = some (lo + 1)) (g2 : GuardIs ops o2 gd) (d3 : o3.dst = some (lo + 2)) (g3 : GuardIs ops o3 gd) (d4 : o4.dst = some (lo + 3)) (g4 : GuardIs ops o4 gd)
    (e1 : ∀ (f : Act) (w : World), I w → f.eval (.tmp x) = A.eval (.tmp x) → (execOp f.eval o1).run P w = .ok (.value y) w)
    (e2 : ∀ (f : Act) (w : World), I w → f.eval (.tmp lo) = y → (execOp f.eval o2).run P w = .ok (.value z) w)
    (e3 : ∀ (f : Act) (w : World), I w → f.eval (.tmp (lo + 1)) = z → (execOp f.eval o3).run P w = .ok (.value u) w)
    (e4 : ∀ (f : Act) (w : World), I w → f.eval (.tmp (lo + 2)) = u → (execOp f.eval o4).run P w = .ok (.value (.bool r)) w) :
    Blk P ops I n A gd [o1, o2, o3, o4] lo (lo + 3) r := by
  refine ⟨by omega, hn, hs, hl, ?_, ?_⟩
  · intro Q rest a w K hi k next
    refine step_value d1 g1 hn (by omega) hl K k (e1 a w hi (K.low x hx)) fun a1 K1 k1 s1 v1 => ?_
    refine step_value d2 g2 (by omega) (by omega) (low_more hl (by omega)) K1 k1 (e2 a1 w hi v1) fun a2 K2 k2 s2 v2 => ?_
    refine step_value d3 g3 (by omega) (by omega) (low_more hl (by omega)) K2 k2 (e3 a2 w hi v2) fun a3 K3 k3 s3 v3 => ?_
    refine step_value d4 g4 (by omega) hs (low_more hl (by omega)) K3 k3 (e4 a3 w hi v3) fun a4 K4 _ s4 v4 => ?_
    exact next a4 w K4 hi (fun j hj => (((s4 j (by omega)).trans (s3 j (by omega))).trans (s2 j (by omega))).trans (s1 j hj)) v4
  · intro Q rest a w K k next
    refine step_skip d1 g1 hn (by omega) hl K k fun a1 K1 k1 s1 _ => ?_
    refine step_skip d2 g2 (by omega) (by omega) (low_more hl (by omega)) K1 k1 fun a2 K2 k2 s2 _ => ?_
    refine step_skip d3 g3 (by omega) (by omega) (low_more hl (by omega)) K2 k2 fun a3 K3 k3 s3 _ => ?_
    refine step_skip d4 g4 (by omega) hs (low_more hl (by omega)) K3 k3 fun a4 K4 _ s4 _ => ?_
    exact next a4 K4 (fun j hj => (((s4 j (by omega)).trans (s3 j (by omega))).trans (s2 j (by omega))).trans (s1 j hj))
/-- The place of a field, its load, a call that keeps what is known of the world. -/
theorem Blk.call {gd : Option (Nat × Bool)} {o1 o2 o3 : Oper} {lo x : Nat} {r : Bool} {y z : Value} {fn : FuncId} (hn : n ≤ lo) (hs : lo + 2 < A.tmps.size) (hl : GuardLow lo gd) (hx : x < n)
    (d1 : o1.dst = some lo) (g1 : GuardIs ops o1 gd) (d2 : o2.dst = some (lo + 1)) (g2 : GuardIs ops o2 gd) (d3 : o3.dst = some (lo + 2)) (g3 : GuardIs ops o3 gd)
    (e1 : ∀ (f : Act) (w : World), I w → f.eval (.tmp x) = A.eval (.tmp x) → (execOp f.eval o1).run P w = .ok (.value y) w)
    (e2 : ∀ (f : Act) (w : World), I w → f.eval (.tmp lo) = y → (execOp f.eval o2).run P w = .ok (.value z) w)
    (e3 : ∀ (f : Act) (w : World), I w → f.eval (.tmp (lo + 1)) = z → (execOp f.eval o3).run P w = .ok (.enter fn #[z]) w)
    (c3 : ∀ w : World, I w → Calls P fn #[z] w fun e w' => e = .returned (.bool r) ∧ I w') :
    Blk P ops I n A gd [o1, o2, o3] lo (lo + 2) r := by
  refine ⟨by omega, hn, hs, hl, ?_, ?_⟩
  · intro Q rest a w K hi k next
    refine step_value d1 g1 hn (by omega) hl K k (e1 a w hi (K.low x hx)) fun a1 K1 k1 s1 v1 => ?_
    refine step_value d2 g2 (by omega) (by omega) (low_more hl (by omega)) K1 k1 (e2 a1 w hi v1) fun a2 K2 k2 s2 v2 => ?_
    have h1 : ∀ j, j < lo + 2 → (a2.put o3.dst (.bool r)).eval (.tmp j) = a2.eval (.tmp j) := fun j hj => at_other d3 (by omega) _
    refine BigFrame.wpList_want (guard_yes g3 k2) fun K' hK' => ?_
    unfold Oper.wp
    rw [e3 a2 w hi v2, Oper.upon_enter]
    refine (c3 w hi).mono ?_
    rintro e w' ⟨rfl, hi'⟩
    refine hK' _ _ (next _ w' (K2.putT d3 (by omega) _) hi' (fun j hj => ((h1 j (by omega)).trans (s2 j (by omega))).trans (s1 j hj)) (at_same d3 (by rw [K2.size]; exact hs) _))
  · intro Q rest a w K k next
    refine step_skip d1 g1 hn (by omega) hl K k fun a1 K1 k1 s1 _ => ?_
    refine step_skip d2 g2 (by omega) (by omega) (low_more hl (by omega)) K1 k1 fun a2 K2 k2 s2 _ => ?_
    refine step_skip d3 g3 (by omega) hs (low_more hl (by omega)) K2 k2 fun a3 K3 _ s3 _ => ?_
    exact next a3 K3 (fun j hj => ((s3 j (by omega)).trans (s2 j (by omega))).trans (s1 j hj))
/-- '!' of what a piece reckons. -/
theorem Blk.neg {gd : Option (Nat × Bool)} {G : List Oper} {o : Oper} {lo h : Nat} {r : Bool} (B : Blk P ops I n A gd G lo h r) (hs : h + 1 < A.tmps.size) (d : o.dst = some (h + 1)) (g : GuardIs ops o gd)
    (e : ∀ (f : Act) (w : World), f.eval (.tmp h) = .bool r → (execOp f.eval o).run P w = .ok (.value (.bool !r)) w) : Blk P ops I n A gd (G ++ [o]) lo (h + 1) (!r) := by
  have hle := B.le
  have hbase := B.base
  refine ⟨by omega, B.base, hs, B.low, ?_, ?_⟩
  · intro Q rest a w K hi k next
    have e' : (G ++ [o]) ++ rest = G ++ (o :: rest) := by simp
    rw [e']
    refine B.run Q _ a w K hi k fun a1 w1 K1 I1 s1 v1 => ?_
    refine step_value d g (by omega) hs (low_more B.low (by omega)) K1 (guard_same B.low (K1.size.trans K.size.symm) s1 k) (e a1 w1 v1) fun a2 K2 _ s2 v2 => ?_
    exact next a2 w1 K2 I1 (fun j hj => (s2 j (by omega)).trans (s1 j hj)) v2
  · intro Q rest a w K k next
    have e' : (G ++ [o]) ++ rest = G ++ (o :: rest) := by simp
    rw [e']
    refine B.skip Q _ a w K k fun a1 K1 s1 => ?_
    refine step_skip d g (by omega) hs (low_more B.low (by omega)) K1 (guard_same_no B.low (K1.size.trans K.size.symm) s1 k) fun a2 K2 _ s2 _ => ?_
    exact next a2 K2 (fun j hj => (s2 j (by omega)).trans (s1 j hj))
end
end Go.Proofs.YtfpocpmcoobjkaaDoor
