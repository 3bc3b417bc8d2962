/-
  Pure: what a path leads to, the Names on the way, where two trees part (chapter 18); no condition but the lemmas' own.
-/
import Derived.Test.YtmkgcifcfgfegaaSpoilMath

namespace Go.Proofs.Ytmkgcifcfgfegaa
/-- What a path leads to. -/
def getT : Tree → List Int → Option Tree
  | t, [] => some t
  | .node _ l, i :: p => if h : 0 ≤ i ∧ i < (l.length : Int) then getT (l[i.toNat]'(by omega)).2 p else none
/-- The Names on the way. -/
def namesT : Tree → List Int → Option (List (List UInt8))
  | _, [] => some []
  | .node _ l, i :: p => if h : 0 ≤ i ∧ i < (l.length : Int) then (namesT (l[i.toNat]'(by omega)).2 p).map ((l[i.toNat]'(by omega)).1 :: ·) else none
mutual
/-- Where two trees part. -/
def diffT : Tree → Tree → List Int → Option (List (List Int))
  | .node o l, .node o' m, p => if l.length = m.length then (diffK l m 0 p).map ((if o = o' then [] else [p]) ++ ·) else none
def diffK : List (List UInt8 × Tree) → List (List UInt8 × Tree) → Nat → List Int → Option (List (List Int))
  | (n, t) :: l, (k, u) :: m, i, p => match diffT t u (p ++ [(i : Int)]) with
    | none => none
    | some r => if n = k then (diffK l m (i + 1) p).map (r ++ ·) else none
  | _, _, _, _ => some []
end
theorem diff_same : ∀ (t u : Tree) (p : List Int), diffT t u p = some [] ↔ t = u := by
  refine Tree.ind ?_
  intro o l ih u p
  obtain ⟨o', m⟩ := u
  have q : ∀ (l' : List Kid), (∀ x ∈ l', x ∈ l) → ∀ (m' : List Kid) (i : Nat), l'.length = m'.length → (diffK l' m' i p = some [] ↔ l' = m') := fun l' => by
    induction l' with
    | nil => intro _ m' i h; cases m' with
      | nil => rw [diffK]; all_goals simp
      | cons y m' => simp at h
    | cons x l' ihl =>
      intro hm m' i h
      cases m' with
      | nil => simp at h
      | cons y m' =>
        obtain ⟨n, t⟩ := x
        obtain ⟨k, u⟩ := y
        have h1 : diffT t u (p ++ [(i : Int)]) = some [] ↔ t = u := ih (n, t) (hm _ (.head _)) u _
        have h2 := ihl (fun z hz => hm z (.tail _ hz)) m' (i + 1) (by simpa using h)
        rw [diffK]
        cases hd : diffT t u (p ++ [(i : Int)]) with
        | none =>
          rw [hd] at h1
          simp only [List.cons.injEq, Prod.mk.injEq]
          constructor
          · intro h; cases h
          · rintro ⟨⟨_, e⟩, _⟩; cases h1.2 e
        | some r =>
          rw [hd] at h1
          simp only [Option.some.injEq] at h1
          by_cases hn : n = k
          · simp only [hn, if_true, Option.map_eq_some_iff, List.append_eq_nil_iff, List.cons.injEq, Prod.mk.injEq, true_and]
            constructor
            · rintro ⟨a, e1, e2, e3⟩
              subst e3
              exact ⟨h1.1 e2, h2.1 e1⟩
            · rintro ⟨e1, e2⟩
              exact ⟨[], h2.2 e2, h1.2 e1, rfl⟩
          · simp [hn]
  rw [diffT]
  by_cases hlen : l.length = m.length
  · rw [if_pos hlen]
    have h3 := q l (fun _ h => h) m 0 hlen
    simp only [Option.map_eq_some_iff, List.append_eq_nil_iff, Tree.node.injEq]
    constructor
    · rintro ⟨a, e1, e2, e3⟩
      subst e3
      refine ⟨?_, h3.1 e1⟩
      by_cases ho : o = o'
      · exact ho
      · rw [if_neg ho] at e2; cases e2
    · rintro ⟨e1, e2⟩
      exact ⟨[], h3.2 e2, by rw [if_pos e1], rfl⟩
  · rw [if_neg hlen]
    simp only [reduceCtorEq, Tree.node.injEq, false_iff]
    rintro ⟨_, e⟩
    exact hlen (by rw [e])
/-- What lies at a path of places. -/
def subT : Tree → List Nat → Tree
  | t, [] => t
  | .node o l, i :: q => if h : i < l.length then subT (l[i]).2 q else .node o l
theorem get_sub : ∀ (q : List Nat) (t : Tree), HasAt t q → getT t (q.map fun i : Nat => (i : Int)) = some (subT t q)
  | [], .node o l, _ => by rw [List.map_nil, getT, subT]
  | i :: q, .node o l, ⟨hi, hq⟩ => by
    rw [List.map_cons, getT, dif_pos (show 0 ≤ (i : Int) ∧ (i : Int) < (l.length : Int) by omega), subT, dif_pos hi]
    exact get_sub q (l[i]).2 hq
theorem get_past : ∀ (q : List Nat) (t : Tree), HasAt t q → getT t (q.map (fun i : Nat => (i : Int)) ++ [((subT t q).kids.length : Int)]) = none
  | [], .node o l, _ => by
    rw [List.map_nil, List.nil_append, getT, dif_neg]
    rw [subT]
    show ¬ (0 ≤ (l.length : Int) ∧ (l.length : Int) < (l.length : Int))
    omega
  | i :: q, .node o l, ⟨hi, hq⟩ => by
    rw [List.map_cons, List.cons_append, getT, dif_pos (show 0 ≤ (i : Int) ∧ (i : Int) < (l.length : Int) by omega), subT, dif_pos hi]
    exact get_past q (l[i]).2 hq
theorem diffK_self (l : List Kid) (i : Nat) (p : List Int) : diffK l l i p = some [] := by
  induction l generalizing i with
  | nil => rw [diffK]; all_goals simp
  | cons x l ih =>
    obtain ⟨n, t⟩ := x
    rw [diffK, (diff_same t t _).2 rfl]
    simp [ih]
theorem diffK_set : ∀ (l : List Kid) (j : Nat) (p : List Int) (i : Nat) (h : i < l.length) (u : Tree), diffK l (l.set i ((l[i]).1, u)) j p = diffT (l[i]).2 u (p ++ [((j + i : Nat) : Int)])
  | (n, t) :: l, j, p, 0, _, u => by
    rw [List.set_cons_zero, diffK]
    show (match diffT t u (p ++ [(j : Int)]) with | none => none | some r => if n = n then (diffK l l (j + 1) p).map (r ++ ·) else none) = diffT t u (p ++ [(j : Int)])
    cases diffT t u (p ++ [(j : Int)]) with
    | none => rfl
    | some r => simp [diffK_self]
  | (n, t) :: l, j, p, i + 1, h, u => by
    rw [List.set_cons_succ, diffK, (diff_same t t _).2 rfl]
    have := diffK_set l (j + 1) p i (Nat.lt_of_succ_lt_succ h) u
    simp only [List.getElem_cons_succ, if_true, List.nil_append, Option.map_id']
    rw [this, show j + 1 + i = j + (i + 1) by omega]
/-- A tree and the same with another value at a path part as those two do. -/
theorem diff_at (u : Tree) : ∀ (q : List Nat) (t : Tree) (p : List Int), HasAt t q → diffT t (withT t q u) p = diffT (subT t q) u (p ++ q.map fun i : Nat => (i : Int))
  | [], .node o l, p, _ => by rw [withT, subT, List.map_nil, List.append_nil]
  | i :: q, .node o l, p, ⟨hi, hq⟩ => by
    rw [withT, dif_pos hi, diffT, List.length_set, if_pos rfl, diffK_set l 0 p i hi, subT, dif_pos hi, if_pos rfl, diff_at u q (l[i]).2 _ hq]
    simp
theorem diff_own {o o' : OwnV} {l : List Kid} (h : o ≠ o') (p : List Int) : diffT (.node o l) (.node o' l) p = some [p] := by
  rw [diffT, if_pos rfl, diffK_self, if_neg h]; rfl
theorem diff_name {o o' : OwnV} {l : List Kid} {n n' : List UInt8} {t : Tree} (h : n ≠ n') (p : List Int) : diffT (.node o ((n, t) :: l)) (.node o' ((n', t) :: l)) p = none := by
  rw [diffT, if_pos (by simp), diffK, (diff_same t t _).2 rfl]
  simp [h]
theorem diff_less {o o' : OwnV} {l m : List Kid} (h : l.length ≠ m.length) (p : List Int) : diffT (.node o l) (.node o' m) p = none := by
  rw [diffT, if_neg h]
end Go.Proofs.Ytmkgcifcfgfegaa
