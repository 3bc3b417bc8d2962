/-
  Pure: a tree with another value in the place of one of its values (chapter 17); no condition but the lemmas' own.
-/
import Derived.Test.YtmkgcifcfgfegaaRefAll17

namespace Go.Proofs.Ytmkgcifcfgfegaa
/-- A tree with another value in the place of that at a path. -/
def withT : Tree → List Nat → Tree → Tree
  | _, [], u => u
  | .node o l, i :: q, u => .node o (if h : i < l.length then l.set i ((l[i]).1, withT (l[i]).2 q u) else l)
/-- There is a value at a path. -/
def HasAt : Tree → List Nat → Prop
  | _, [] => True
  | .node _ l, i :: q => ∃ h : i < l.length, HasAt (l[i]).2 q
/-- Each path of the list of all leads to a value. -/
theorem all_has : ∀ (t : Tree) (p r : List Int), r ∈ allT t p → ∃ q : List Nat, r = p ++ q.map (fun i : Nat => (i : Int)) ∧ HasAt t q := by
  refine Tree.ind ?_
  intro o l ih p r hr
  rw [allT] at hr
  rcases List.mem_cons.1 hr with rfl | hr
  · exact ⟨[], by simp, by rw [HasAt]; trivial⟩
  have q : ∀ (m : List Kid) (j : Nat), l.drop j = m → r ∈ allK m j p → ∃ (i : Nat) (h : i < l.length), r ∈ allT (l[i]).2 (p ++ [(i : Int)]) := fun m => by
    induction m with
    | nil => intro j _ h; rw [allK] at h; cases h
    | cons x m ihm =>
      intro j hj h
      obtain ⟨n, t⟩ := x
      rw [allK] at h
      have hlt : j < l.length := by
        have := congrArg List.length hj
        rw [List.length_drop, List.length_cons] at this
        omega
      rw [List.drop_eq_getElem_cons hlt] at hj
      injection hj with e1 e2
      rcases List.mem_append.1 h with h | h
      · exact ⟨j, hlt, by rw [e1]; exact h⟩
      · exact ihm (j + 1) e2 h
  obtain ⟨i, hi, h⟩ := q l 0 rfl hr
  obtain ⟨q', e, hq⟩ := ih (l[i]) (List.getElem_mem hi) _ _ h
  refine ⟨i :: q', ?_, by rw [HasAt]; exact ⟨hi, hq⟩⟩
  rw [e, List.map_cons, List.append_assoc]
  rfl
end Go.Proofs.Ytmkgcifcfgfegaa
