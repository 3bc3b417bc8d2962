/-
  Pure: a tree with another value in the place of one of its values, and what check says of it (chapter 17); no condition but the lemmas' own.
-/
import Derived.Test.YtfpocpmcoobjkaaDoorRefAll17
namespace Go.Proofs.YtfpocpmcoobjkaaDoor

/-- The paths of a tree's values, in order. -/
def withT : Tree → List Nat → Tree → Tree
  | _, [], u => u
  | .node o l, i :: q, u => .node o (if h : i < l.length then l.set i ((l[i]).1, withT (l[i]).2 q u) else l)
/-- There is a value at a path. -/
def HasAt : Tree → List Nat → Prop
  | _, [] => True
  | .node _ l, i :: q => ∃ h : i < l.length, HasAt (l[i]).2 q
theorem chkK_all : ∀ (l : List Kid) (j : Nat) (p : List Int), (chkK l j p).2 = 0 → ∀ (m : Nat) (h : m < l.length), (chkT (l[m]).2 (l[m]).1 (p ++ [((j + m : Nat) : Int)])).2 = 0
  | (n, t) :: l, j, p, h, m, hm => by
    rw [chkK] at h
    split at h
    · rename_i h0
      cases m with
      | zero => exact h0
      | succ m =>
        have := chkK_all l (j + 1) p h m (Nat.lt_of_succ_lt_succ hm)
        rw [show j + 1 + m = j + (m + 1) by omega] at this
        exact this
    · rename_i h0
      exact absurd h h0
theorem chkK_zero : ∀ (l : List Kid) (j : Nat) (p : List Int), (∀ (m : Nat) (h : m < l.length), (chkT (l[m]).2 (l[m]).1 (p ++ [((j + m : Nat) : Int)])).2 = 0) → chkK l j p = ([], 0)
  | [], _, _, _ => by rw [chkK]
  | (n, t) :: l, j, p, h => by
    rw [chkK, if_pos (show (chkT t n (p ++ [(j : Int)])).2 = 0 from h 0 (Nat.succ_pos _))]
    refine chkK_zero l (j + 1) p fun m hm => ?_
    have := h (m + 1) (Nat.succ_lt_succ hm)
    rw [show j + 1 + m = j + (m + 1) by omega]
    exact this
theorem chkK_set : ∀ (l : List Kid) (j : Nat) (p : List Int) (i : Nat) (x : Kid), i < l.length → (∀ (m : Nat) (h : m < l.length), (chkT (l[m]).2 (l[m]).1 (p ++ [((j + m : Nat) : Int)])).2 = 0) →
    chkK (l.set i x) j p = if (chkT x.2 x.1 (p ++ [((j + i : Nat) : Int)])).2 = 0 then ([], 0) else chkT x.2 x.1 (p ++ [((j + i : Nat) : Int)])
  | (n, t) :: l, j, p, 0, x, _, h => by
    obtain ⟨xn, xt⟩ := x
    rw [List.set_cons_zero, chkK]
    rw [chkK_zero l (j + 1) p (fun m hm => by
      have := h (m + 1) (Nat.succ_lt_succ hm)
      rw [show j + 1 + m = j + (m + 1) by omega]
      exact this)]
    rfl
  | (n, t) :: l, j, p, i + 1, x, hi, h => by
    rw [List.set_cons_succ, chkK, if_pos (show (chkT t n (p ++ [(j : Int)])).2 = 0 from h 0 (Nat.succ_pos _))]
    rw [chkK_set l (j + 1) p i x (Nat.lt_of_succ_lt_succ hi) (fun m hm => by
      have := h (m + 1) (Nat.succ_lt_succ hm)
      rw [show j + 1 + m = j + (m + 1) by omega]
      exact this)]
    rw [show j + 1 + i = j + (i + 1) by omega]
theorem ownN_name {o : OwnV} {n : Nat} {nm : List UInt8} (h : ownN o n nm = 0) : namedB nm = true := by
  unfold ownN at h
  split at h
  · omega
  · rename_i q
    cases e : namedB nm with
    | true => rfl
    | false => exact absurd ⟨h, e⟩ q
/-- One value is turned into one without Kids: check tells it, there; or nothing, if it is a value. -/
theorem chk_with (ou : OwnV) : ∀ (q : List Nat) (t : Tree) (nm : List UInt8) (p : List Int), (chkT t nm p).2 = 0 → HasAt t q →
    chkT (withT t q (.node ou [])) nm p = if ownE ou 0 = 0 then ([], 0) else (p ++ q.map fun i : Nat => (i : Int), ownE ou 0)
  | [], .node o l, nm, p, h, _ => by
    have hn : namedB nm = true := by
      rw [chkT] at h
      split at h
      · rename_i q; exact ownN_name q
      · rename_i q; exact absurd h q
    have e : ownN ou 0 nm = ownE ou 0 := by unfold ownN; rw [hn]; simp
    rw [withT, chkT, chkK, List.length_nil, e, List.map_nil, List.append_nil]
  | i :: q, .node o l, nm, p, h, ⟨hi, hq⟩ => by
    rw [chkT] at h
    split at h
    · rename_i h0
      have hall := chkK_all l 0 p h
      have hk := hall i hi
      rw [withT, dif_pos hi, chkT, List.length_set, if_pos h0, chkK_set l 0 p i _ hi hall]
      have ih := chk_with ou q (l[i]).2 (l[i]).1 (p ++ [((0 + i : Nat) : Int)]) hk hq
      rw [ih]
      by_cases z : ownE ou 0 = 0
      · rw [if_pos z, if_pos z]; rfl
      · rw [if_neg z, if_neg z, List.map_cons, List.append_assoc, Nat.zero_add, if_neg z]
        rfl
    · rename_i h0
      exact absurd h h0
/-- Each path of the list of all leads to a value. -/
theorem all_has : ∀ (t : Tree) (p r : List Int), r ∈ allT t p → ∃ q : List Nat, r = p ++ q.map (fun i : Nat => (i : Int)) ∧ HasAt t q := by
  refine Tree.ind ?_
  intro o l ih p r hr
  rw [allT] at hr
  rcases List.mem_cons.1 hr with rfl | hr
  · exact ⟨[], by simp, by rw [HasAt]; trivial⟩
  have q : ∀ (m : List Kid) (j : Nat), l.drop j = m → r ∈ allK m j p → ∃ (i : Nat) (h : i < l.length), r ∈ allT (l[i]).2 (p ++ [(i : Int)]) := fun m => by
    induction m with
    | nil => intro j _ h; rw [allK] at h; cases h
    | cons x m ihm =>
      intro j hj h
      obtain ⟨n, t⟩ := x
      rw [allK] at h
      have hlt : j < l.length := by
        have := congrArg List.length hj
        rw [List.length_drop, List.length_cons] at this
        omega
      rw [List.drop_eq_getElem_cons hlt] at hj
      injection hj with e1 e2
      rcases List.mem_append.1 h with h | h
      · exact ⟨j, hlt, by rw [e1]; exact h⟩
      · exact ihm (j + 1) e2 h
  obtain ⟨i, hi, h⟩ := q l 0 rfl hr
  obtain ⟨q', e, hq⟩ := ih (l[i]) (List.getElem_mem hi) _ _ h
  refine ⟨i :: q', ?_, by rw [HasAt]; exact ⟨hi, hq⟩⟩
  rw [e, List.map_cons, List.append_assoc]
  rfl
end Go.Proofs.YtfpocpmcoobjkaaDoor
