/-
  Pure: a small tree's bytes are few; what a path leads to is so, too; no condition but the lemmas' own.
-/
import Derived.Test.YtmkgcifcfgfegaaKids18
import Derived.Test.YtmkgcifcfgfegaaSmall17
import Derived.Test.YtmkgcifcfgfegaaRows17
namespace Go.Proofs.Ytmkgcifcfgfegaa

mutual
/-- Its bytes and its Kids are no more than a copy may have. -/
def briefT : Tree → Prop
  | .node o l => o.bytes.length ≤ 100000000 ∧ l.length ≤ 1000000 ∧ briefK l
def briefK : List (List UInt8 × Tree) → Prop
  | [] => True
  | (_, t) :: l => briefT t ∧ briefK l
end
theorem briefK_get : ∀ {l : List Kid} {k : Nat} (_ : briefK l) (h : k < l.length), briefT (l[k]).2
  | (_, _) :: _, 0, hf, _ => by rw [briefK] at hf; exact hf.1
  | (_, _) :: _, _ + 1, hf, h => by rw [briefK] at hf; exact briefK_get hf.2 (Nat.lt_of_succ_lt_succ h)
theorem room_brief : ∀ (t : Tree) (a : Int), -1 ≤ a → a ≤ 1000000 → cntT t ≤ 1000000 → 0 ≤ roomT a t → briefT t := by
  refine Tree.ind ?_
  intro o l ih a h h2 hc g
  rw [roomT] at g
  rw [briefT]
  rw [cntT] at hc
  have h1 := roomL_le [2, o.text.length, o.more.length, o.bytes.length] a h
  have e1 := roomL_each [2, o.text.length, o.more.length, o.bytes.length] a h
  generalize roomL a [2, o.text.length, o.more.length, o.bytes.length] = z at *
  have q : ∀ m : List Kid, (∀ x ∈ m, x ∈ l) → ∀ a, -1 ≤ a → a ≤ 1000000 → cntK m ≤ 1000000 → 0 ≤ roomK a m → briefK m := fun m => by
    induction m with
    | nil => intro _ a _ _ _ _; rw [briefK]; trivial
    | cons x m ihm =>
      intro hm a h h2 hc g
      obtain ⟨n, t⟩ := x
      rw [roomK] at g
      rw [briefK]
      rw [cntK] at hc
      split at g
      · omega
      · have h4 := roomL_le [n.length] a h
        have h3 := roomT_le t (roomL a [n.length]) h4.1
        have h5 : 0 ≤ roomT (roomL a [n.length]) t := by
          rcases Int.lt_or_le (roomT (roomL a [n.length]) t) 0 with q | q
          · rw [roomK_neg q] at g; omega
          · exact q
        have h6 : briefT t := ih (n, t) (hm _ (.head _)) _ h4.1 (by omega) (show cntT t ≤ 1000000 by omega) h5
        exact ⟨h6, ihm (fun y hy => hm y (.tail _ hy)) _ h3.1 (by omega) (by omega) g⟩
  have h3 : 0 ≤ z := by
    rcases Int.lt_or_le z 0 with p | p
    · rw [roomK_neg p] at g; omega
    · exact p
  have a1 := e1 h3 o.bytes.length (by simp)
  have a2 := len_le_cnt l
  exact ⟨by omega, by omega, q l (fun _ h => h) z h1.1 (by omega) (by omega) g⟩
theorem small_brief {t : Tree} (h : smallB t = true) : briefT t :=
  room_brief t 1200 (by omega) (by omega) (by have := small_cnt h; omega) (of_decide_eq_true h)
theorem get_brief : ∀ (p : List Int) (t u : Tree), briefT t → getT t p = some u → briefT u
  | [], .node o l, u, h, e => by rw [getT] at e; cases e; exact h
  | i :: p, .node o l, u, h, e => by
    rw [getT] at e
    split at e
    · rw [briefT] at h
      exact get_brief p _ u (briefK_get h.2.2 _) e
    · cases e
theorem get_cnt : ∀ (p : List Int) (t u : Tree), getT t p = some u → cntT u ≤ cntT t
  | [], .node o l, u, e => by rw [getT] at e; cases e; exact Nat.le_refl _
  | i :: p, .node o l, u, e => by
    rw [getT] at e
    split at e
    · rename_i h
      have h1 := get_cnt p _ u e
      have h2 := cntT_kid (l := l) (i := i.toNat) (by omega)
      rw [cntT]
      omega
    · cases e
end Go.Proofs.Ytmkgcifcfgfegaa
