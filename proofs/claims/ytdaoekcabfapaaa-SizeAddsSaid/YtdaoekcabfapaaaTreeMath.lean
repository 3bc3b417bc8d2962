/-
  Trees of values, as the document has them: what each has, how many values, how deep, alike; pure.
-/
import Derived.Lib.Hide
namespace Go.Proofs.Ytdaoekcabfapaaa

/-- A value's own fields, its Kids apart. -/
structure OwnV where
  kind : Int
  bits : Nat
  high : Nat
  low : Nat
  text : List UInt8
  more : List UInt8
  sub : Int
  bytes : List UInt8
deriving DecidableEq
inductive Tree
  | node (o : OwnV) (kids : List (List UInt8 × Tree))
abbrev Kid := List UInt8 × Tree
def Tree.own : Tree → OwnV
  | .node o _ => o
def Tree.kids : Tree → List Kid
  | .node _ l => l
mutual
/-- How many values. -/
def cntT : Tree → Nat
  | .node _ l => 1 + cntK l
def cntK : List (List UInt8 × Tree) → Nat
  | [] => 0
  | (_, t) :: l => cntT t + cntK l
end
mutual
/-- How deep the Kids stand in one another, whatever the Kinds: for inductions. -/
def tall : Tree → Nat
  | .node _ l => tallK l + 1
def tallK : List (List UInt8 × Tree) → Nat
  | [] => 0
  | (_, t) :: l => max (tall t) (tallK l)
end
theorem tall_kid {o : OwnV} {l : List Kid} {x : Kid} (h : x ∈ l) : tall x.2 < tall (.node o l) := by
  have q : ∀ l : List Kid, x ∈ l → tall x.2 ≤ tallK l := fun l => by
    induction l with
    | nil => intro h; cases h
    | cons y l ih =>
      intro h
      obtain ⟨n, t⟩ := y
      rw [tallK]
      rcases List.mem_cons.1 h with rfl | h
      · exact Nat.le_max_left _ _
      · exact Nat.le_trans (ih h) (Nat.le_max_right _ _)
  rw [tall]
  exact Nat.lt_succ_of_le (q l h)
/-- By induction on trees: it is so of a node, if it is so of all its Kids. -/
theorem Tree.ind {p : Tree → Prop} (h : ∀ o l, (∀ x ∈ l, p x.2) → p (.node o l)) : ∀ t, p t := by
  have q : ∀ n t, tall t ≤ n → p t := fun n => by
    induction n with
    | zero => intro t ht; cases t; rw [tall] at ht; omega
    | succ n ih =>
      intro t ht
      cases t with
      | node o l => exact h o l fun x hx => ih x.2 (by have := tall_kid (o := o) hx; omega)
  exact fun t => q _ t (Nat.le_refl _)
end Go.Proofs.Ytdaoekcabfapaaa
