/-
  Pure: how many bytes a tree has in BSON (chapter 19); a small tree's are few; no condition but the lemmas' own.
-/
import Derived.Test.YtdaoekcabfapaaaSmall17
namespace Go.Proofs.Ytdaoekcabfapaaa

/-- A value's bytes, its Kids' given. -/
def sizeO (o : OwnV) (ks : Nat) : Nat :=
  if o.kind = 1 ∨ o.kind = 9 ∨ o.kind = 17 ∨ o.kind = 18 then 8
  else if o.kind = 16 then 4
  else if o.kind = 8 then 1
  else if o.kind = 19 then 16
  else if o.kind = 2 ∨ o.kind = 13 ∨ o.kind = 14 then o.text.length + 5
  else if o.kind = 11 then o.text.length + o.more.length + 2
  else if o.kind = 5 then (if o.sub = 2 then o.bytes.length + 5 + 4 else o.bytes.length + 5)
  else if o.kind = 7 then 12
  else if o.kind = 12 then o.text.length + 17
  else if o.kind = 3 ∨ o.kind = 4 then 5 + ks
  else if o.kind = 15 then 5 + ks + o.text.length + 9
  else 0
mutual
/-- How many bytes it has. -/
def sizeT : Tree → Nat
  | .node o l => sizeO o (sizeK l)
def sizeK : List (List UInt8 × Tree) → Nat
  | [] => 0
  | (n, t) :: l => n.length + 2 + sizeT t + sizeK l
end
theorem sizeO_le (o : OwnV) (ks : Nat) : sizeO o ks ≤ o.text.length + o.more.length + o.bytes.length + 17 + ks := by
  unfold sizeO
  repeat' split
  all_goals omega
theorem roomL_sum : ∀ (xs : List Nat) (a : Int), -1 ≤ a → 0 ≤ roomL a xs → (xs.sum : Int) + roomL a xs = a
  | [], a, _, _ => by rw [roomL]; simp
  | x :: xs, a, h, g => by
    rw [roomL] at g ⊢
    split at g
    · omega
    · rename_i hc
      rw [if_neg hc]
      have := roomL_sum xs (a - x) (by omega) g
      rw [List.sum_cons]
      push_cast
      omega
theorem room_size : ∀ (t : Tree) (a : Int), -1 ≤ a → 0 ≤ roomT a t → (sizeT t : Int) + 2 + 10 * roomT a t ≤ 10 * a := by
  refine Tree.ind ?_
  intro o l ih a h g
  rw [roomT] at g ⊢
  rw [sizeT]
  have h1 := roomL_le [2, o.text.length, o.more.length, o.bytes.length] a h
  have h4 := roomL_sum [2, o.text.length, o.more.length, o.bytes.length] a h
  have h5 := sizeO_le o (sizeK l)
  generalize roomL a [2, o.text.length, o.more.length, o.bytes.length] = z at *
  have q : ∀ m : List Kid, (∀ x ∈ m, x ∈ l) → ∀ a, -1 ≤ a → 0 ≤ roomK a m → (sizeK m : Int) + 10 * roomK a m ≤ 10 * a := fun m => by
    induction m with
    | nil => intro _ a _ g; rw [roomK] at g ⊢; rw [sizeK]; simp
    | cons x m ihm =>
      intro hm a h g
      obtain ⟨n, t⟩ := x
      rw [roomK] at g ⊢
      rw [sizeK]
      split at g
      · omega
      · rename_i ha
        rw [if_neg ha]
        have h4 := roomL_le [n.length] a h
        have h6 := roomL_sum [n.length] a h
        have h3 := roomT_le t (roomL a [n.length]) h4.1
        have h5 : 0 ≤ roomT (roomL a [n.length]) t := by
          rcases Int.lt_or_le (roomT (roomL a [n.length]) t) 0 with q | q
          · rw [roomK_neg q] at g; omega
          · exact q
        have h7 := ih (n, t) (hm _ (.head _)) _ h4.1 h5
        have h8 := ihm (fun y hy => hm y (.tail _ hy)) _ h3.1 g
        have h9 := h6 (by omega)
        simp only [List.sum_cons, List.sum_nil] at h9
        have h7 : (sizeT t : Int) + 2 + 10 * roomT (roomL a [n.length]) t ≤ 10 * roomL a [n.length] := h7
        push_cast
        omega
  have h3 : 0 ≤ z := by
    rcases Int.lt_or_le z 0 with p | p
    · rw [roomK_neg p] at g; omega
    · exact p
  have h6 := q l (fun _ h => h) z h1.1 g
  have h7 := h4 h3
  simp only [List.sum_cons, List.sum_nil] at h7
  omega
theorem small_size {t : Tree} (h : smallB t = true) : sizeT t ≤ 12000 := by
  have h1 : 0 ≤ roomT 1200 t := of_decide_eq_true h
  have := room_size t 1200 (by omega) h1
  omega
theorem sizeK_step {l : List Kid} {k : Nat} (h : k < l.length) : sizeK (l.drop k) = (l[k]).1.length + 2 + sizeT (l[k]).2 + sizeK (l.drop (k + 1)) := by
  rw [List.drop_eq_getElem_cons h, sizeK]
theorem sizeK_snoc : ∀ (l : List Kid) (n : List UInt8) (t : Tree), sizeK (l ++ [(n, t)]) = sizeK l + n.length + 2 + sizeT t
  | [], n, t => by simp [sizeK]
  | (n', t') :: l, n, t => by
    rw [List.cons_append, sizeK, sizeK, sizeK_snoc l n t]
    omega
/-- A Kid's bytes are no more than its list's. -/
theorem sizeK_kid {l : List Kid} {k : Nat} (h : k < l.length) : (l[k]).1.length + 2 + sizeT (l[k]).2 + sizeK (l.drop (k + 1)) ≤ sizeK (l.drop k) := by
  rw [sizeK_step h]; exact Nat.le_refl _
theorem sizeK_drop : ∀ (l : List Kid) (k : Nat), sizeK (l.drop k) ≤ sizeK l
  | [], k => by simp
  | _ :: l, 0 => Nat.le_refl _
  | (n, t) :: l, k + 1 => by
    rw [List.drop_succ_cons, sizeK]
    have := sizeK_drop l k
    omega
end Go.Proofs.Ytdaoekcabfapaaa
