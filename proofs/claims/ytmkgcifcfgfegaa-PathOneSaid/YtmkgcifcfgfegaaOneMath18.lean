/-
  Pure: names of a small tree are short; a value with its Bits turned; what the law PathOne says of trees (chapter 18); no condition but the lemmas' own.
-/
import Derived.Test.YtmkgcifcfgfegaaBrief18
namespace Go.Proofs.Ytmkgcifcfgfegaa

mutual
/-- Its names are short. -/
def shortT : Tree → Prop
  | .node _ l => shortK l
def shortK : List (List UInt8 × Tree) → Prop
  | [] => True
  | (n, t) :: l => n.length ≤ 1000000 ∧ shortT t ∧ shortK l
end
theorem shortK_get : ∀ {l : List Kid} {k : Nat} (_ : shortK l) (h : k < l.length), (l[k]).1.length ≤ 1000000 ∧ shortT (l[k]).2
  | (_, _) :: _, 0, hf, _ => by rw [shortK] at hf; exact ⟨hf.1, hf.2.1⟩
  | (_, _) :: _, _ + 1, hf, h => by rw [shortK] at hf; exact shortK_get hf.2.2 (Nat.lt_of_succ_lt_succ h)
theorem room_short : ∀ (t : Tree) (a : Int), -1 ≤ a → a ≤ 1000000 → 0 ≤ roomT a t → shortT t := by
  refine Tree.ind ?_
  intro o l ih a h h2 g
  rw [roomT] at g
  rw [shortT]
  have h1 := roomL_le [2, o.text.length, o.more.length, o.bytes.length] a h
  generalize roomL a [2, o.text.length, o.more.length, o.bytes.length] = z at *
  have q : ∀ m : List Kid, (∀ x ∈ m, x ∈ l) → ∀ a, -1 ≤ a → a ≤ 1000000 → 0 ≤ roomK a m → shortK m := fun m => by
    induction m with
    | nil => intro _ a _ _ _; rw [shortK]; trivial
    | cons x m ihm =>
      intro hm a h h2 g
      obtain ⟨n, t⟩ := x
      rw [roomK] at g
      rw [shortK]
      split at g
      · omega
      · have h4 := roomL_le [n.length] a h
        have e2 := roomL_each [n.length] a h
        have h3 := roomT_le t (roomL a [n.length]) h4.1
        have h5 : 0 ≤ roomT (roomL a [n.length]) t := by
          rcases Int.lt_or_le (roomT (roomL a [n.length]) t) 0 with q | q
          · rw [roomK_neg q] at g; omega
          · exact q
        have h6 : shortT t := ih (n, t) (hm _ (.head _)) _ h4.1 (by omega) h5
        have h7 := e2 (by omega) n.length (.head _)
        exact ⟨by omega, h6, ihm (fun y hy => hm y (.tail _ hy)) _ h3.1 (by omega) g⟩
  exact q l (fun _ h => h) z h1.1 (by omega) g
theorem small_short {t : Tree} (h : smallB t = true) : shortT t := room_short t 1200 (by omega) (by omega) (of_decide_eq_true h)
theorem short_sub : ∀ (q : List Nat) (t : Tree), HasAt t q → shortT t → shortT (subT t q)
  | [], .node o l, _, h => by rw [subT]; exact h
  | i :: q, .node o l, ⟨hi, hq⟩, h => by
    rw [subT, dif_pos hi]
    rw [shortT] at h
    exact short_sub q _ hq (shortK_get h hi).2
/-- The same with its Bits turned. -/
def turnO (o : OwnV) : OwnV := ⟨o.kind, o.bits ^^^ 1, o.high, o.low, o.text, o.more, o.sub, o.bytes⟩
theorem turn_ne (o : OwnV) : o ≠ turnO o := fun e => by
  have h : o.bits = o.bits ^^^ 1 := congrArg OwnV.bits e
  have h2 := congrArg (o.bits ^^^ ·) h
  simp only [Nat.xor_self, ← Nat.xor_assoc, Nat.zero_xor] at h2
  cases h2
theorem turn_fits {o : OwnV} (h : OwnFits o) : OwnFits (turnO o) :=
  ⟨h.k0, h.k1, Nat.xor_lt_two_pow (n := 64) h.bits (by decide), h.high, h.low, h.s0, h.s1, h.text, h.more, h.bytes⟩
theorem one_own {t : Tree} {q : List Nat} {o : OwnV} {l : List Kid} (h : HasAt t q) (hs : subT t q = .node o l) : diffT t (withT t q (.node (turnO o) l)) [] = some [q.map fun i : Nat => (i : Int)] := by
  rw [diff_at _ q t [] h, hs, List.nil_append, diff_own (turn_ne o)]
theorem one_name {t : Tree} {q : List Nat} {o : OwnV} {n : List UInt8} {x : Tree} {l : List Kid} (h : HasAt t q) (hs : subT t q = .node o ((n, x) :: l)) : diffT t (withT t q (.node o ((n ++ [43], x) :: l))) [] = none := by
  rw [diff_at _ q t [] h, hs]
  exact diff_name (fun e => by have := congrArg List.length e; simp at this) _
theorem one_less {t : Tree} {q : List Nat} {o : OwnV} {x : Kid} {l : List Kid} (h : HasAt t q) (hs : subT t q = .node o (x :: l)) : diffT t (withT t q (.node o l)) [] = none := by
  rw [diff_at _ q t [] h, hs]
  exact diff_less (by simp) _
theorem all_short18 : ∀ (t : Tree) (p r : List Int), r ∈ allT t p → r.length + 1 ≤ p.length + cntT t := by
  refine Tree.ind ?_
  intro o l ih p r hr
  have q : ∀ (m : List Kid) (j : Nat), (∀ x ∈ m, x ∈ l) → r ∈ allK m j p → r.length + 1 ≤ p.length + 1 + cntK m := fun m => by
    induction m with
    | nil => intro j _ h; rw [allK] at h; cases h
    | cons x m ihm =>
      intro j hm h
      obtain ⟨n, t⟩ := x
      rw [allK] at h
      rw [cntK]
      rcases List.mem_append.1 h with h | h
      · have := ih (n, t) (hm _ (.head _)) _ _ h
        simp only [List.length_append, List.length_cons, List.length_nil] at this
        omega
      · have := ihm (j + 1) (fun y hy => hm y (.tail _ hy)) h
        omega
  rw [allT] at hr
  rw [cntT]
  rcases List.mem_cons.1 hr with rfl | hr
  · omega
  · have := q l 0 (fun _ h => h) hr
    omega
theorem all_subs {t : Tree} {r : List Int} (h : r ∈ allT t []) : ∃ q : List Nat, r = q.map (fun i : Nat => (i : Int)) ∧ HasAt t q ∧ getT t r = some (subT t q) := by
  obtain ⟨q, e, hq⟩ := all_has t [] r h
  rw [List.nil_append] at e
  subst e
  exact ⟨q, rfl, hq, get_sub q t hq⟩
end Go.Proofs.Ytmkgcifcfgfegaa
