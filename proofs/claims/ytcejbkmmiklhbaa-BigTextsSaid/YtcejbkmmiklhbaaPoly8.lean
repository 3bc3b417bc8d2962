/-
  Products of lists: the order does not matter, they go part by part, and their value at a place is the product of both; pure. No condition beyond what each lemma asks.
-/
import Derived.Test.YtcejbkmmiklhbaaWaveMath
namespace Go.Proofs.Ytcejbkmmiklhbaa

theorem conv_comm (xs ys : List Int) (t : Nat) : conv xs ys t = conv ys xs t := by
  unfold conv
  rw [sm_swap]
  refine sm_congr fun j _ => sm_congr fun i _ => ?_
  rw [Nat.add_comm i j, Int.mul_comm]
theorem foldL_comm (xs ys : List Int) : foldL xs ys = foldL ys xs := by
  by_cases h : xs.length = 0 ∨ ys.length = 0
  · unfold foldL
    rw [if_pos h, if_pos (by omega)]
  · refine foldL_of (by omega) (by omega) (by rw [foldL_length xs ys (by omega) (by omega)]; omega) (fun t ht => ?_)
    rw [foldL_length xs ys (by omega) (by omega)] at ht
    rw [foldL_get xs ys (by omega) (by omega) ht, conv_comm]

/-- Two lists, added number by number. -/
def addL (ys zs : List Int) : List Int := (List.range ys.length).map fun i => ys.getD i 0 + zs.getD i 0
theorem addL_length (ys zs : List Int) : (addL ys zs).length = ys.length := by simp [addL]
theorem addL_get (ys zs : List Int) (i : Nat) (h : i < ys.length) : (addL ys zs).getD i 0 = ys.getD i 0 + zs.getD i 0 := by simp [addL, List.getD, h]
theorem conv_add (xs ys zs : List Int) (h : zs.length = ys.length) (t : Nat) : conv xs (addL ys zs) t = conv xs ys t + conv xs zs t := by
  unfold conv
  rw [← sm_add, addL_length, h]
  refine sm_congr fun i _ => ?_
  rw [← sm_add]
  refine sm_congr fun j hj => ?_
  rw [addL_get _ _ _ hj]
  by_cases e : i + j = t
  · rw [if_pos e, if_pos e, if_pos e, Int.mul_add]
  · rw [if_neg e, if_neg e, if_neg e]; rfl

theorem conv_bound {xs ys : List Int} {B : Int} (hB : 0 ≤ B) (h : ∀ i j, 0 ≤ xs.getD i 0 * ys.getD j 0 ∧ xs.getD i 0 * ys.getD j 0 ≤ B) (t : Nat) : 0 ≤ conv xs ys t ∧ conv xs ys t ≤ xs.length * (ys.length * B) := by
  unfold conv
  refine sm_bound fun i _ => sm_bound fun j _ => ?_
  have := h i j
  split <;> omega

/-- The value of a list at a place. -/
def ev (X : Int) : List Int → Int
  | [] => 0
  | a :: r => a + X * ev X r
theorem sm_first (n : Nat) (f : Nat → Int) : sm (n + 1) f = f 0 + sm n (fun i => f (i + 1)) := by
  induction n with
  | zero => simp [sm]
  | succ n ih => rw [sm_succ, ih, sm_succ]; omega
theorem ev_sum (X : Int) (xs : List Int) : ev X xs = sm xs.length (fun i => xs.getD i 0 * X ^ i) := by
  induction xs with
  | nil => rfl
  | cons a r ih =>
    rw [List.length_cons, sm_first]
    show a + X * ev X r = _
    rw [ih, ← sm_mul]
    congr 1
    · simp
    · refine sm_congr fun i _ => ?_
      simp only [List.getD_cons_succ]
      rw [Int.pow_succ]
      grind
theorem sm_mul_right (n : Nat) (c : Int) (f : Nat → Int) : sm n (fun i => f i * c) = sm n f * c := by
  rw [Int.mul_comm, ← sm_mul]
  exact sm_congr fun i _ => Int.mul_comm _ _
/-- The product's value is the product of both. -/
theorem ev_fold (X : Int) (xs ys : List Int) : ev X (foldL xs ys) = ev X xs * ev X ys := by
  by_cases h : xs.length = 0 ∨ ys.length = 0
  · have e : foldL xs ys = [] := by unfold foldL; rw [if_pos h]
    rw [e]
    rcases h with h | h
    · rw [List.eq_nil_of_length_eq_zero h]; simp [ev]
    · rw [List.eq_nil_of_length_eq_zero h]; simp [ev]
  · rw [ev_sum, ev_sum, ev_sum, foldL_length xs ys (by omega) (by omega)]
    have e1 : sm (xs.length + ys.length - 1) (fun t => (foldL xs ys).getD t 0 * X ^ t)
        = sm (xs.length + ys.length - 1) (fun t => sm xs.length (fun i => sm ys.length (fun j => if i + j = t then xs.getD i 0 * ys.getD j 0 * X ^ t else 0))) := by
      refine sm_congr fun t ht => ?_
      rw [foldL_get xs ys (by omega) (by omega) ht, conv, ← sm_mul_right]
      refine sm_congr fun i _ => ?_
      rw [← sm_mul_right]
      refine sm_congr fun j _ => ?_
      by_cases e : i + j = t
      · rw [if_pos e, if_pos e]
      · rw [if_neg e, if_neg e, Int.zero_mul]
    rw [e1, sm_swap, ← sm_mul_right]
    refine sm_congr fun i hi => ?_
    rw [sm_swap, ← sm_mul]
    refine sm_congr fun j hj => ?_
    rw [sm_at (xs.length + ys.length - 1) (i + j) (fun t => xs.getD i 0 * ys.getD j 0 * X ^ t), if_pos (by omega), Int.pow_add]
    grind

/-- Numbers brought below 32768. -/
def fewL (xs : List Int) : List Int := xs.map fun x => x % 32768
theorem fewL_length (xs : List Int) : (fewL xs).length = xs.length := by simp [fewL]
theorem fewL_get (xs : List Int) (i : Nat) : (fewL xs).getD i 0 = xs.getD i 0 % 32768 := by
  by_cases h : i < xs.length
  · simp [fewL, List.getD, h]
  · simp [fewL, List.getD, List.getElem?_eq_none (show xs.length ≤ i by omega)]
theorem fewL_snoc (xs : List Int) (i : Nat) (h : i < xs.length) : fewL (xs.take (i + 1)) = fewL (xs.take i) ++ [xs.getD i 0 % 32768] := by
  rw [List.take_succ_eq_append_getElem h]
  unfold fewL
  rw [List.map_append]
  congr 1
  simp [List.getD, h]

end Go.Proofs.Ytcejbkmmiklhbaa
