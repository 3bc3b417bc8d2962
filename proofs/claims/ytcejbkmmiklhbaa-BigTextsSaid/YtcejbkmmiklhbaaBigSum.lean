/-
  Numbers as sums of digits times powers; rows that are filled number by number; what a product of rows of digits comes to; pure. No condition beyond what each lemma asks.
-/
import Derived.Test.YtcejbkmmiklhbaaBigD
namespace Go.Proofs.Ytcejbkmmiklhbaa
open Go.RowKit

theorem cast_getD (xs : List Nat) (i : Nat) : (xs.map fun x : Nat => (x : Int)).getD i 0 = ((xs.getD i 0 : Nat) : Int) := by
  by_cases h : i < xs.length
  · simp [List.getD, h]
  · simp [List.getD, List.getElem?_eq_none (Nat.le_of_not_lt h)]
theorem nv_sum (xs : List Nat) (n : Nat) (h : xs.length ≤ n) : sm n (fun i => ((xs.getD i 0 : Nat) : Int) * 65536 ^ i) = (nv xs : Int) := by
  rw [← ev_eq, ev_sum, List.length_map, sm_more h (fun i hi => by rw [nv_past hi]; simp)]
  exact sm_congr fun i _ => by rw [cast_getD]

/-- A row of n numbers, of which i have been laid. -/
def fillL (n i : Nat) (f : Nat → Int) : List Int := (List.range n).map fun t => if t < i then f t else 0
theorem fillL_length (n i : Nat) (f : Nat → Int) : (fillL n i f).length = n := by simp [fillL]
theorem fillL_get (n i : Nat) (f : Nat → Int) (t : Nat) (h : t < n) : (fillL n i f).getD t 0 = if t < i then f t else 0 := by simp [fillL, List.getD, h]
theorem fillL_zero (n : Nat) (f : Nat → Int) : fillL n 0 f = List.replicate n 0 := by
  apply List.ext_getElem
  · simp [fillL]
  · intro t h1 h2
    simp [fillL]
theorem fillL_next (n i : Nat) (f : Nat → Int) : (intCells (fillL n i f)).set i (.int .i64 (f i)) = intCells (fillL n (i + 1) f) := by
  apply List.ext_getElem
  · simp [fillL, intCells]
  · intro t h1 h2
    simp only [fillL, intCells, List.length_map, List.length_range] at h2
    rw [List.getElem_set]
    by_cases h : i = t
    · subst h
      rw [if_pos rfl]
      simp [intCells, fillL]
    · rw [if_neg h]
      simp only [intCells, fillL, List.getElem_map, List.getElem_range]
      by_cases h2 : t < i
      · rw [if_pos h2, if_pos (by omega)]
      · rw [if_neg h2, if_neg (by omega)]
theorem fill_ev (n : Nat) (f : Nat → Int) : ev 65536 (fillL n n f) = sm n (fun i => f i * 65536 ^ i) := by
  rw [ev_sum, fillL_length]
  exact sm_congr fun i hi => by rw [fillL_get _ _ _ _ hi, if_pos hi]
/-- The loop that fills a row. -/
def FillAt (w : World) (gl n : Nat) (f : Nat → Int) (v : Value) (wr : World) : Prop :=
  ∃ i : Nat, i ≤ n ∧ v = .int .i64 (i : Int) ∧ Row wr gl 3 (intCells (fillL n i f)) ∧ Below w.heap.size w wr

theorem ev_sumd (xs ys : List Nat) (n : Nat) (hx : xs.length ≤ n) (hy : ys.length ≤ n) : ev 65536 (fillL n n fun i => (xs.getD i 0 : Nat) + (ys.getD i 0 : Nat)) = ((nv xs + nv ys : Nat) : Int) := by
  rw [fill_ev, sm_congr (g := fun i => ((xs.getD i 0 : Nat) : Int) * 65536 ^ i + ((ys.getD i 0 : Nat) : Int) * 65536 ^ i) (fun i _ => by rw [Int.add_mul]), sm_add, nv_sum xs n hx, nv_sum ys n hy]
  simp
theorem ev_diff (xs ys : List Nat) (n : Nat) (hx : xs.length ≤ n) (hy : ys.length ≤ n) (h : nv ys ≤ nv xs) : ev 65536 (fillL n n fun i => (xs.getD i 0 : Nat) - (ys.getD i 0 : Nat)) = ((nv xs - nv ys : Nat) : Int) := by
  rw [fill_ev, sm_congr (g := fun i => ((xs.getD i 0 : Nat) : Int) * 65536 ^ i + (-1) * (((ys.getD i 0 : Nat) : Int) * 65536 ^ i)) (fun i _ => by grind), sm_add, sm_mul, nv_sum xs n hx, nv_sum ys n hy]
  omega
/-- A row of digits as numbers. -/
def ns (xs : List Nat) : List Int := xs.map fun x : Nat => (x : Int)
theorem ns_length (xs : List Nat) : (ns xs).length = xs.length := by simp [ns]
theorem fill_ns (xs : List Nat) (n : Nat) (h : xs.length = n) : fillL n n (fun i => (xs.getD i 0 : Nat)) = ns xs := by
  subst h
  apply List.ext_getElem
  · simp [fillL, ns]
  · intro t h1 h2
    simp only [ns, List.length_map] at h2
    simp [fillL, ns, h2]
theorem ns_dig {xs : List Nat} (h : Dg xs) (hl : xs.length ≤ 256) : Dig (ns xs) := ⟨by rw [ns_length]; exact hl, fun i _ => by
  unfold ns
  rw [cast_getD]
  have := h.get i
  omega⟩
theorem ev_prod (xs ys : List Nat) : ev 65536 (foldL (ns xs) (ns ys)) = ((nv xs * nv ys : Nat) : Int) := by
  rw [ev_fold]
  unfold ns
  rw [ev_eq, ev_eq]
  simp
theorem prodB {xs ys : List Nat} (hx : Dg xs) (hy : Dg ys) (lx : xs.length ≤ 256) (ly : ys.length ≤ 256) (i : Nat) (hi : i < (foldL (ns xs) (ns ys)).length) : -281474976710656 ≤ (foldL (ns xs) (ns ys)).getD i 0 ∧ (foldL (ns xs) (ns ys)).getD i 0 ≤ 281474976710656 := by
  by_cases h : xs.length = 0 ∨ ys.length = 0
  · exfalso
    unfold foldL at hi
    rw [ns_length, ns_length, if_pos h] at hi
    simp at hi
  · have x0 : (ns xs).length ≠ 0 := by rw [ns_length]; omega
    have y0 : (ns ys).length ≠ 0 := by rw [ns_length]; omega
    rw [foldL_length _ _ x0 y0] at hi
    rw [foldL_get _ _ x0 y0 hi]
    have hb := conv_bound (xs := ns xs) (ys := ns ys) (B := 4294836225) (by decide) (fun i j => by
      unfold ns
      rw [cast_getD, cast_getD]
      have h1 := hx.get i; have h2 := hy.get j
      have h3 : xs.getD i 0 * ys.getD j 0 ≤ 65535 * 65535 := Nat.mul_le_mul (by omega) (by omega)
      have h4 : ((xs.getD i 0 : Nat) : Int) * ((ys.getD j 0 : Nat) : Int) = ((xs.getD i 0 * ys.getD j 0 : Nat) : Int) := by simp
      rw [h4]
      omega) i
    rw [ns_length, ns_length] at hb
    refine ⟨by have := hb.1; omega, Int.le_trans hb.2 ?_⟩
    have e1 : ((xs.length : Int) * ((ys.length : Int) * 4294836225)) = ((xs.length * ys.length : Nat) : Int) * 4294836225 := by simp [Int.mul_assoc]
    rw [e1]
    have h5 : xs.length * ys.length ≤ 256 * 256 := Nat.mul_le_mul lx ly
    generalize xs.length * ys.length = z at h5
    omega

end Go.Proofs.Ytcejbkmmiklhbaa
