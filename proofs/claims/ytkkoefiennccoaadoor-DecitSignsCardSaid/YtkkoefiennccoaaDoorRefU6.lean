/-
  What the document's Up and Down do; no condition beyond what each contract asks.
-/
import Derived.Test.YtkkoefiennccoaaDoorRefB6

namespace Go.Proofs.YtkkoefiennccoaaDoor
open Go.RowKit
theorem twice_parts (m : Nat) : (m * 2 % 340282366920938463463374607431768211456) / 18446744073709551616 = (m / 18446744073709551616 * 2 % 18446744073709551616 + m % 18446744073709551616 / 9223372036854775808) % 18446744073709551616 ∧
    (m * 2 % 340282366920938463463374607431768211456) % 18446744073709551616 = m % 18446744073709551616 * 2 % 18446744073709551616 := by omega
theorem half_parts (m : Nat) : m / 2 / 18446744073709551616 = m / 18446744073709551616 / 2 ∧ m / 2 % 18446744073709551616 = m / 18446744073709551616 % 2 * 9223372036854775808 + m % 18446744073709551616 / 2 := by omega
theorem up_next (a i N : Nat) : a * 2 ^ i % N * 2 % N = a * 2 ^ (i + 1) % N := by rw [Nat.mod_mul_mod, Nat.pow_succ, Nat.mul_assoc]
theorem down_next (a i : Nat) : a / 2 ^ i / 2 = a / 2 ^ (i + 1) := by rw [Nat.div_div_eq_div_mul, Nat.pow_succ]
theorem far_le (n : Int) : far n ≤ 128 := by unfold far; omega
theorem far_go {n : Int} {i : Nat} (h : i < far n) : decide ((i : Int) < n) = true ∧ decide ((i : Int) < 128) = true := by
  unfold far at h
  exact ⟨decide_eq_true (by omega), decide_eq_true (by omega)⟩
theorem far_end {n : Int} {i : Nat} (h : i = far n) : decide ((i : Int) < n) = false ∨ (decide ((i : Int) < n) = true ∧ decide ((i : Int) < 128) = false) := by
  unfold far at h
  by_cases hn : (i : Int) < n
  · exact .inr ⟨decide_eq_true hn, decide_eq_false (by omega)⟩
  · exact .inl (decide_eq_false hn)
/-- What holds at the head of the loop: the box holds m, the result is still zero. -/
structure MoveAt (w : World) (m : Nat) (wr : World) : Prop where
  box : wr.heap[w.heap.size]? = some (.cells #[.int .u64 ((m / 18446744073709551616 : Nat) : Int), .int .u64 ((m % 18446744073709551616 : Nat) : Int)] 29 (0, 0))
  res : wr.heap[w.heap.size + 1]? = some (.cells #[.int .u64 0, .int .u64 0] 29 (0, 0))
  low : Below w.heap.size w wr
theorem MoveAt.first {w : World} {m a1 a0 : Nat} (h1 : a1 = m / 18446744073709551616) (h0 : a0 = m % 18446744073709551616) : MoveAt w m ((w.alloc (Obj.cells #[.int .u64 (a1 : Int), .int .u64 (a0 : Int)] 29)).alloc (Obj.cells #[.int .u64 0, .int .u64 0] 29)) := by
  subst h1 h0
  refine ⟨?_, ?_, ((Below.refl _ _).alloc (Nat.le_refl _) _).alloc (by simp) _⟩
  · rw [Below.heap_alloc _ _ _ (by simp)]
    exact heap_alloc_new _ _
  · have h := heap_alloc_new (w.alloc (Obj.cells #[.int .u64 ((m / 18446744073709551616 : Nat) : Int), .int .u64 ((m % 18446744073709551616 : Nat) : Int)] 29)) (Obj.cells #[.int .u64 0, .int .u64 0] 29)
    simpa using h
theorem MoveAt.next {w wr w2 : World} {m m' h l : Nat} (H : MoveAt w m wr) (h1 : h = m' / 18446744073709551616) (h0 : l = m' % 18446744073709551616) (e : w2 = (wr.setCell ⟨w.heap.size, 0, none⟩ (.int .u64 (h : Int))).setCell ⟨w.heap.size, 1, none⟩ (.int .u64 (l : Int))) : MoveAt w m' w2 := by
  subst e h1 h0
  refine ⟨two_set H.box, ?_, below_two H.low (Nat.le_refl _) _ _⟩
  rw [Below.heap_setCell _ _ _ _ (by simp), Below.heap_setCell _ _ _ _ (by simp)]
  exact H.res
end Go.Proofs.YtkkoefiennccoaaDoor
