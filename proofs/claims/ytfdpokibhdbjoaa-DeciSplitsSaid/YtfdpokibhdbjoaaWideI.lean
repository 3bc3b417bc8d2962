/-
  What wide's Text does; no condition beyond what the contract asks.
  What wide's Parse does; no condition beyond what the contract asks.
-/
import Derived.Test.YtfdpokibhdbjoaaWideG

namespace Go.Proofs.Ytfdpokibhdbjoaa
open Go.RowKit
end Go.Proofs.Ytfdpokibhdbjoaa
namespace Go.Proofs.Ytfdpokibhdbjoaa
open Go.RowKit
theorem at_txt (l : List UInt8) (kd : IntKind) (i : Int) (j : Nat) (hi : i = (j : Int)) (hj : j < l.length) (w : World) :
    (Instr.index 9 (.string ⟨l.toArray⟩) (.int kd i)).run Try.prog w = .ok (.int .u8 ((l.getD j 0).toNat : Int)) w := by
  subst hi
  rw [run_index_string w _ _ _ _ Try.underlying9, dif_pos ⟨by omega, by simp [ByteArray.size]; omega⟩]
  have e : (⟨l.toArray⟩ : ByteArray)[((j : Int)).toNat]'(by simp [ByteArray.size]; omega) = l.getD j 0 := by
    show l.toArray[((j : Int)).toNat]'(by simp; omega) = l.getD j 0
    simp [List.getD, hj]
  rw [e]
theorem rd_at {s : List UInt8} {v k : Nat} (h : k < s.length) : rd v (s.drop k) =
    if (s.getD k 0).toNat < 48 ∨ 57 < (s.getD k 0).toNat then none else if 340282366920938463463374607431768211456 ≤ v * 10 + ((s.getD k 0).toNat - 48) then none else rd (v * 10 + ((s.getD k 0).toNat - 48)) (s.drop (k + 1)) := by
  have e : s.drop k = s.getD k 0 :: s.drop (k + 1) := by
    rw [List.drop_eq_getElem_cons h]
    simp [List.getD, h]
  rw [e, rd]
/-- What Parse answers. -/
def parV (r : Option Nat) : Value := .tuple #[wv (r.getD 0), .bool r.isSome]
theorem parV_none {r : Option Nat} (h : r = none) : Ending.returned (.tuple #[.agg #[.int .u64 0, .int .u64 0], .bool false]) = .returned (parV r) := by rw [h]; rfl
theorem parV_some {r : Option Nat} {v a1 a0 : Nat} (h : r = some v) (h1 : a1 = v / 18446744073709551616) (h0 : a0 = v % 18446744073709551616) : Ending.returned (.tuple #[.agg #[.int .u64 (a1 : Int), .int .u64 (a0 : Int)], .bool true]) = .returned (parV r) := by
  rw [h, h1, h0]; rfl
/-- What holds at the head of Parse's loop. -/
structure ParseAt (w : World) (s : List UInt8) (k v : Nat) (wr : World) : Prop where
  hk : k ≤ s.length
  hv : v < 340282366920938463463374607431768211456
  res : wr.heap[w.heap.size]? = some (.cells #[.int .u64 0, .int .u64 0] 25 (0, 0))
  box : wr.heap[w.heap.size + 1]? = some (.cells #[.int .u64 ((v / 18446744073709551616 : Nat) : Int), .int .u64 ((v % 18446744073709551616 : Nat) : Int)] 25 (0, 0))
  low : Below w.heap.size w wr
  told : rd 0 s = rd v (s.drop k)
def ParseIs (w : World) (s : List UInt8) (x : Value) (wr : World) : Prop := ∃ k v, x = .int .i64 ((k : Nat) : Int) ∧ ParseAt w s k v wr
/-- What stands behind 'sum, over := ..': a pointer to a new block that holds the sum, and whether it went beyond. -/
def SumCut (W : World) (m l o : Nat) (s8 s9 : Value) (wx : World) : Prop :=
  ∃ g : Nat, s8 = .pointer (some ⟨g, 0, none⟩) ∧ s9 = .bool ((o : Int) != 0) ∧ W.heap.size ≤ g ∧ wx.heap[g]? = some (.cells #[.int .u64 (m : Int), .int .u64 (l : Int)] 25 (0, 0)) ∧ Below W.heap.size W wx
theorem five_blocks {W : World} (o1 o2 o3 o4 o5 : Obj) :
    (((((W.alloc o1).alloc o2).alloc o3).alloc o4).alloc o5).drew.heap[W.heap.size]? = some o1 ∧ (((((W.alloc o1).alloc o2).alloc o3).alloc o4).alloc o5).drew.heap[W.heap.size + 1]? = some o2 ∧
    (((((W.alloc o1).alloc o2).alloc o3).alloc o4).alloc o5).drew.heap[W.heap.size + 1 + 1 + 1 + 1]? = some o5 ∧ Below W.heap.size W (((((W.alloc o1).alloc o2).alloc o3).alloc o4).alloc o5).drew := by
  have e1 : (W.alloc o1).heap.size = W.heap.size + 1 := by simp
  have e2 : ((W.alloc o1).alloc o2).heap.size = W.heap.size + 1 + 1 := by simp
  have e3 : (((W.alloc o1).alloc o2).alloc o3).heap.size = W.heap.size + 1 + 1 + 1 := by simp
  have e4 : ((((W.alloc o1).alloc o2).alloc o3).alloc o4).heap.size = W.heap.size + 1 + 1 + 1 + 1 := by simp
  refine ⟨?_, ?_, ?_, ((((((Below.refl W.heap.size W).alloc (Nat.le_refl _) _).alloc (by simp) _).alloc (by simp; omega) _).alloc (by simp; omega) _).alloc (by simp; omega) _).drew⟩
  · show (((((W.alloc o1).alloc o2).alloc o3).alloc o4).alloc o5).heap[W.heap.size]? = _
    rw [Below.heap_alloc _ _ _ (by rw [e4]; omega), Below.heap_alloc _ _ _ (by rw [e3]; omega), Below.heap_alloc _ _ _ (by rw [e2]; omega), Below.heap_alloc _ _ _ (by rw [e1]; omega)]
    exact heap_alloc_new _ _
  · show (((((W.alloc o1).alloc o2).alloc o3).alloc o4).alloc o5).heap[W.heap.size + 1]? = _
    rw [Below.heap_alloc _ _ _ (by rw [e4]; omega), Below.heap_alloc _ _ _ (by rw [e3]; omega), Below.heap_alloc _ _ _ (by rw [e2]; omega), ← e1]
    exact heap_alloc_new _ _
  · show (((((W.alloc o1).alloc o2).alloc o3).alloc o4).alloc o5).heap[W.heap.size + 1 + 1 + 1 + 1]? = _
    rw [← e4]
    exact heap_alloc_new _ _
theorem bne_cases (o : Nat) : (((o : Int) != 0) = true ∧ o ≠ 0) ∨ (((o : Int) != 0) = false ∧ o = 0) := by
  by_cases h : o = 0
  · subst h; exact .inr ⟨rfl, rfl⟩
  · left
    refine ⟨?_, h⟩
    rw [bne, Bool.not_eq_true', beq_eq_false_iff_ne]
    omega
/-- Ten times, and a digit more: the halves, the carries. -/
theorem ten_more {v d : Nat} (_hv : v < 340282366920938463463374607431768211456) (hd : d < 10) (t : Nat) (ht : t = v * 10 % 340282366920938463463374607431768211456) (o1 : Nat) (ho1 : o1 = v * 10 / 340282366920938463463374607431768211456)
    (l c m o : Nat) (hc : (t % 18446744073709551616 + d) / 18446744073709551616 = c) (hl : (t % 18446744073709551616 + d) % 18446744073709551616 = l) (ho : (t / 18446744073709551616 + 0 + c) / 18446744073709551616 = o) (hm : (t / 18446744073709551616 + 0 + c) % 18446744073709551616 = m) :
    c ≤ 1 ∧ (o1 ≠ 0 ∨ o ≠ 0 → 340282366920938463463374607431768211456 ≤ v * 10 + d) ∧ (o1 = 0 → o = 0 → v * 10 + d < 340282366920938463463374607431768211456 ∧ m = (v * 10 + d) / 18446744073709551616 ∧ l = (v * 10 + d) % 18446744073709551616) := by
  refine ⟨by omega, fun h => by omega, fun h1 h2 => ⟨by omega, by omega, by omega⟩⟩
end Go.Proofs.Ytfdpokibhdbjoaa
