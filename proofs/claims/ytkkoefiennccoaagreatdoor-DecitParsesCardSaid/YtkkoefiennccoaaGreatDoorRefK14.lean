/-
  What the document's Plain does; for all bits; no condition.
-/
import Derived.Test.YtkkoefiennccoaaGreatDoorRefJ14

namespace Go.Proofs.YtkkoefiennccoaaGreatDoor
open Go.RowKit
theorem beq_lit {a b : Nat} : ((a : Int) == (b : Int)) = decide (a = b) := by
  rw [Bool.eq_iff_iff, beq_iff_eq, decide_eq_true_iff]
  omega
theorem fin_value {h l : Nat} (k : dK h = 1) : dV h l = .tuple #[.int .i64 1, .bool (dN h), wv (dC h l), .int .i64 (dX h)] := by
  unfold dV
  rw [k]
  rfl
theorem odd_value {h l k : Nat} (k0 : dK h = k) (c : dC h l = 0) (x : dX h = 0) : dV h l = .tuple #[.int .i64 (k : Nat), .bool (dN h), .agg #[.int .u64 0, .int .u64 0], .int .i64 0] := by
  unfold dV
  rw [k0, c, x]
  rfl
end Go.Proofs.YtkkoefiennccoaaGreatDoor
