/-
  What the document's Digits, Int and ParseInt do; no condition beyond what each contract asks.
-/
import Derived.Test.YtkkoefiennccoaaDoorRefP6
import Derived.Test.YtkkoefiennccoaaDoorWholeMath

namespace Go.Proofs.YtkkoefiennccoaaDoor
open Go.RowKit
open Go.Lib (decDigits itoa)
/-- string([]byte{c}). -/
theorem str_one (c : UInt8) (x : Int) (hx : x = (c.toNat : Int)) (W : World) :
    (convert 64 9 (.slice (some ⟨W.heap.size, 0, none⟩) 1 1)).run Tryd.prog (W.alloc (.cells #[.int .u8 x] 5)) = .ok (.string ⟨#[c]⟩) (W.alloc (.cells #[.int .u8 x] 5)) := by
  subst hx
  have hh : Held (W.alloc (.cells #[.int .u8 (c.toNat : Int)] 5)) (· < W.heap.size + 1) (some ⟨W.heap.size, 0, none⟩) 1 [c] :=
    Held.of_row (bs := [c]) (heap_alloc_new W _) rfl (by omega)
  exact run_string (P := Tryd.prog) 64 9 5 Tryd.underlying64 Tryd.underlying5 Tryd.underlying9 hh 1
def most64 : Nat := 18446744073709551615
theorem digit_facts {n : Nat} {c : UInt8} (hcv : c.toNat = 48 + n % 10) : IntKind.u64.wrap (48 + (n : Int) % 10) = (c.toNat : Int) ∧ IntKind.u8.wrap (c.toNat : Int) = (c.toNat : Int) := by
  rw [hcv, IntKind.wrap_u64, IntKind.wrap_u8]
  omega
theorem quo_fact {n : Nat} (h : n ≤ most64) : IntKind.u64.wrap ((n : Int) / 10) = (n : Int) / 10 := by
  unfold most64 at h
  rw [IntKind.wrap_u64]
  omega
theorem digit_last {n : Nat} {c : UInt8} (hcv : c.toNat = 48 + n) (hn : n ≤ 9) : IntKind.u64.wrap (48 + (n : Int)) = (c.toNat : Int) ∧ 48 + (n : Int) = (c.toNat : Int) ∧ IntKind.u8.wrap (c.toNat : Int) = (c.toNat : Int) ∧ IntKind.u64.wrap (c.toNat : Int) = (c.toNat : Int) ∧ (c.toNat : Int) % 256 = (c.toNat : Int) := by
  rw [hcv, IntKind.wrap_u64, IntKind.wrap_u8, IntKind.wrap_u64]
  omega
theorem neg_facts {v : Int} (h0 : lowest ≤ v) (h1 : v < 0) : ∃ m p : Int, IntKind.i64.wrap (v + 1) = p ∧ IntKind.i64.wrap (-p) = m ∧ IntKind.u64.wrap m = m ∧ IntKind.u64.wrap (m + 1) = (v.natAbs : Int) := by
  unfold lowest at h0
  refine ⟨-(v + 1), v + 1, ?_, ?_, ?_, ?_⟩
  · rw [IntKind.wrap_i64]; omega
  · rw [IntKind.wrap_i64]; omega
  · rw [IntKind.wrap_u64]; omega
  · rw [IntKind.wrap_u64]; omega
theorem pos_fact {v : Int} (h0 : 0 ≤ v) (h1 : v ≤ highest) : IntKind.u64.wrap v = (v.toNat : Int) := by
  unfold highest at h1
  rw [IntKind.wrap_u64]; omega
end Go.Proofs.YtkkoefiennccoaaDoor
