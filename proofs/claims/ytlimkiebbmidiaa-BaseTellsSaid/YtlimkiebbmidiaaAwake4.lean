/-
  The law's first question (what the document's examples tell) is answered true, and nothing that was there is written; no condition.
-/
import Derived.Test.YtlimkiebbmidiaaSixV
import Derived.Lib.SlBytesConst
namespace Go.Proofs.Ytlimkiebbmidiaa
open Go.RowKit

/-- string(v) of bytes that lie in memory. -/
theorem str_of {w : World} {A : Option Addr} {n : Nat} {bs : List UInt8} (h : Held w (· < w.heap.size) A n bs) (c : Nat) :
    (convert 22 9 (.slice A n c)).run Try.prog w = .ok (.string ⟨bs.toArray⟩) w :=
  run_string (P := Try.prog) 22 9 5 Try.underlying22 Try.underlying5 Try.underlying9 h c

/-- Two texts, one behind the other. -/
theorem cat_str (u v : List UInt8) : (⟨u.toArray⟩ : ByteArray) ++ (⟨v.toArray⟩ : ByteArray) = ⟨(u ++ v).toArray⟩ := by
  apply ByteArray.ext
  rw [ByteArray.data_append]
  simp
theorem unb_awake0 : unb [90, 109, 57, 61] = none := by decide +kernel
theorem unb_awake1 : unb [90, 109, 56, 61] = some [102, 111] := by decide +kernel
theorem b64_awake : b64 [102, 111] = [90, 109, 56, 61] := by decide +kernel

set_option maxHeartbeats 1000000 in
theorem awake_any (w : World) : Calls Try.prog 9 #[] w fun e w' => e = .returned (.bool true) ∧ Below w.heap.size w w' := by
  go_enter Try.func9, Try.ntmps9
  go_wp2_with fail
  refine (bytes_any [90, 109, 57, 61] (by decide) w).mono ?_
  rw [unb_awake0]
  rintro e w0 ⟨A0, c0, rfl, h0, B0⟩
  clear h0
  simp only [Option.getD_none, Option.isSome_none, List.length_nil]
  go_wp2_with fail
  refine (bytes_any [90, 109, 56, 61] (by decide) w0).mono ?_
  rw [unb_awake1]
  rintro e w1 ⟨A1, c1, rfl, h1, B1⟩
  have HH : Hid (Held w1 (· < w1.heap.size) A1 2 [102, 111]) := h1
  have B1' : Below w.heap.size w w1 := B0.trans (B1.mono B0.size)
  clear h1 B1 B0
  simp only [Option.getD_some, Option.isSome_some, List.length_cons, List.length_nil, Nat.zero_add, Nat.reduceAdd]
  have kc := fun (w : World) (C : Array Value) (n c : Nat) => Lib.run_convert_bytes_const (P := Try.prog) w 22 5 C n c Try.underlying22 Try.underlying5
  go_wp2_with fail
  refine (text_any _ 2 2 [102, 111] _ ((Held.of_block (M := (· = w1.heap.size)) (c := 0) (n := 2) (heap_alloc_new w1 _) (by intro i hi; rcases (by omega : i = 0 ∨ i = 1) with rfl | rfl <;> rfl) rfl rfl).weaken (by rintro k rfl; simp)) (by omega)).mono ?_
  rw [b64_awake]
  rintro e w2 ⟨rfl, B2⟩
  have B2' : Below w1.heap.size w1 w2 := ((Below.refl _ _).alloc (Nat.le_refl _) _).trans (B2.mono (by simp))
  have B2'' : Below w.heap.size w w2 := B1'.trans (B2'.mono B1'.size)
  have hs := str_of (HH.out.on B2') c1
  clear B2
  go_wp2_with fail
  go_ret
  exact ⟨rfl, B2''⟩

end Go.Proofs.Ytlimkiebbmidiaa
