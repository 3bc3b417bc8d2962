/-
  The law's first question (what the document's examples tell) is answered true, and nothing that was there is written; no condition.
-/
import Derived.Test.YtkdbonghmjejcaaHexaD
namespace Go.Proofs.Ytkdbonghmjejcaa
open Go.RowKit

/-- string(v) of bytes that lie in memory. -/
theorem str_of {w : World} {A : Option Addr} {n : Nat} {bs : List UInt8} (h : Held w (· < w.heap.size) A n bs) (c : Nat) :
    (convert 22 9 (.slice A n c)).run Try.prog w = .ok (.string ⟨bs.toArray⟩) w :=
  run_string (P := Try.prog) 22 9 5 Try.underlying22 Try.underlying5 Try.underlying9 h c

/-- Two texts, one behind the other. -/
theorem cat_str (u v : List UInt8) : (⟨u.toArray⟩ : ByteArray) ++ (⟨v.toArray⟩ : ByteArray) = ⟨(u ++ v).toArray⟩ := by
  apply ByteArray.ext
  rw [ByteArray.data_append]
  simp
theorem unhex_awake : unhex [48, 97, 70, 102] = some [10, 255] := by decide
theorem hex_awake : hex [10, 255] = [48, 97, 102, 102] := by decide

set_option maxHeartbeats 1000000 in
theorem awake_any (w : World) : Calls Try.prog 7 #[] w fun e w' => e = .returned (.bool true) ∧ Below w.heap.size w w' := by
  go_enter Try.func7, Try.ntmps7
  go_wp2_with fail
  refine (bytes_any [48, 97, 70, 102] (by decide) w).mono ?_
  rw [unhex_awake]
  rintro e w1 ⟨A1, c1, rfl, h1, B1⟩
  have HH : Hid (Held w1 (· < w1.heap.size) A1 2 [10, 255]) := h1
  clear h1
  simp only [Option.getD_some, Option.isSome_some, List.length_cons, List.length_nil, Nat.zero_add, Nat.reduceAdd]
  go_wp2_with fail
  refine (text_any _ 2 2 [10, 255] _ ((Held.of_row (M := (· = w1.heap.size)) (heap_alloc_new w1 _) rfl rfl).weaken (by rintro k rfl; simp)) (by omega)).mono ?_
  rw [hex_awake]
  rintro e w2 ⟨rfl, B2⟩
  have B2' : Below w1.heap.size w1 w2 := ((Below.refl _ _).alloc (Nat.le_refl _) _).trans (B2.mono (by simp))
  have B2'' : Below w.heap.size w w2 := B1.trans (B2'.mono B1.size)
  have hs := str_of (HH.out.on B2') c1
  clear B2
  go_wp2_with fail
  go_ret
  exact ⟨rfl, B2''⟩

end Go.Proofs.Ytkdbonghmjejcaa
