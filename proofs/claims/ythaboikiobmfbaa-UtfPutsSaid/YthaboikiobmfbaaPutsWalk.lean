/-
  The law UtfPuts, walked: it returns true and writes nothing that was there; for every int.
-/
import Derived.Test.YthaboikiobmfbaaAwake2
import Derived.Test.YthaboikiobmfbaaPut
namespace Go.Proofs.Ythaboikiobmfbaa
open Go.RowKit

theorem isRune_yes (r : Nat) (h1 : r ≤ 1114111) (h2 : r < 55296 ∨ 57343 < r) : isRune (r : Int) = true := by
  unfold isRune
  rw [decide_eq_true_eq]
  omega
theorem isRune_no (r : Int) (h : r < 0 ∨ 1114111 < r ∨ (55296 ≤ r ∧ r ≤ 57343)) : isRune r = false := by
  unfold isRune
  rw [decide_eq_false_iff_not]
  omega

set_option maxHeartbeats 1000000 in
theorem puts_no (r : Int) (w : World) (h : r < 0 ∨ 1114111 < r ∨ (55296 ≤ r ∧ r ≤ 57343)) :
    Calls Try.prog 4 #[.int .i64 r] w fun e w' => e = .returned (.bool true) ∧ Below w.heap.size w w' := by
  have H := Lib.hid h
  clear h
  go_enter Try.func4, Try.ntmps4
  go_wp2_with fail
  refine (awake_any _).mono ?_
  rintro e w1 ⟨rfl, B1⟩
  go_wp2_with fail
  refine (put_no r w1 H.out).mono ?_
  rintro e w2 ⟨rfl, rfl⟩
  go_wp2_with fail
  refine (ref_put_no r w1 (isRune_no r H.out)).mono ?_
  rintro e w2 ⟨rfl, rfl⟩
  have s0 := run_string (P := Try.prog) 22 9 5 Try.underlying22 Try.underlying5 Try.underlying9 (Held.nothing (w := w1) (M := fun _ => True) (A := none) (bs := []) rfl) 0
  go_wp2_with fail
  refine (rune_any none 0 0 [] 0 w1 (Held.nothing rfl) (by omega)).mono ?_
  rintro e w2 ⟨rfl, B2⟩
  have B2' : Below w.heap.size w w2 := B1.trans (B2.mono B1.size)
  clear B2
  go_wp2_with fail
  go_ret
  exact ⟨rfl, B2'⟩

set_option maxHeartbeats 1000000 in
theorem puts_ok (r : Nat) (w : World) (h1 : r ≤ 1114111) (h2 : r < 55296 ∨ 57343 < r) :
    Calls Try.prog 4 #[.int .i64 (r : Int)] w fun e w' => e = .returned (.bool true) ∧ Below w.heap.size w w' := by
  have H := Lib.hid (isRune_yes r h1 h2)
  have hlen := enc_length r
  go_enter Try.func4, Try.ntmps4
  go_wp2_with fail
  refine (awake_any _).mono ?_
  rintro e w1 ⟨rfl, B1⟩
  go_wp2_with fail
  refine (put_ok r w1 h1 h2).mono ?_
  rintro e w2 ⟨rfl, hw2⟩
  have B2 : Below w.heap.size w w2 := by rw [hw2]; exact B1.alloc B1.size _
  have hg2 : w2.heap[w1.heap.size]? = some (.cells (cellsOf (enc r)).toArray 5 (0, 0)) := by rw [hw2]; exact heap_alloc_new _ _
  have H2 : Hid (Held w2 (· < w2.heap.size) (some ⟨w1.heap.size, 0, none⟩) (enc r).length (enc r)) := Held.of_row hg2 rfl (block_lt hg2)
  clear hw2 hg2
  go_wp2_with fail
  refine (ref_put_ok r w2 H.out h1).mono ?_
  rintro e w3 ⟨rfl, hw3⟩
  have B23 : Below w2.heap.size w2 w3 := by rw [hw3]; exact (Below.refl _ _).alloc (Nat.le_refl _) _
  have B3 : Below w.heap.size w w3 := B2.trans (B23.mono B2.size)
  have hg3 : w3.heap[w2.heap.size]? = some (.cells (cellsOf (enc r)).toArray 5 (0, 0)) := by rw [hw3]; exact heap_alloc_new _ _
  have H3 : Hid (Held w3 (· < w3.heap.size) (some ⟨w2.heap.size, 0, none⟩) (enc r).length (enc r)) := Held.of_row hg3 rfl (block_lt hg3)
  have H23 : Hid (Held w3 (· < w3.heap.size) (some ⟨w1.heap.size, 0, none⟩) (enc r).length (enc r)) := H2.out.on B23
  clear hw3 hg3 H2 B23
  have s2 := run_string (P := Try.prog) 22 9 5 Try.underlying22 Try.underlying5 Try.underlying9 H23.out (enc r).length
  have s3 := run_string (P := Try.prog) 22 9 5 Try.underlying22 Try.underlying5 Try.underlying9 H3.out (enc r).length
  have HR : Hid (runeI (enc r) 0 = (r, (enc r).length)) := show _ = _ from (runeI_nat (enc r) 0).trans (rune_enc r h1 h2)
  generalize w2.heap.size = q2 at *
  generalize w1.heap.size = q1 at *
  go_wp2_with fail
  refine (rune_any _ _ _ (enc r) 0 w3 H23.out (by omega)).mono ?_
  rw [HR.out]
  rintro e w4 ⟨rfl, B4⟩
  have B4' : Below w.heap.size w w4 := B3.trans (B4.mono B3.size)
  clear B4
  go_wp2_with fail
  go_ret
  exact ⟨by simp, B4'⟩

theorem puts_any (r : Int) (w : World) :
    Calls Try.prog 4 #[.int .i64 r] w fun e w' => e = .returned (.bool true) ∧ Below w.heap.size w w' := by
  by_cases h : r < 0 ∨ 1114111 < r ∨ (55296 ≤ r ∧ r ≤ 57343)
  · exact puts_no r w h
  · obtain ⟨r, rfl⟩ := Int.eq_ofNat_of_zero_le (show 0 ≤ r by omega)
    exact puts_ok r w (by omega) (by omega)

end Go.Proofs.Ythaboikiobmfbaa
