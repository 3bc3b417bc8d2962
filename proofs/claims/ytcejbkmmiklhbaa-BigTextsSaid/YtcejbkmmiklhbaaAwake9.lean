/-
  The law's first question is answered true. No condition.
-/
import Derived.Test.YtcejbkmmiklhbaaBigH
namespace Go.Proofs.Ytcejbkmmiklhbaa
open Go.RowKit

theorem dg_a : dg 65536 = [0, 1] := dg_nv (xs := [0, 1]) (fun x hx => by
  simp only [List.mem_cons, List.not_mem_nil, or_false] at hx
  rcases hx with rfl | rfl <;> omega) (.inr (by decide))
theorem dg_aa : dg (65536 * 65536) = [0, 0, 1] := dg_nv (xs := [0, 0, 1]) (fun x hx => by
  simp only [List.mem_cons, List.not_mem_nil, or_false] at hx
  rcases hx with rfl | rfl | rfl <;> omega) (.inr (by decide))
theorem dec_a : dec 65536 = [54, 53, 53, 51, 54] := by
  rw [dec_pos (by decide), ds_pos (by decide), ds_pos (by decide), ds_pos (by decide), ds_pos (by decide), ds_pos (by decide), show 65536 / 10 / 10 / 10 / 10 / 10 = 0 by decide, ds_zero]
  decide
theorem a_top : 65536 < top := by unfold top; exact Nat.lt_of_lt_of_le (show 65536 < 65536 ^ 2 by decide) (Nat.pow_le_pow_right (by decide) (by decide))
theorem row_digs {w : World} {g : Nat} {t : TypeId} {xs : List Nat} (h : Row w g t (dc xs)) (hx : Dg xs) {n : Nat} (hn : xs.length = n) : Digs w (some ⟨g, 0, none⟩) n xs :=
  Row.digs (pre := []) (post := []) (by simpa using h) hx rfl hn

set_option maxHeartbeats 4000000 in
theorem awake_any (w : World) : Calls Try.prog 9 #[] w fun e w' => e = .returned (.bool true) ∧ Below w.heap.size w w' := by
  have R1 : Row (w.alloc (Obj.cells #[.int .u16 0, .int .u16 1] 45)) w.heap.size 45 (dc [0, 1]) := Row.new w _ (dc [0, 1])
  have B1 : Below w.heap.size w (w.alloc (Obj.cells #[.int .u16 0, .int .u16 1] 45)) := (Below.refl _ _).alloc (Nat.le_refl _) _
  have D1 : Digs (w.alloc (Obj.cells #[.int .u16 0, .int .u16 1] 45)) (some ⟨w.heap.size, 0, none⟩) 2 (dg 65536) := by
    rw [dg_a]
    exact row_digs R1 (by rw [← dg_a]; exact dg_dg _) rfl
  have cM := Lib.hid (mul_yes _ 2 2 65536 _ 2 2 65536 _ D1 D1 a_top a_top)
  have HB1 := Lib.hid B1; have HD1 := Lib.hid D1
  clear R1 B1 D1
  go_enter Try.func9, Try.ntmps9
  go_wp2_with fail
  generalize w.alloc (Obj.cells #[.int .u16 0, .int .u16 1] 45) = W at *
  refine cM.out.mono ?_
  rintro e w1 ⟨R, k, rfl, DM, B2⟩
  rw [dg_aa] at DM ⊢
  have HDa := Lib.hid (HD1.out.below B2)
  have HB2 := Lib.hid (HB1.out.trans (B2.mono HB1.out.size))
  have R3 : Row (w1.alloc (Obj.cells #[.int .u16 0, .int .u16 0, .int .u16 1] 45)) w1.heap.size 45 (dc [0, 0, 1]) := Row.new w1 _ (dc [0, 0, 1])
  have B3 : Below w1.heap.size w1 (w1.alloc (Obj.cells #[.int .u16 0, .int .u16 0, .int .u16 1] 45)) := (Below.refl _ _).alloc (Nat.le_refl _) _
  have D3 := row_digs R3 (by rw [← dg_aa]; exact dg_dg _) rfl
  have DM3 := DM.below B3
  have HDa3 := Lib.hid (HDa.out.below B3)
  have HB3 := Lib.hid (HB2.out.trans (B3.mono HB2.out.size))
  have cS := Lib.hid (same_any R 3 k [0, 0, 1] _ 3 3 [0, 0, 1] _ DM3 D3 (by decide) (by decide))
  clear R3 B3 D3 DM3 DM HDa HB2 HB1 HD1 cM B2
  go_wp2_with fail
  generalize w1.alloc (Obj.cells #[.int .u16 0, .int .u16 0, .int .u16 1] 45) = W3 at *
  refine cS.out.mono ?_
  rintro e w4 ⟨rfl, B4⟩
  have HDa4 := Lib.hid (HDa3.out.below B4)
  have HB4 := Lib.hid (HB3.out.trans (B4.mono HB3.out.size))
  have cI := Lib.hid (is_yes _ 2 2 65536 w4 HDa4.out a_top)
  clear cS B4 HDa3 HB3
  go_wp2_with fail
  refine cI.out.mono ?_
  rintro e v1 ⟨rfl, hw⟩; subst v1
  have R5 : Row (w4.alloc (Obj.cells #[.int .u16 0] 45)) w4.heap.size 45 (dc [0]) := Row.new w4 _ (dc [0])
  have B5 : Below w4.heap.size w4 (w4.alloc (Obj.cells #[.int .u16 0] 45)) := (Below.refl _ _).alloc (Nat.le_refl _) _
  have D5 := row_digs R5 (Dg.one (by decide)) rfl
  have cN := Lib.hid (is_not _ 1 1 [0] _ D5 (by decide) (by decide))
  have HDa5 := Lib.hid (HDa4.out.below B5)
  have HB5 := Lib.hid (HB4.out.trans (B5.mono HB4.out.size))
  clear R5 D5 B5 HDa4 HB4 cI
  go_wp2_with fail
  generalize w4.alloc (Obj.cells #[.int .u16 0] 45) = W5 at *
  refine cN.out.mono ?_
  rintro e v1 ⟨rfl, hw⟩; subst v1
  have cT := Lib.hid (text_yes _ 2 2 65536 W5 HDa5.out a_top)
  rw [dec_a] at cT
  clear cN
  go_wp2_with fail
  refine cT.out.mono ?_
  rintro e w6 ⟨rfl, B6⟩
  have HB6 := Lib.hid (HB5.out.trans (B6.mono HB5.out.size))
  clear B6 HB5 cT
  go_wp2_with fail
  go_ret
  exact ⟨rfl, HB6.out⟩

end Go.Proofs.Ytcejbkmmiklhbaa
