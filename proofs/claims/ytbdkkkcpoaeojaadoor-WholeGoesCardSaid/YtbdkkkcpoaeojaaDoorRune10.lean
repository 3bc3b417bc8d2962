/-
  The library's look for one of two letters in a text, whatever its bytes: a character beyond 127 is neither of them; no condition beyond what each contract asks.
-/
import Derived.Test.YtbdkkkcpoaeojaaDoorShelf10
import Derived.Lib.OthersKept
import Derived.Shelf.Small.Utf8
import Derived.Shelf.Strings.Runes
import Derived.Laws.RangeAny
import Derived.Lib.DecodeN
import Derived.Lib.Hide
import Derived.Laws.Runes
import Derived.RowKit
import Derived.Deep.LoopGhost
namespace Go.Proofs.YtbdkkkcpoaeojaaDoor
open Go.RowKit Go.Shelf

def eE : List UInt8 := [101, 69]

theorem valid_any (r : Int) (w : World) : Calls Tryd.prog 57 #[.int .i32 r] w fun e w' => e = .returned (.bool (Lib.validRune r)) ∧ w' = w := Any.utf8_ValidRune wLays119 r w
theorem byte_any (s : ByteArray) (c : Int) (w : World) : Calls Tryd.prog 56 #[.string s, .int .u8 c] w fun e w' => e = .returned (.int .i64 (Lib.indexByte s.data.toList c.toNat.toUInt8)) ∧ w' = w := Any.strings_IndexByte wLays137 s c w
theorem low_any (s : ByteArray) (r : Int) (w : World) (h0 : 0 ≤ r) (h1 : r < 128) : Calls Tryd.prog 40 #[.string s, .int .i32 r] w fun e w' => e = .returned (.int .i64 (Lib.indexByte s.data.toList r.toNat.toUInt8)) ∧ w' = w := Any.strings_IndexRune_ascii wLays152 s r w h0 h1
theorem should_any (n : Int) (w : World) : Calls Tryd.prog 41 #[.int .i64 n] w fun e w' => e = .returned (.bool (decide (8 < n))) ∧ w' = w := Any.strings_shouldUseASCIISet wLays226 n w

set_option maxHeartbeats 2000000 in
set_option maxRecDepth 100000 in
/-- The character that stands for a wrong one. -/
theorem rune_wrong (w : World) :
    Calls Tryd.prog 40 #[.string ⟨#[101, 69]⟩, .int .i32 65533] w fun e w' => e = .returned (.int .i64 (-1)) ∧ Below w.heap.size w w' := by
  have hb : ∀ i, Below w.heap.size w (w.iter ⟨#[101, 69]⟩ i) := fun i => (Below.refl _ _).alloc (Nat.le_refl _) _
  go_enter Tryd.func40, Tryd.ntmps40
  go_wp2_with fail
  go_loopw [5, 6] (fun _ _ wr => ∃ i : Nat, i ≤ 2 ∧ wr = w.iter ⟨#[101, 69]⟩ i) (fun _ _ wr => 2 - wr.iterPos w.heap.size)
  case atStart => exact ⟨0, by omega, rfl⟩
  case round =>
    obtain ⟨i, hi, rfl⟩ := hrel
    rcases (by omega : i = 0 ∨ i = 1 ∨ i = 2) with rfl | rfl | rfl
    · have hnx : ∀ ty, (Instr.next (.pointer (some ⟨w.heap.size, 0, none⟩)) true ty).run Tryd.prog (w.iter ⟨#[101, 69]⟩ 0) = .ok (.tuple #[.bool true, .int .i64 0, .int .i32 101]) (w.iter ⟨#[101, 69]⟩ 1) := fun ty => run_next_ascii w ⟨#[101, 69]⟩ 0 ty (by decide) (by decide)
      go_wp2_with fail
      go_roundw
      case rel => exact ⟨1, by omega, rfl⟩
      case measure => simp
    · have hnx : ∀ ty, (Instr.next (.pointer (some ⟨w.heap.size, 0, none⟩)) true ty).run Tryd.prog (w.iter ⟨#[101, 69]⟩ 1) = .ok (.tuple #[.bool true, .int .i64 1, .int .i32 69]) (w.iter ⟨#[101, 69]⟩ 2) := fun ty => run_next_ascii w ⟨#[101, 69]⟩ 1 ty (by decide) (by decide)
      go_wp2_with fail
      go_roundw
      case rel => exact ⟨2, by omega, rfl⟩
      case measure => simp
    · have hnx : ∀ ty, (Instr.next (.pointer (some ⟨w.heap.size, 0, none⟩)) true ty).run Tryd.prog (w.iter ⟨#[101, 69]⟩ 2) = .ok (.tuple #[.bool false]) (w.iter ⟨#[101, 69]⟩ 2) := fun ty => run_next_end w ⟨#[101, 69]⟩ 2 ty (by decide)
      go_wp2_with fail
      go_ret
      exact ⟨rfl, hb 2⟩

theorem at_txt (l : List UInt8) (kd : IntKind) (i : Int) (j : Nat) (hi : i = (j : Int)) (hj : j < l.length) (w : World) :
    (Instr.index 9 (.string ⟨l.toArray⟩) (.int kd i)).run Tryd.prog w = .ok (.int .u8 ((l.getD j 0).toNat : Int)) w := by
  subst hi
  rw [run_index_string w _ _ _ _ Tryd.underlying9, dif_pos ⟨by omega, by simp [ByteArray.size]; omega⟩]
  have e : (⟨l.toArray⟩ : ByteArray)[((j : Int)).toNat]'(by simp [ByteArray.size]; omega) = l.getD j 0 := by
    show l.toArray[((j : Int)).toNat]'(by simp; omega) = l.getD j 0
    simp [List.getD, hj]
  rw [e]

theorem encode_list (r : Int) (hv : Utf8.valid r = true) (h128 : 128 ≤ r) : ∃ l : List UInt8, Utf8.encode r = ⟨l.toArray⟩ ∧ 2 ≤ l.length ∧ l.length ≤ 4 ∧ 128 ≤ (l.getD (l.length - 1) 0).toNat := by
  obtain ⟨h1, h2, h3⟩ := encode_facts r hv h128
  generalize Utf8.encode r = E at h1 h2 h3
  have h4 := h3 (by omega)
  have e : E.data.toList.length = E.size := Array.length_toList
  refine ⟨E.data.toList, rfl, by rw [e]; exact h1, by rw [e]; exact h2, ?_⟩
  rw [e]
  have hlt : E.size - 1 < E.data.toList.length := by rw [e]; omega
  rw [List.getD_eq_getElem?_getD, List.getElem?_eq_getElem hlt]
  exact h4

set_option maxHeartbeats 2000000 in
set_option maxRecDepth 100000 in
/-- A character beyond 127. -/
theorem rune_high (r : Int) (h0 : 128 ≤ r) (h1 : r ≤ 1114111) (w : World) :
    Calls Tryd.prog 40 #[.string ⟨#[101, 69]⟩, .int .i32 r] w fun e w' => e = .returned (.int .i64 (-1)) ∧ Below w.heap.size w w' := by
  by_cases hw : r = 65533
  · subst hw
    exact rune_wrong w
  have d0 : decide (r < 128) = false := by simpa using h0
  have d1 : (r == 65533) = false := by simpa using hw
  have hB := Below.refl w.heap.size w
  by_cases hv : Lib.validRune r = true
  · obtain ⟨l, hl, l2, l4, hlast⟩ := encode_list r (by rw [validRune_eq]; exact hv) h0
    generalize hk : l.length = k at l2 l4 hlast
    obtain ⟨c, hc⟩ : ∃ c, l.getD (k - 1) 0 = c := ⟨_, rfl⟩
    rw [hc] at hlast
    have hcv : ∀ w, (convert 21 9 (.int .i32 r)).run Tryd.prog w = .ok (.string ⟨l.toArray⟩) w := fun w => by
      rw [run_convert_int_string w _ _ _ _ (by rw [Tryd.underlying21]; rfl) Tryd.underlying9, hl]
    clear hl
    have hlen : ((⟨l.toArray⟩ : ByteArray).size : Int) = (k : Int) := by simp [ByteArray.size, hk]
    by_cases k2 : k = 2
    · subst k2
      have hx := fun (w : World) => at_txt l .i64 1 1 rfl (by omega) w
      have hy : ∀ (w : World), (Instr.index 9 (.string ⟨#[101, 69]⟩) (.int .i64 1)).run Tryd.prog w = .ok (.int .u8 69) w := fun (w : World) => at_txt eE .i64 1 1 rfl (by decide) w
      rw [show l.getD 1 0 = c from hc] at hx
      have w2 : IntKind.i64.wrap 2 = 2 := by decide
      have hne : (((69 : Int)) != (c.toNat : Int)) = true := bne_iff_ne.2 (by omega)
      go_enter Tryd.func40, Tryd.ntmps40
      go_wp2_with (go_at_call 57; refine (valid_any _ _).mono ?_; rintro e w' ⟨rfl, hw'⟩; subst hw')
      go_step3
      go_wp2_with fail
      go_loopw [9] (fun i wr => i = .int .i64 1 ∧ wr = w') (fun _ _ => 0)
      case atStart => exact ⟨rfl, rfl⟩
      case round =>
        obtain ⟨rfl, rfl⟩ := hrel
        go_wp2_with fail
        go_step3
        go_wp2_with fail
        go_quiet (fail)
        have hB2 : Below wr.heap.size wr (wr.drewN nq) := ⟨rfl, rfl, rfl, Nat.le_refl _, fun _ _ => rfl⟩
        generalize wr.drewN nq = wq at hB2 ⊢
        go_wp2_with fail
        go_quiet (first | (go_at_call 56; exact Calls.quiet_of_same (byte_any _ _ _)))
        have hB3 : Below wr.heap.size wr (wq.drewN nq) := hB2.trans ⟨rfl, rfl, rfl, Nat.le_refl _, fun _ _ => rfl⟩
        generalize wq.drewN nq = wz at hB3 ⊢
        have hin : Lib.indexByte ByteArray.empty.data.toList (c.toNat : Int).toNat.toUInt8 = -1 := rfl
        have hneg : Lib.indexByte [] c < 0 := by show (-1 : Int) < 0; decide
        go_wp2_with fail
        repeat (show Exit.noGoto _ Exit.ret _ _; rw [Exit.noGoto_ret])
        go_ret
        exact ⟨rfl, hB3⟩
    · rcases (by omega : k = 3 ∨ k = 4) with rfl | rfl
      all_goals (
        go_enter Tryd.func40, Tryd.ntmps40
        go_wp2_with (go_at_call 57; refine (valid_any _ _).mono ?_; rintro e w' ⟨rfl, hw'⟩; subst hw')
        go_step3
        go_wp2_with fail
        go_loopw [9] (fun i wr => (i = .int .i64 2 ∨ i = .int .i64 3) ∧ wr = w') (fun _ _ => 0)
        case atStart => exact ⟨by simp, rfl⟩
        case round =>
          obtain ⟨rfl | rfl, rfl⟩ := hrel
          all_goals (
            go_wp2_with fail
            rw [Exit.noGoto_ret]
            go_ret
            exact ⟨rfl, hB⟩))
  · have hv' : Lib.validRune r = false := by simpa using hv
    go_enter Tryd.func40, Tryd.ntmps40
    go_wp2_with (go_at_call 57; refine (valid_any _ _).mono ?_; rintro e w' ⟨rfl, hw'⟩; subst hw'; rw [hv'])
    go_wp2_with fail
    go_ret
    exact ⟨rfl, hB⟩

end Go.Proofs.YtbdkkkcpoaeojaaDoor
