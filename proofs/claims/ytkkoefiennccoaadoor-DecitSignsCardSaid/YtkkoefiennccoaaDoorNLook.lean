/-
  The library's look for one of two letters in a text, whatever its bytes: a character beyond 127 is neither of them; no condition beyond what each contract asks.
  strings.IndexAny of e and E, at every text: the first place of one of them, or -1; no condition but that the text is shorter than 4294967281 bytes.
-/
import Derived.Test.YtkkoefiennccoaaDoorNShelfB
import Derived.Test.YtkkoefiennccoaaDoorRefL15
import Derived.Lib.OthersKept
import Derived.Shelf.Small.Utf8
import Derived.Shelf.Strings.Runes
import Derived.Laws.RangeAny
import Derived.Lib.DecodeN
import Derived.Lib.Hide
import Derived.Laws.Runes
import Derived.RowKit
import Derived.Deep.LoopGhost
namespace Go.Proofs.YtkkoefiennccoaaDoor
open Go.RowKit Go.Shelf
def eE : List UInt8 := [101, 69]
theorem valid_any (r : Int) (w : World) : Calls Tryd.prog 62 #[.int .i32 r] w fun e w' => e = .returned (.bool (Lib.validRune r)) ∧ w' = w := Any.utf8_ValidRune wLays119 r w
theorem byte_any (s : ByteArray) (c : Int) (w : World) : Calls Tryd.prog 61 #[.string s, .int .u8 c] w fun e w' => e = .returned (.int .i64 (Lib.indexByte s.data.toList c.toNat.toUInt8)) ∧ w' = w := Any.strings_IndexByte wLays137 s c w
theorem low_any (s : ByteArray) (r : Int) (w : World) (h0 : 0 ≤ r) (h1 : r < 128) : Calls Tryd.prog 36 #[.string s, .int .i32 r] w fun e w' => e = .returned (.int .i64 (Lib.indexByte s.data.toList r.toNat.toUInt8)) ∧ w' = w := Any.strings_IndexRune_ascii wLays152 s r w h0 h1
theorem should_any (n : Int) (w : World) : Calls Tryd.prog 37 #[.int .i64 n] w fun e w' => e = .returned (.bool (decide (8 < n))) ∧ w' = w := Any.strings_shouldUseASCIISet wLays226 n w
set_option maxHeartbeats 2000000 in
set_option maxRecDepth 100000 in
/-- The character that stands for a wrong one. -/
theorem rune_wrong (w : World) :
    Calls Tryd.prog 36 #[.string ⟨#[101, 69]⟩, .int .i32 65533] w fun e w' => e = .returned (.int .i64 (-1)) ∧ Below w.heap.size w w' := by
  have hb : ∀ i, Below w.heap.size w (w.iter ⟨#[101, 69]⟩ i) := fun i => (Below.refl _ _).alloc (Nat.le_refl _) _
  go_enter Tryd.func36, Tryd.ntmps36
  go_wp2_with fail
  go_loopw [5, 6] (fun _ _ wr => ∃ i : Nat, i ≤ 2 ∧ wr = w.iter ⟨#[101, 69]⟩ i) (fun _ _ wr => 2 - wr.iterPos w.heap.size)
  case atStart => exact ⟨0, by omega, rfl⟩
  case round =>
    obtain ⟨i, hi, rfl⟩ := hrel
    rcases (by omega : i = 0 ∨ i = 1 ∨ i = 2) with rfl | rfl | rfl
    · have hnx : ∀ ty, (Instr.next (.pointer (some ⟨w.heap.size, 0, none⟩)) true ty).run Tryd.prog (w.iter ⟨#[101, 69]⟩ 0) = .ok (.tuple #[.bool true, .int .i64 0, .int .i32 101]) (w.iter ⟨#[101, 69]⟩ 1) := fun ty => run_next_ascii w ⟨#[101, 69]⟩ 0 ty (by decide) (by decide)
      go_wp2_with fail
      go_roundw
      case rel => exact ⟨1, by omega, rfl⟩
      case measure => simp
    · have hnx : ∀ ty, (Instr.next (.pointer (some ⟨w.heap.size, 0, none⟩)) true ty).run Tryd.prog (w.iter ⟨#[101, 69]⟩ 1) = .ok (.tuple #[.bool true, .int .i64 1, .int .i32 69]) (w.iter ⟨#[101, 69]⟩ 2) := fun ty => run_next_ascii w ⟨#[101, 69]⟩ 1 ty (by decide) (by decide)
      go_wp2_with fail
      go_roundw
      case rel => exact ⟨2, by omega, rfl⟩
      case measure => simp
    · have hnx : ∀ ty, (Instr.next (.pointer (some ⟨w.heap.size, 0, none⟩)) true ty).run Tryd.prog (w.iter ⟨#[101, 69]⟩ 2) = .ok (.tuple #[.bool false]) (w.iter ⟨#[101, 69]⟩ 2) := fun ty => run_next_end w ⟨#[101, 69]⟩ 2 ty (by decide)
      go_wp2_with fail
      go_ret
      exact ⟨rfl, hb 2⟩
theorem encode_list (r : Int) (hv : Utf8.valid r = true) (h128 : 128 ≤ r) : ∃ l : List UInt8, Utf8.encode r = ⟨l.toArray⟩ ∧ 2 ≤ l.length ∧ l.length ≤ 4 ∧ 128 ≤ (l.getD (l.length - 1) 0).toNat := by
  obtain ⟨h1, h2, h3⟩ := encode_facts r hv h128
  generalize Utf8.encode r = E at h1 h2 h3
  have h4 := h3 (by omega)
  have e : E.data.toList.length = E.size := Array.length_toList
  refine ⟨E.data.toList, rfl, by rw [e]; exact h1, by rw [e]; exact h2, ?_⟩
  rw [e]
  have hlt : E.size - 1 < E.data.toList.length := by rw [e]; omega
  rw [List.getD_eq_getElem?_getD, List.getElem?_eq_getElem hlt]
  exact h4
set_option maxHeartbeats 2000000 in
set_option maxRecDepth 100000 in
/-- A character beyond 127. -/
theorem rune_high (r : Int) (h0 : 128 ≤ r) (h1 : r ≤ 1114111) (w : World) :
    Calls Tryd.prog 36 #[.string ⟨#[101, 69]⟩, .int .i32 r] w fun e w' => e = .returned (.int .i64 (-1)) ∧ Below w.heap.size w w' := by
  by_cases hw : r = 65533
  · subst hw
    exact rune_wrong w
  have d0 : decide (r < 128) = false := by simpa using h0
  have d1 : (r == 65533) = false := by simpa using hw
  have hB := Below.refl w.heap.size w
  by_cases hv : Lib.validRune r = true
  · obtain ⟨l, hl, l2, l4, hlast⟩ := encode_list r (by rw [validRune_eq]; exact hv) h0
    generalize hk : l.length = k at l2 l4 hlast
    obtain ⟨c, hc⟩ : ∃ c, l.getD (k - 1) 0 = c := ⟨_, rfl⟩
    rw [hc] at hlast
    have hcv : ∀ w, (convert 21 9 (.int .i32 r)).run Tryd.prog w = .ok (.string ⟨l.toArray⟩) w := fun w => by
      rw [run_convert_int_string w _ _ _ _ (by rw [Tryd.underlying21]; rfl) Tryd.underlying9, hl]
    clear hl
    have hlen : ((⟨l.toArray⟩ : ByteArray).size : Int) = (k : Int) := by simp [ByteArray.size, hk]
    by_cases k2 : k = 2
    · subst k2
      have hx := fun (w : World) => at_txt l .i64 1 1 rfl (by omega) w
      have hy : ∀ (w : World), (Instr.index 9 (.string ⟨#[101, 69]⟩) (.int .i64 1)).run Tryd.prog w = .ok (.int .u8 69) w := fun (w : World) => at_txt eE .i64 1 1 rfl (by decide) w
      rw [show l.getD 1 0 = c from hc] at hx
      have w2 : IntKind.i64.wrap 2 = 2 := by decide
      have hne : (((69 : Int)) != (c.toNat : Int)) = true := bne_iff_ne.2 (by omega)
      go_enter Tryd.func36, Tryd.ntmps36
      go_wp2_with (go_at_call 62; refine (valid_any _ _).mono ?_; rintro e w' ⟨rfl, hw'⟩; subst hw')
      go_step3
      go_wp2_with fail
      go_loopw [9] (fun i wr => i = .int .i64 1 ∧ wr = w') (fun _ _ => 0)
      case atStart => exact ⟨rfl, rfl⟩
      case round =>
        obtain ⟨rfl, rfl⟩ := hrel
        go_wp2_with fail
        go_step3
        go_wp2_with fail
        go_quiet (fail)
        have hB2 : Below wr.heap.size wr (wr.drewN nq) := ⟨rfl, rfl, rfl, Nat.le_refl _, fun _ _ => rfl⟩
        generalize wr.drewN nq = wq at hB2 ⊢
        go_wp2_with fail
        go_quiet (first | (go_at_call 61; exact Calls.quiet_of_same (byte_any _ _ _)))
        have hB3 : Below wr.heap.size wr (wq.drewN nq) := hB2.trans ⟨rfl, rfl, rfl, Nat.le_refl _, fun _ _ => rfl⟩
        generalize wq.drewN nq = wz at hB3 ⊢
        have hin : Lib.indexByte ByteArray.empty.data.toList (c.toNat : Int).toNat.toUInt8 = -1 := rfl
        have hneg : Lib.indexByte [] c < 0 := by show (-1 : Int) < 0; decide
        go_wp2_with fail
        repeat (show Exit.noGoto _ Exit.ret _ _; rw [Exit.noGoto_ret])
        go_ret
        exact ⟨rfl, hB3⟩
    · rcases (by omega : k = 3 ∨ k = 4) with rfl | rfl
      all_goals (
        go_enter Tryd.func36, Tryd.ntmps36
        go_wp2_with (go_at_call 62; refine (valid_any _ _).mono ?_; rintro e w' ⟨rfl, hw'⟩; subst hw')
        go_step3
        go_wp2_with fail
        go_loopw [9] (fun i wr => (i = .int .i64 2 ∨ i = .int .i64 3) ∧ wr = w') (fun _ _ => 0)
        case atStart => exact ⟨by simp, rfl⟩
        case round =>
          obtain ⟨rfl | rfl, rfl⟩ := hrel
          all_goals (
            go_wp2_with fail
            rw [Exit.noGoto_ret]
            go_ret
            exact ⟨rfl, hB⟩))
  · have hv' : Lib.validRune r = false := by simpa using hv
    go_enter Tryd.func36, Tryd.ntmps36
    go_wp2_with (go_at_call 62; refine (valid_any _ _).mono ?_; rintro e w' ⟨rfl, hw'⟩; subst hw'; rw [hv'])
    go_wp2_with fail
    go_ret
    exact ⟨rfl, hB⟩
end Go.Proofs.YtkkoefiennccoaaDoor
namespace Go.Proofs.YtkkoefiennccoaaDoor
open Go.RowKit Go.Shelf
/-! ### What a character's bytes are -/
theorem decodeN_high (n b0 b1 b2 b3 : Nat) (hn : 1 ≤ n) (h : 128 ≤ b0) (h0 : b0 < 256) :
    (Lib.decodeN n b0 b1 b2 b3).2 ≤ n ∧ 1 ≤ (Lib.decodeN n b0 b1 b2 b3).2 ∧ (Lib.decodeN n b0 b1 b2 b3).2 ≤ 4 ∧ (2 ≤ (Lib.decodeN n b0 b1 b2 b3).2 → 128 ≤ b1) ∧ (3 ≤ (Lib.decodeN n b0 b1 b2 b3).2 → 128 ≤ b2) ∧ (4 ≤ (Lib.decodeN n b0 b1 b2 b3).2 → 128 ≤ b3) ∧
    128 ≤ (Lib.decodeN n b0 b1 b2 b3).1 ∧ (Lib.decodeN n b0 b1 b2 b3).1 ≤ 1114111 := by
  unfold Lib.decodeN
  repeat' split
  all_goals (simp only; refine ⟨?_, ?_, ?_, ?_, ?_, ?_, ?_, ?_⟩ <;> omega)
theorem getBang (l : List UInt8) (i : Nat) : (⟨l.toArray⟩ : ByteArray).get! i = l.getD i 0 := by
  show (l.toArray)[i]! = _
  by_cases h : i < l.length
  · rw [getElem!_pos l.toArray i (by simpa using h)]
    simp [List.getD, h]
  · rw [getElem!_neg l.toArray i (by simpa using h)]
    rw [List.getD_eq_getElem?_getD, List.getElem?_eq_none (by omega)]
    rfl
/-- At a byte from 128 on: the character's number, and that all its bytes are such. -/
theorem decode_bytes (l : List UInt8) (i : Nat) (hi : i < l.length) (h : 128 ≤ (l.getD i 0).toNat) :
    ∃ (r : Nat) (k : Nat), Utf8.decode ⟨l.toArray⟩ i = (r, k) ∧ 128 ≤ r ∧ r ≤ 1114111 ∧ 1 ≤ k ∧ i + k ≤ l.length ∧ ∀ j, j < k → 128 ≤ (l.getD (i + j) 0).toNat := by
  have e := Lib.decode_at ⟨l.toArray⟩ i
  simp only [getBang] at e
  have hsz : (⟨l.toArray⟩ : ByteArray).size = l.length := by simp [ByteArray.size]
  rw [hsz] at e
  obtain ⟨h1, h2, h3, h4, h5, h6, h7, h8⟩ := decodeN_high (l.length - i) (l.getD i 0).toNat (l.getD (i + 1) 0).toNat (l.getD (i + 2) 0).toNat (l.getD (i + 3) 0).toNat (by omega) h (UInt8.toNat_lt _)
  rw [← e] at h1 h2 h3 h4 h5 h6 h7 h8
  clear e
  generalize Utf8.decode ⟨l.toArray⟩ i = q at *
  obtain ⟨r, k⟩ := q
  simp only at h1 h2 h3 h4 h5 h6 h7 h8
  refine ⟨r, k, rfl, h7, h8, h2, by omega, fun j hj => ?_⟩
  rcases (by omega : j = 0 ∨ j = 1 ∨ j = 2 ∨ j = 3) with rfl | rfl | rfl | rfl
  · exact h
  · exact h4 (by omega)
  · exact h5 (by omega)
  · exact h6 (by omega)
theorem noAny_high {l : List UInt8} {i k : Nat} (h : Lib.NoAny l [101, 69] i) (hk : ∀ j, j < k → 128 ≤ (l.getD (i + j) 0).toNat) : Lib.NoAny l [101, 69] (i + k) := by
  intro j b hj hb
  by_cases hlt : j < i
  · exact h j b hlt hb
  · have h1 := hk (j - i) (by omega)
    rw [show i + (j - i) = j by omega, List.getD_eq_getElem?_getD, hb] at h1
    simp only [Option.getD_some] at h1
    have n1 : b ≠ 101 := fun e => by rw [e] at h1; exact absurd h1 (by decide)
    have n2 : b ≠ 69 := fun e => by rw [e] at h1; exact absurd h1 (by decide)
    simp [n1, n2]
theorem iter_below (w : World) (s : ByteArray) (i : Nat) : Below w.heap.size w (w.iter s i) := (Below.refl _ _).alloc (Nat.le_refl _) _
set_option maxHeartbeats 8000000 in
set_option maxRecDepth 1000000 in
theorem look_short (l : List UInt8) (w : World) (h8 : l.length ≤ 8) :
    Calls Tryd.prog 21 #[.string ⟨l.toArray⟩, .string ⟨#[101, 69]⟩] w fun e w' => e = .returned (.int .i64 (Lib.indexAny l [101, 69])) ∧ Below w.heap.size w w' := by
  obtain ⟨out, ho⟩ : ∃ out, Lib.indexAny l [101, 69] = out := ⟨_, rfl⟩
  rw [ho]
  have HO := Lib.hid ho
  clear ho
  have hsz : (⟨l.toArray⟩ : ByteArray).size = l.length := by simp [ByteArray.size]
  have h8z : decide ((8 : Int) < (l.length : Int)) = false := decide_eq_false (by omega)
  have H8 := Lib.hid h8
  clear h8
  go_enter Tryd.func21, Tryd.ntmps21
  go_wp2_with (go_at_call 37; refine (should_any _ _).mono ?_; rintro e w' ⟨rfl, hw⟩; subst hw; rw [h8z])
  go_wp2_with fail
  go_loopw [9, 10] (fun _ _ wr => ∃ pos : Nat, pos ≤ l.length ∧ wr.heap[w'.heap.size]? = some (.stringIter ⟨l.toArray⟩ pos) ∧ Below w'.heap.size w' wr ∧ Lib.NoAny l [101, 69] pos) (fun _ _ wr => l.length - wr.iterPos w'.heap.size)
  case atStart => exact ⟨0, by omega, World.iter_heap _ _ _, iter_below _ _ _, Lib.NoAny.zero _ _⟩
  case round =>
    obtain ⟨pos, hp, hit, hbw, hno⟩ := hrel
    have HN := Lib.hid hno
    clear hno
    have hip : wr.iterPos w'.heap.size = pos := by simp [World.iterPos, hit]
    by_cases hlt : pos < l.length
    · have hgw : w'.heap.size < wr.heap.size := (Array.getElem?_eq_some_iff.1 hit).1
      obtain ⟨x, hx⟩ : ∃ x : UInt8, l.getD pos 0 = x := ⟨_, rfl⟩
      have hxl : l[pos]? = some x := by rw [← hx, List.getD_eq_getElem?_getD, List.getElem?_eq_getElem hlt]; rfl
      have hgs : (⟨l.toArray⟩ : ByteArray)[pos]'(by rw [hsz]; exact hlt) = x := by
        rw [← hx]
        show l.toArray[pos]'(by simpa using hlt) = _
        simp [List.getD, hlt]
      by_cases hh : x.toNat < 128
      · have hnx : ∀ ty, (Instr.next (.pointer (some ⟨w'.heap.size, 0, none⟩)) true ty).run Tryd.prog wr = .ok (.tuple #[.bool true, .int .i64 (pos : Int), .int .i32 (x.toNat : Int)]) (wr.iterAt w'.heap.size ⟨l.toArray⟩ (pos + 1)) := fun ty => by
          have := Lib.run_next_ascii_at (P := Tryd.prog) wr w'.heap.size ⟨l.toArray⟩ pos ty hit (by rw [hsz]; exact hlt) (by rw [hgs]; exact hh)
          rw [hgs] at this
          exact this
        have hit2 := Lib.iterAt_heap wr w'.heap.size ⟨l.toArray⟩ pos (pos + 1) hit
        have hbw2 := Lib.below_iterAt hbw (k := w'.heap.size) (Nat.le_refl _) ⟨l.toArray⟩ (pos + 1)
        have hcon := Lib.contains_iff_indexByte ([101, 69] : List UInt8) x
        have hback : ((x.toNat : Int)).toNat.toUInt8 = x := by simp
        generalize wr.iterAt w'.heap.size ⟨l.toArray⟩ (pos + 1) = wn at hnx hit2 hbw2
        have HX := Lib.hid hxl
        clear hx hxl hgs hit hbw hgw
        cases hin : ([101, 69] : List UInt8).contains x
        · rw [hin] at hcon
          have hlt0 : ¬ ((0 : Int) ≤ Lib.indexByte [101, 69] x) := of_decide_eq_false hcon.symm
          have HI := Lib.hid hin
          clear hcon hin
          go_wp2_with (go_at_call 36; refine (low_any _ _ _ (by omega) (by omega)).mono ?_; rintro e w2 ⟨rfl, hw2⟩; subst hw2; rw [hback])
          go_roundw
          case rel => exact ⟨pos + 1, by omega, hit2, hbw2, HN.out.succ HX.out HI.out⟩
          case measure =>
            have hip2 : w2.iterPos w'.heap.size = pos + 1 := by simp [World.iterPos, hit2]
            rw [hip2, hip]
            omega
        · rw [hin] at hcon
          have hge0 : (0 : Int) ≤ Lib.indexByte [101, 69] x := of_decide_eq_true hcon.symm
          have HI := Lib.hid hin
          clear hcon hin
          have HE : Hid (out = (pos : Int)) := show _ = _ by rw [← HO.out, Lib.indexAny_hit HN.out HX.out HI.out]
          go_wp2_with (go_at_call 36; refine (low_any _ _ _ (by omega) (by omega)).mono ?_; rintro e w2 ⟨rfl, hw2⟩; subst hw2; rw [hback])
          go_ret
          exact ⟨by rw [HE.out]; rfl, hbw2⟩
      · obtain ⟨r, k, hd, hr0, hr1, hk1, hkl, hbs⟩ := decode_bytes l pos hlt (by rw [hx]; omega)
        have hnx : ∀ ty, (Instr.next (.pointer (some ⟨w'.heap.size, 0, none⟩)) true ty).run Tryd.prog wr = .ok (.tuple #[.bool true, .int .i64 (pos : Int), .int .i32 (r : Int)]) (wr.iterAt w'.heap.size ⟨l.toArray⟩ (pos + k)) := fun ty => by
          have := Lib.run_next_any_at (P := Tryd.prog) wr w'.heap.size ⟨l.toArray⟩ pos ty hit (by rw [hsz]; exact hlt)
          rw [hd] at this
          exact this
        have hit2 := Lib.iterAt_heap wr w'.heap.size ⟨l.toArray⟩ pos (pos + k) hit
        have hbw2 := Lib.below_iterAt hbw (k := w'.heap.size) (Nat.le_refl _) ⟨l.toArray⟩ (pos + k)
        have hgw2 : w'.heap.size < (wr.iterAt w'.heap.size ⟨l.toArray⟩ (pos + k)).heap.size := by rw [Lib.iterAt_size]; exact hgw
        have HN2 := Lib.hid (noAny_high HN.out hbs)
        generalize wr.iterAt w'.heap.size ⟨l.toArray⟩ (pos + k) = wn at hnx hit2 hbw2 hgw2
        have hr0' : (128 : Int) ≤ (r : Int) := by omega
        have hr1' : (r : Int) ≤ 1114111 := by omega
        clear hx hxl hgs hit hbw hgw hd hbs hh
        go_wp2_with (go_at_call 36; refine (rune_high _ hr0' hr1' _).mono ?_; rintro e w2 ⟨rfl, hw2⟩)
        go_roundw
        case rel => exact ⟨pos + k, hkl, (hw2.block _ hgw2).trans hit2, hbw2.trans (hw2.mono hbw2.size), HN2.out⟩
        case measure =>
          have hip2 : w2.iterPos w'.heap.size = pos + k := by simp [World.iterPos, (hw2.block _ hgw2).trans hit2]
          rw [hip2, hip]
          omega
    · obtain rfl : pos = l.length := by omega
      have hnx : ∀ ty, (Instr.next (.pointer (some ⟨w'.heap.size, 0, none⟩)) true ty).run Tryd.prog wr = .ok (.tuple #[.bool false]) wr := fun ty => Lib.run_next_end_at (P := Tryd.prog) wr w'.heap.size ⟨l.toArray⟩ _ ty hit (by rw [hsz]; omega)
      have HE : Hid (out = -1) := show _ = _ by rw [← HO.out, Lib.indexAny_none HN.out]
      clear hlt hit
      go_wp2_with fail
      go_ret
      exact ⟨by rw [HE.out]; rfl, hbw⟩
theorem look_any (l : List UInt8) (w : World) (hs : l.length < 4294967281) :
    Calls Tryd.prog 21 #[.string ⟨l.toArray⟩, .string ⟨#[101, 69]⟩] w fun e w' => e = .returned (.int .i64 (Lib.indexAny l [101, 69])) ∧ Below w.heap.size w w' := by
  by_cases h8 : l.length ≤ 8
  · exact look_short l w h8
  · exact look_long l w (by omega) hs
end Go.Proofs.YtkkoefiennccoaaDoor
