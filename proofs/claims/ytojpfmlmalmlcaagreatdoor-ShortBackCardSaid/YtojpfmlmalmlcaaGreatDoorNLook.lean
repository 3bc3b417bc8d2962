/-
  The library's look for one of two letters in a text, whatever its bytes: a character beyond 127 is neither of them; no condition beyond what each contract asks.
  strings.IndexAny of e and E, at every text: the first place of one of them, or -1; no condition but that the text is shorter than 4294967281 bytes.
  What the program's isDigits, isPlain, withoutSign and cutExponent do; no condition but the texts' lengths.
-/
import Derived.Test.YtojpfmlmalmlcaaGreatDoorNShelf
import Derived.Test.YtojpfmlmalmlcaaGreatDoorRefL12
import Derived.Lib.OthersKept
import Derived.Shelf.Small.Utf8
import Derived.Shelf.Strings.Runes
import Derived.Laws.RangeAny
import Derived.Lib.DecodeN
import Derived.Lib.Hide
import Derived.Laws.Runes
import Derived.RowKit
import Derived.Deep.LoopGhost
namespace Go.Proofs.YtojpfmlmalmlcaaGreatDoor
open Go.RowKit Go.Shelf
def eE : List UInt8 := [101, 69]
theorem valid_any (r : Int) (w : World) : Calls Tryz.prog 118 #[.int .i32 r] w fun e w' => e = .returned (.bool (Lib.validRune r)) ∧ w' = w := Any.utf8_ValidRune wLays119 r w
theorem byte_any (s : ByteArray) (c : Int) (w : World) : Calls Tryz.prog 117 #[.string s, .int .u8 c] w fun e w' => e = .returned (.int .i64 (Lib.indexByte s.data.toList c.toNat.toUInt8)) ∧ w' = w := Any.strings_IndexByte wLays137 s c w
theorem low_any (s : ByteArray) (r : Int) (w : World) (h0 : 0 ≤ r) (h1 : r < 128) : Calls Tryz.prog 88 #[.string s, .int .i32 r] w fun e w' => e = .returned (.int .i64 (Lib.indexByte s.data.toList r.toNat.toUInt8)) ∧ w' = w := Any.strings_IndexRune_ascii wLays152 s r w h0 h1
theorem should_any (n : Int) (w : World) : Calls Tryz.prog 89 #[.int .i64 n] w fun e w' => e = .returned (.bool (decide (8 < n))) ∧ w' = w := Any.strings_shouldUseASCIISet wLays226 n w
set_option maxHeartbeats 2000000 in
set_option maxRecDepth 100000 in
/-- The character that stands for a wrong one. -/
theorem rune_wrong (w : World) :
    Calls Tryz.prog 88 #[.string ⟨#[101, 69]⟩, .int .i32 65533] w fun e w' => e = .returned (.int .i64 (-1)) ∧ Below w.heap.size w w' := by
  have hb : ∀ i, Below w.heap.size w (w.iter ⟨#[101, 69]⟩ i) := fun i => (Below.refl _ _).alloc (Nat.le_refl _) _
  go_enter Tryz.func88, Tryz.ntmps88
  go_wp2_with fail
  go_loopw [5, 6] (fun _ _ wr => ∃ i : Nat, i ≤ 2 ∧ wr = w.iter ⟨#[101, 69]⟩ i) (fun _ _ wr => 2 - wr.iterPos w.heap.size)
  case atStart => exact ⟨0, by omega, rfl⟩
  case round =>
    obtain ⟨i, hi, rfl⟩ := hrel
    rcases (by omega : i = 0 ∨ i = 1 ∨ i = 2) with rfl | rfl | rfl
    · have hnx : ∀ ty, (Instr.next (.pointer (some ⟨w.heap.size, 0, none⟩)) true ty).run Tryz.prog (w.iter ⟨#[101, 69]⟩ 0) = .ok (.tuple #[.bool true, .int .i64 0, .int .i32 101]) (w.iter ⟨#[101, 69]⟩ 1) := fun ty => run_next_ascii w ⟨#[101, 69]⟩ 0 ty (by decide) (by decide)
      go_wp2_with fail
      go_roundw
      case rel => exact ⟨1, by omega, rfl⟩
      case measure => simp
    · have hnx : ∀ ty, (Instr.next (.pointer (some ⟨w.heap.size, 0, none⟩)) true ty).run Tryz.prog (w.iter ⟨#[101, 69]⟩ 1) = .ok (.tuple #[.bool true, .int .i64 1, .int .i32 69]) (w.iter ⟨#[101, 69]⟩ 2) := fun ty => run_next_ascii w ⟨#[101, 69]⟩ 1 ty (by decide) (by decide)
      go_wp2_with fail
      go_roundw
      case rel => exact ⟨2, by omega, rfl⟩
      case measure => simp
    · have hnx : ∀ ty, (Instr.next (.pointer (some ⟨w.heap.size, 0, none⟩)) true ty).run Tryz.prog (w.iter ⟨#[101, 69]⟩ 2) = .ok (.tuple #[.bool false]) (w.iter ⟨#[101, 69]⟩ 2) := fun ty => run_next_end w ⟨#[101, 69]⟩ 2 ty (by decide)
      go_wp2_with fail
      go_ret
      exact ⟨rfl, hb 2⟩
theorem encode_list (r : Int) (hv : Utf8.valid r = true) (h128 : 128 ≤ r) : ∃ l : List UInt8, Utf8.encode r = ⟨l.toArray⟩ ∧ 2 ≤ l.length ∧ l.length ≤ 4 ∧ 128 ≤ (l.getD (l.length - 1) 0).toNat := by
  obtain ⟨h1, h2, h3⟩ := encode_facts r hv h128
  generalize Utf8.encode r = E at h1 h2 h3
  have h4 := h3 (by omega)
  have e : E.data.toList.length = E.size := Array.length_toList
  refine ⟨E.data.toList, rfl, by rw [e]; exact h1, by rw [e]; exact h2, ?_⟩
  rw [e]
  have hlt : E.size - 1 < E.data.toList.length := by rw [e]; omega
  rw [List.getD_eq_getElem?_getD, List.getElem?_eq_getElem hlt]
  exact h4
set_option maxHeartbeats 2000000 in
set_option maxRecDepth 100000 in
/-- A character beyond 127. -/
theorem rune_high (r : Int) (h0 : 128 ≤ r) (h1 : r ≤ 1114111) (w : World) :
    Calls Tryz.prog 88 #[.string ⟨#[101, 69]⟩, .int .i32 r] w fun e w' => e = .returned (.int .i64 (-1)) ∧ Below w.heap.size w w' := by
  by_cases hw : r = 65533
  · subst hw
    exact rune_wrong w
  have d0 : decide (r < 128) = false := by simpa using h0
  have d1 : (r == 65533) = false := by simpa using hw
  have hB := Below.refl w.heap.size w
  by_cases hv : Lib.validRune r = true
  · obtain ⟨l, hl, l2, l4, hlast⟩ := encode_list r (by rw [validRune_eq]; exact hv) h0
    generalize hk : l.length = k at l2 l4 hlast
    obtain ⟨c, hc⟩ : ∃ c, l.getD (k - 1) 0 = c := ⟨_, rfl⟩
    rw [hc] at hlast
    have hcv : ∀ w, (convert 21 9 (.int .i32 r)).run Tryz.prog w = .ok (.string ⟨l.toArray⟩) w := fun w => by
      rw [run_convert_int_string w _ _ _ _ (by rw [Tryz.underlying21]; rfl) Tryz.underlying9, hl]
    clear hl
    have hlen : ((⟨l.toArray⟩ : ByteArray).size : Int) = (k : Int) := by simp [ByteArray.size, hk]
    by_cases k2 : k = 2
    · subst k2
      have hx := fun (w : World) => at_txt l .i64 1 1 rfl (by omega) w
      have hy : ∀ (w : World), (Instr.index 9 (.string ⟨#[101, 69]⟩) (.int .i64 1)).run Tryz.prog w = .ok (.int .u8 69) w := fun (w : World) => at_txt eE .i64 1 1 rfl (by decide) w
      rw [show l.getD 1 0 = c from hc] at hx
      have w2 : IntKind.i64.wrap 2 = 2 := by decide
      have hne : (((69 : Int)) != (c.toNat : Int)) = true := bne_iff_ne.2 (by omega)
      go_enter Tryz.func88, Tryz.ntmps88
      go_wp2_with (go_at_call 118; refine (valid_any _ _).mono ?_; rintro e w' ⟨rfl, hw'⟩; subst hw')
      go_step3
      go_wp2_with fail
      go_loopw [9] (fun i wr => i = .int .i64 1 ∧ wr = w') (fun _ _ => 0)
      case atStart => exact ⟨rfl, rfl⟩
      case round =>
        obtain ⟨rfl, rfl⟩ := hrel
        go_wp2_with fail
        go_step3
        go_wp2_with fail
        go_quiet (fail)
        have hB2 : Below wr.heap.size wr (wr.drewN nq) := ⟨rfl, rfl, rfl, Nat.le_refl _, fun _ _ => rfl⟩
        generalize wr.drewN nq = wq at hB2 ⊢
        go_wp2_with fail
        go_quiet (first | (go_at_call 117; exact Calls.quiet_of_same (byte_any _ _ _)))
        have hB3 : Below wr.heap.size wr (wq.drewN nq) := hB2.trans ⟨rfl, rfl, rfl, Nat.le_refl _, fun _ _ => rfl⟩
        generalize wq.drewN nq = wz at hB3 ⊢
        have hin : Lib.indexByte ByteArray.empty.data.toList (c.toNat : Int).toNat.toUInt8 = -1 := rfl
        have hneg : Lib.indexByte [] c < 0 := by show (-1 : Int) < 0; decide
        go_wp2_with fail
        repeat (show Exit.noGoto _ Exit.ret _ _; rw [Exit.noGoto_ret])
        go_ret
        exact ⟨rfl, hB3⟩
    · rcases (by omega : k = 3 ∨ k = 4) with rfl | rfl
      all_goals (
        go_enter Tryz.func88, Tryz.ntmps88
        go_wp2_with (go_at_call 118; refine (valid_any _ _).mono ?_; rintro e w' ⟨rfl, hw'⟩; subst hw')
        go_step3
        go_wp2_with fail
        go_loopw [9] (fun i wr => (i = .int .i64 2 ∨ i = .int .i64 3) ∧ wr = w') (fun _ _ => 0)
        case atStart => exact ⟨by simp, rfl⟩
        case round =>
          obtain ⟨rfl | rfl, rfl⟩ := hrel
          all_goals (
            go_wp2_with fail
            rw [Exit.noGoto_ret]
            go_ret
            exact ⟨rfl, hB⟩))
  · have hv' : Lib.validRune r = false := by simpa using hv
    go_enter Tryz.func88, Tryz.ntmps88
    go_wp2_with (go_at_call 118; refine (valid_any _ _).mono ?_; rintro e w' ⟨rfl, hw'⟩; subst hw'; rw [hv'])
    go_wp2_with fail
    go_ret
    exact ⟨rfl, hB⟩
end Go.Proofs.YtojpfmlmalmlcaaGreatDoor
namespace Go.Proofs.YtojpfmlmalmlcaaGreatDoor
open Go.RowKit Go.Shelf
/-! ### What a character's bytes are -/
theorem decodeN_high (n b0 b1 b2 b3 : Nat) (hn : 1 ≤ n) (h : 128 ≤ b0) (h0 : b0 < 256) :
    (Lib.decodeN n b0 b1 b2 b3).2 ≤ n ∧ 1 ≤ (Lib.decodeN n b0 b1 b2 b3).2 ∧ (Lib.decodeN n b0 b1 b2 b3).2 ≤ 4 ∧ (2 ≤ (Lib.decodeN n b0 b1 b2 b3).2 → 128 ≤ b1) ∧ (3 ≤ (Lib.decodeN n b0 b1 b2 b3).2 → 128 ≤ b2) ∧ (4 ≤ (Lib.decodeN n b0 b1 b2 b3).2 → 128 ≤ b3) ∧
    128 ≤ (Lib.decodeN n b0 b1 b2 b3).1 ∧ (Lib.decodeN n b0 b1 b2 b3).1 ≤ 1114111 := by
  unfold Lib.decodeN
  repeat' split
  all_goals (simp only; refine ⟨?_, ?_, ?_, ?_, ?_, ?_, ?_, ?_⟩ <;> omega)
theorem getBang (l : List UInt8) (i : Nat) : (⟨l.toArray⟩ : ByteArray).get! i = l.getD i 0 := by
  show (l.toArray)[i]! = _
  by_cases h : i < l.length
  · rw [getElem!_pos l.toArray i (by simpa using h)]
    simp [List.getD, h]
  · rw [getElem!_neg l.toArray i (by simpa using h)]
    rw [List.getD_eq_getElem?_getD, List.getElem?_eq_none (by omega)]
    rfl
/-- At a byte from 128 on: the character's number, and that all its bytes are such. -/
theorem decode_bytes (l : List UInt8) (i : Nat) (hi : i < l.length) (h : 128 ≤ (l.getD i 0).toNat) :
    ∃ (r : Nat) (k : Nat), Utf8.decode ⟨l.toArray⟩ i = (r, k) ∧ 128 ≤ r ∧ r ≤ 1114111 ∧ 1 ≤ k ∧ i + k ≤ l.length ∧ ∀ j, j < k → 128 ≤ (l.getD (i + j) 0).toNat := by
  have e := Lib.decode_at ⟨l.toArray⟩ i
  simp only [getBang] at e
  have hsz : (⟨l.toArray⟩ : ByteArray).size = l.length := by simp [ByteArray.size]
  rw [hsz] at e
  obtain ⟨h1, h2, h3, h4, h5, h6, h7, h8⟩ := decodeN_high (l.length - i) (l.getD i 0).toNat (l.getD (i + 1) 0).toNat (l.getD (i + 2) 0).toNat (l.getD (i + 3) 0).toNat (by omega) h (UInt8.toNat_lt _)
  rw [← e] at h1 h2 h3 h4 h5 h6 h7 h8
  clear e
  generalize Utf8.decode ⟨l.toArray⟩ i = q at *
  obtain ⟨r, k⟩ := q
  simp only at h1 h2 h3 h4 h5 h6 h7 h8
  refine ⟨r, k, rfl, h7, h8, h2, by omega, fun j hj => ?_⟩
  rcases (by omega : j = 0 ∨ j = 1 ∨ j = 2 ∨ j = 3) with rfl | rfl | rfl | rfl
  · exact h
  · exact h4 (by omega)
  · exact h5 (by omega)
  · exact h6 (by omega)
theorem noAny_high {l : List UInt8} {i k : Nat} (h : Lib.NoAny l [101, 69] i) (hk : ∀ j, j < k → 128 ≤ (l.getD (i + j) 0).toNat) : Lib.NoAny l [101, 69] (i + k) := by
  intro j b hj hb
  by_cases hlt : j < i
  · exact h j b hlt hb
  · have h1 := hk (j - i) (by omega)
    rw [show i + (j - i) = j by omega, List.getD_eq_getElem?_getD, hb] at h1
    simp only [Option.getD_some] at h1
    have n1 : b ≠ 101 := fun e => by rw [e] at h1; exact absurd h1 (by decide)
    have n2 : b ≠ 69 := fun e => by rw [e] at h1; exact absurd h1 (by decide)
    simp [n1, n2]
theorem iter_below (w : World) (s : ByteArray) (i : Nat) : Below w.heap.size w (w.iter s i) := (Below.refl _ _).alloc (Nat.le_refl _) _
set_option maxHeartbeats 8000000 in
set_option maxRecDepth 1000000 in
theorem look_short (l : List UInt8) (w : World) (h8 : l.length ≤ 8) :
    Calls Tryz.prog 57 #[.string ⟨l.toArray⟩, .string ⟨#[101, 69]⟩] w fun e w' => e = .returned (.int .i64 (Lib.indexAny l [101, 69])) ∧ Below w.heap.size w w' := by
  obtain ⟨out, ho⟩ : ∃ out, Lib.indexAny l [101, 69] = out := ⟨_, rfl⟩
  rw [ho]
  have HO := Lib.hid ho
  clear ho
  have hsz : (⟨l.toArray⟩ : ByteArray).size = l.length := by simp [ByteArray.size]
  have h8z : decide ((8 : Int) < (l.length : Int)) = false := decide_eq_false (by omega)
  have H8 := Lib.hid h8
  clear h8
  go_enter Tryz.func57, Tryz.ntmps57
  go_wp2_with (go_at_call 89; refine (should_any _ _).mono ?_; rintro e w' ⟨rfl, hw⟩; subst hw; rw [h8z])
  go_wp2_with fail
  go_loopw [9, 10] (fun _ _ wr => ∃ pos : Nat, pos ≤ l.length ∧ wr.heap[w'.heap.size]? = some (.stringIter ⟨l.toArray⟩ pos) ∧ Below w'.heap.size w' wr ∧ Lib.NoAny l [101, 69] pos) (fun _ _ wr => l.length - wr.iterPos w'.heap.size)
  case atStart => exact ⟨0, by omega, World.iter_heap _ _ _, iter_below _ _ _, Lib.NoAny.zero _ _⟩
  case round =>
    obtain ⟨pos, hp, hit, hbw, hno⟩ := hrel
    have HN := Lib.hid hno
    clear hno
    have hip : wr.iterPos w'.heap.size = pos := by simp [World.iterPos, hit]
    by_cases hlt : pos < l.length
    · have hgw : w'.heap.size < wr.heap.size := (Array.getElem?_eq_some_iff.1 hit).1
      obtain ⟨x, hx⟩ : ∃ x : UInt8, l.getD pos 0 = x := ⟨_, rfl⟩
      have hxl : l[pos]? = some x := by rw [← hx, List.getD_eq_getElem?_getD, List.getElem?_eq_getElem hlt]; rfl
      have hgs : (⟨l.toArray⟩ : ByteArray)[pos]'(by rw [hsz]; exact hlt) = x := by
        rw [← hx]
        show l.toArray[pos]'(by simpa using hlt) = _
        simp [List.getD, hlt]
      by_cases hh : x.toNat < 128
      · have hnx : ∀ ty, (Instr.next (.pointer (some ⟨w'.heap.size, 0, none⟩)) true ty).run Tryz.prog wr = .ok (.tuple #[.bool true, .int .i64 (pos : Int), .int .i32 (x.toNat : Int)]) (wr.iterAt w'.heap.size ⟨l.toArray⟩ (pos + 1)) := fun ty => by
          have := Lib.run_next_ascii_at (P := Tryz.prog) wr w'.heap.size ⟨l.toArray⟩ pos ty hit (by rw [hsz]; exact hlt) (by rw [hgs]; exact hh)
          rw [hgs] at this
          exact this
        have hit2 := Lib.iterAt_heap wr w'.heap.size ⟨l.toArray⟩ pos (pos + 1) hit
        have hbw2 := Lib.below_iterAt hbw (k := w'.heap.size) (Nat.le_refl _) ⟨l.toArray⟩ (pos + 1)
        have hcon := Lib.contains_iff_indexByte ([101, 69] : List UInt8) x
        have hback : ((x.toNat : Int)).toNat.toUInt8 = x := by simp
        generalize wr.iterAt w'.heap.size ⟨l.toArray⟩ (pos + 1) = wn at hnx hit2 hbw2
        have HX := Lib.hid hxl
        clear hx hxl hgs hit hbw hgw
        cases hin : ([101, 69] : List UInt8).contains x
        · rw [hin] at hcon
          have hlt0 : ¬ ((0 : Int) ≤ Lib.indexByte [101, 69] x) := of_decide_eq_false hcon.symm
          have HI := Lib.hid hin
          clear hcon hin
          go_wp2_with (go_at_call 88; refine (low_any _ _ _ (by omega) (by omega)).mono ?_; rintro e w2 ⟨rfl, hw2⟩; subst hw2; rw [hback])
          go_roundw
          case rel => exact ⟨pos + 1, by omega, hit2, hbw2, HN.out.succ HX.out HI.out⟩
          case measure =>
            have hip2 : w2.iterPos w'.heap.size = pos + 1 := by simp [World.iterPos, hit2]
            rw [hip2, hip]
            omega
        · rw [hin] at hcon
          have hge0 : (0 : Int) ≤ Lib.indexByte [101, 69] x := of_decide_eq_true hcon.symm
          have HI := Lib.hid hin
          clear hcon hin
          have HE : Hid (out = (pos : Int)) := show _ = _ by rw [← HO.out, Lib.indexAny_hit HN.out HX.out HI.out]
          go_wp2_with (go_at_call 88; refine (low_any _ _ _ (by omega) (by omega)).mono ?_; rintro e w2 ⟨rfl, hw2⟩; subst hw2; rw [hback])
          go_ret
          exact ⟨by rw [HE.out]; rfl, hbw2⟩
      · obtain ⟨r, k, hd, hr0, hr1, hk1, hkl, hbs⟩ := decode_bytes l pos hlt (by rw [hx]; omega)
        have hnx : ∀ ty, (Instr.next (.pointer (some ⟨w'.heap.size, 0, none⟩)) true ty).run Tryz.prog wr = .ok (.tuple #[.bool true, .int .i64 (pos : Int), .int .i32 (r : Int)]) (wr.iterAt w'.heap.size ⟨l.toArray⟩ (pos + k)) := fun ty => by
          have := Lib.run_next_any_at (P := Tryz.prog) wr w'.heap.size ⟨l.toArray⟩ pos ty hit (by rw [hsz]; exact hlt)
          rw [hd] at this
          exact this
        have hit2 := Lib.iterAt_heap wr w'.heap.size ⟨l.toArray⟩ pos (pos + k) hit
        have hbw2 := Lib.below_iterAt hbw (k := w'.heap.size) (Nat.le_refl _) ⟨l.toArray⟩ (pos + k)
        have hgw2 : w'.heap.size < (wr.iterAt w'.heap.size ⟨l.toArray⟩ (pos + k)).heap.size := by rw [Lib.iterAt_size]; exact hgw
        have HN2 := Lib.hid (noAny_high HN.out hbs)
        generalize wr.iterAt w'.heap.size ⟨l.toArray⟩ (pos + k) = wn at hnx hit2 hbw2 hgw2
        have hr0' : (128 : Int) ≤ (r : Int) := by omega
        have hr1' : (r : Int) ≤ 1114111 := by omega
        clear hx hxl hgs hit hbw hgw hd hbs hh
        go_wp2_with (go_at_call 88; refine (rune_high _ hr0' hr1' _).mono ?_; rintro e w2 ⟨rfl, hw2⟩)
        go_roundw
        case rel => exact ⟨pos + k, hkl, (hw2.block _ hgw2).trans hit2, hbw2.trans (hw2.mono hbw2.size), HN2.out⟩
        case measure =>
          have hip2 : w2.iterPos w'.heap.size = pos + k := by simp [World.iterPos, (hw2.block _ hgw2).trans hit2]
          rw [hip2, hip]
          omega
    · obtain rfl : pos = l.length := by omega
      have hnx : ∀ ty, (Instr.next (.pointer (some ⟨w'.heap.size, 0, none⟩)) true ty).run Tryz.prog wr = .ok (.tuple #[.bool false]) wr := fun ty => Lib.run_next_end_at (P := Tryz.prog) wr w'.heap.size ⟨l.toArray⟩ _ ty hit (by rw [hsz]; omega)
      have HE : Hid (out = -1) := show _ = _ by rw [← HO.out, Lib.indexAny_none HN.out]
      clear hlt hit
      go_wp2_with fail
      go_ret
      exact ⟨by rw [HE.out]; rfl, hbw⟩
theorem look_any (l : List UInt8) (w : World) (hs : l.length < 4294967281) :
    Calls Tryz.prog 57 #[.string ⟨l.toArray⟩, .string ⟨#[101, 69]⟩] w fun e w' => e = .returned (.int .i64 (Lib.indexAny l [101, 69])) ∧ Below w.heap.size w w' := by
  by_cases h8 : l.length ≤ 8
  · exact look_short l w h8
  · exact look_long l w (by omega) hs
end Go.Proofs.YtojpfmlmalmlcaaGreatDoor

namespace Go.Proofs.YtojpfmlmalmlcaaGreatDoor
open Go.RowKit
/-- s[:b] and s[a:] of a text. -/
theorem slice_upto (s : List UInt8) (b : Nat) (hb : b ≤ s.length) (w : World) :
    (Instr.slice 9 (.string ⟨s.toArray⟩) none (some (.int .i64 (b : Int))) none).run Tryz.prog w = .ok (.string ⟨(s.take b).toArray⟩) w := by
  rw [run_slice_string_h w _ _ Tryz.underlying9 .i64 (b : Int) (by omega) (by simp [ByteArray.size]; omega), Lib.extract_eq]
  simp
set_option maxRecDepth 100000 in
theorem all_drop {s : List UInt8} {k : Nat} (h : k < s.length) : (s.drop k).all isD = (isD (s.getD k 0) && (s.drop (k + 1)).all isD) := by
  rw [List.drop_eq_getElem_cons h, List.all_cons]
  congr 2
  rw [List.getD_eq_getElem?_getD, List.getElem?_eq_getElem h]
  rfl
set_option maxHeartbeats 2000000 in
theorem isDigits_any (s : List UInt8) (hs : s.length ≤ 1000000000) (w : World) :
    Calls Tryz.prog 54 #[.string ⟨s.toArray⟩] w fun e w' => e = .returned (.bool (digs s)) ∧ w' = w := by
  obtain ⟨r, hr⟩ : ∃ r, r = digs s := ⟨_, rfl⟩
  rw [← hr]
  have HR : Hid (r = ((s.drop 0).all isD && !s.isEmpty)) := hr
  clear hr
  obtain ⟨N, hN⟩ : ∃ N, N = s.length := ⟨_, rfl⟩
  have HN := Lib.hid hN
  have HNb : Hid (N ≤ 1000000000) := show _ ≤ _ by rw [hN]; exact hs
  clear hN hs
  have hemp : Hid ((s != []) = !s.isEmpty) := show _ = _ by cases s <;> rfl
  go_enter Tryz.func54, Tryz.ntmps54
  go_wp2_with fail
  go_loopw [6] (fun i wr => wr = w ∧ ∃ k : Nat, k ≤ N ∧ i = .int .i64 (k : Int) ∧ r = ((s.drop k).all isD && !s.isEmpty)) (fun i _ => N - (intOf i).toNat)
  case atStart => exact ⟨rfl, 0, by omega, rfl, HR.out⟩
  case round =>
    obtain ⟨rfl, k, hk, rfl, hf⟩ := hrel
    have HF := Lib.hid hf
    have hkb : k ≤ 1000000000 := by have := HNb.out; omega
    clear hf
    by_cases hlt : k < N
    · have d1 : decide ((k : Int) < (s.length : Int)) = true := by rw [← HN.out]; simp; omega
      have d1n : decide (k < s.length) = true := by rw [← HN.out]; simpa using hlt
      have x1 := at_txt s .i64 (k : Int) k rfl (by rw [← HN.out]; exact hlt) wr
      have HA := Lib.hid (all_drop (s := s) (k := k) (by rw [← HN.out]; exact hlt))
      generalize s.getD k 0 = c at x1 HA
      by_cases c1 : c.toNat < 48
      · have d2 : decide ((c.toNat : Int) < 48) = true := by simp; omega
        have HE : Hid (r = false) := show _ = _ by rw [HF.out, HA.out, isD_low c1]; rfl
        clear HA HF c1
        go_wp2_with fail
        go_ret
        exact ⟨by rw [HE.out]; rfl, rfl⟩
      · have d2 : decide ((c.toNat : Int) < 48) = false := by simp; omega
        by_cases c2 : 57 < c.toNat
        · have d3 : decide (57 < (c.toNat : Int)) = true := by simp; omega
          have HE : Hid (r = false) := show _ = _ by rw [HF.out, HA.out, isD_high c2]; rfl
          clear HA HF c1 c2
          go_wp2_with fail
          go_ret
          exact ⟨by rw [HE.out]; rfl, rfl⟩
        · have d3 : decide (57 < (c.toNat : Int)) = false := by simp; omega
          have HE : Hid (r = ((s.drop (k + 1)).all isD && !s.isEmpty)) := show _ = _ by rw [HF.out, HA.out, isD_mid c1 c2]; rfl
          clear HA HF c1 c2
          go_wp2_with fail
          go_roundw
          case rel => exact ⟨trivial, k + 1, by omega, ret_val (by omega), HE.out⟩
          case measure => simp [intOf]; omega
    · obtain rfl : k = N := by omega
      have d1 : decide ((k : Int) < (s.length : Int)) = false := by rw [← HN.out]; simp
      have d1n : decide (k < s.length) = false := by rw [← HN.out]; simp
      have HE : Hid (r = !s.isEmpty) := show _ = _ by rw [HF.out, List.drop_eq_nil_of_le (by rw [← HN.out]; omega)]; rfl
      clear HF
      go_wp2_with fail
      go_ret
      exact ⟨by rw [HE.out]; rfl, rfl⟩
set_option maxHeartbeats 2000000 in
theorem isPlain_any (s : List UInt8) (hs : s.length ≤ 1000000000) (w : World) :
    Calls Tryz.prog 52 #[.string ⟨s.toArray⟩] w fun e w' => e = .returned (.bool (plain s)) ∧ w' = w := by
  obtain ⟨r, hr⟩ : ∃ r, r = plain s := ⟨_, rfl⟩
  rw [← hr]
  have HR : Hid (r = (digs s && (s == [48] || s.getD 0 0 != 48))) := hr
  clear hr
  cases hd : digs s with
  | false =>
    have HE : Hid (r = false) := show _ = _ by rw [HR.out, hd]; rfl
    clear HR
    go_enter Tryz.func52, Tryz.ntmps52
    go_wp2_with (go_at_call 54; refine (isDigits_any s hs _).mono ?_; rintro e w' ⟨rfl, hw⟩; subst hw; rw [hd])
    go_wp2_with fail
    go_ret
    exact ⟨by rw [HE.out]; rfl, rfl⟩
  | true =>
    have hpos : 0 < s.length := List.length_pos_iff.2 (digs_iff.1 hd).2
    have x0 := fun (w : World) => at_txt s .i64 0 0 rfl hpos w
    cases h48 : (s == [48]) with
    | true =>
      have HE : Hid (r = true) := show _ = _ by rw [HR.out, hd, h48]; rfl
      clear HR
      go_enter Tryz.func52, Tryz.ntmps52
      go_wp2_with (go_at_call 54; refine (isDigits_any s hs _).mono ?_; rintro e w' ⟨rfl, hw⟩; subst hw; rw [hd])
      go_wp2_with fail
      go_ret
      exact ⟨by rw [HE.out]; rfl, rfl⟩
    | false =>
      have HE : Hid (r = (s.getD 0 0 != 48)) := show _ = _ by rw [HR.out, hd, h48]; rfl
      clear HR
      have hne : (((s.getD 0 0).toNat : Int) != 48) = (s.getD 0 0 != 48) := by
        generalize s.getD 0 0 = c
        by_cases hc : c = 48
        · subst hc; rfl
        · have h1 : c.toNat ≠ 48 := fun e => hc (UInt8.toNat_inj.1 e)
          rw [bne_iff_ne.2 hc, bne_iff_ne.2 (by omega)]
      generalize s.getD 0 0 = c at x0 HE hne
      obtain ⟨q, hq⟩ : ∃ q, (c != 48) = q := ⟨_, rfl⟩
      rw [hq] at hne HE
      go_enter Tryz.func52, Tryz.ntmps52
      go_wp2_with (go_at_call 54; refine (isDigits_any s hs _).mono ?_; rintro e w' ⟨rfl, hw⟩; subst hw; rw [hd])
      go_wp2_with fail
      go_ret
      exact ⟨by rw [HE.out]; rfl, rfl⟩
set_option maxHeartbeats 2000000 in
theorem withoutSign_any (s : List UInt8) (hs : s.length ≤ 1000000000) (w : World) :
    Calls Tryz.prog 55 #[.string ⟨s.toArray⟩] w fun e w' => e = .returned (.string ⟨(unsign s).toArray⟩) ∧ w' = w := by
  obtain ⟨r, hr⟩ : ∃ r, r = unsign s := ⟨_, rfl⟩
  rw [← hr]
  cases s with
  | nil =>
    subst hr
    go_enter Tryz.func55, Tryz.ntmps55
    go_wp2_with fail
    go_ret
    exact ⟨rfl, rfl⟩
  | cons c t =>
    have x0 := fun (w : World) => at_txt (c :: t) .i64 0 0 rfl (by simp) w
    have x1 := fun (w : World) => slice_from (c :: t) 1 1 rfl (by simp) w
    simp only [List.getD_cons_zero, List.drop_succ_cons, List.drop_zero] at x0 x1
    have hn1 : ¬ (c :: t) = [] := by simp
    have hn2 : (!(c :: t).isEmpty) = true := rfl
    have hcase : (unsign (c :: t) = t ∧ (((c.toNat : Int) == 43) = true ∨ (((c.toNat : Int) == 43) = false ∧ ((c.toNat : Int) == 45) = true))) ∨ (unsign (c :: t) = c :: t ∧ ((c.toNat : Int) == 43) = false ∧ ((c.toNat : Int) == 45) = false) := by
      have e43 : (43 : UInt8).toNat = 43 := rfl
      have e45 : (45 : UInt8).toNat = 45 := rfl
      by_cases h43 : c = 43
      · left
        exact ⟨by simp [unsign, h43], .inl (by rw [h43]; rfl)⟩
      · have n43 : c.toNat ≠ 43 := fun e => h43 (UInt8.toNat_inj.1 e)
        by_cases h45 : c = 45
        · left
          exact ⟨by simp [unsign, h45], .inr ⟨beq_eq_false_iff_ne.2 (by omega), by rw [h45]; rfl⟩⟩
        · have n45 : c.toNat ≠ 45 := fun e => h45 (UInt8.toNat_inj.1 e)
          right
          exact ⟨by simp [unsign, h43, h45], beq_eq_false_iff_ne.2 (by omega), beq_eq_false_iff_ne.2 (by omega)⟩
    obtain ⟨S, hS⟩ : ∃ S, S = c :: t := ⟨_, rfl⟩
    rw [← hS] at x0 x1 hn1 hn2 hcase hr ⊢
    clear hS hs
    rcases hcase with ⟨h1, g1 | ⟨g1, g2⟩⟩ | ⟨h1, g1, g2⟩
    all_goals (
      rw [h1] at hr
      have HE := Lib.hid hr
      clear hr h1
      go_enter Tryz.func55, Tryz.ntmps55
      go_wp2_with fail
      go_ret
      exact ⟨by rw [HE.out]; rfl, rfl⟩)
theorem indexAny_lt (cs l : List UInt8) : Lib.indexAny l cs < l.length := by
  induction l with
  | nil => show (-1 : Int) < 0; decide
  | cons b l ih =>
    unfold Lib.indexAny
    rw [List.length_cons]
    split
    · omega
    · split <;> omega
set_option maxHeartbeats 2000000 in
theorem cutExponent_any (s : List UInt8) (hs : s.length ≤ 1000000000) (w : World) :
    Calls Tryz.prog 50 #[.string ⟨s.toArray⟩] w fun e w' => e = .returned (.tuple #[.string ⟨(cutE s).1.toArray⟩, .string ⟨(cutE s).2.1.toArray⟩, .bool (cutE s).2.2]) ∧ Below w.heap.size w w' := by
  obtain ⟨r, hr⟩ : ∃ r, r = cutE s := ⟨_, rfl⟩
  rw [← hr]
  rw [indexAny_cutE] at hr
  have hlt := indexAny_lt [101, 69] s
  have c0 := fun w => look_any s w (by omega)
  generalize Lib.indexAny s [101, 69] = at0 at hr hlt c0
  have C0 := Lib.hid c0
  clear c0
  by_cases h0 : at0 < 0
  · have HE : Hid (r = (s, [], false)) := show _ = _ by rw [hr, if_pos h0]
    have d0 : decide (at0 < 0) = true := by simpa using h0
    clear hr
    go_enter Tryz.func50, Tryz.ntmps50
    go_wp2_with (go_at_call 57; refine (C0.out _).mono ?_; rintro e w1 ⟨rfl, hb⟩)
    go_wp2_with fail
    go_ret3
    exact ⟨by rw [HE.out]; rfl, hb⟩
  · have HE : Hid (r = (s.take at0.toNat, s.drop (at0.toNat + 1), true)) := show _ = _ by rw [hr, if_neg h0]
    have d0 : decide (at0 < 0) = false := by simpa using h0
    obtain ⟨k, rfl⟩ : ∃ k : Nat, at0 = (k : Int) := ⟨at0.toNat, by omega⟩
    rw [Int.toNat_natCast] at HE
    have hk : k < s.length := by omega
    have wk : IntKind.i64.wrap ((k : Int) + 1) = (k : Int) + 1 := by rw [IntKind.wrap_i64]; omega
    have x0 := fun (w : World) => slice_upto s k (by omega) w
    have x1 := fun (w : World) => slice_from s (k + 1) ((k : Int) + 1) (by omega) (by omega) w
    clear hr
    go_enter Tryz.func50, Tryz.ntmps50
    go_wp2_with (go_at_call 57; refine (C0.out _).mono ?_; rintro e w1 ⟨rfl, hb⟩)
    go_wp2_with fail
    go_quiet (fail)
    have hb2 : Below w.heap.size w (w1.drewN nq) := hb.trans ⟨rfl, rfl, rfl, Nat.le_refl _, fun _ _ => rfl⟩
    generalize w1.drewN nq = w2 at hb2 ⊢
    go_wp2_with fail
    go_ret3
    exact ⟨by rw [HE.out]; rfl, hb2⟩
end Go.Proofs.YtojpfmlmalmlcaaGreatDoor
