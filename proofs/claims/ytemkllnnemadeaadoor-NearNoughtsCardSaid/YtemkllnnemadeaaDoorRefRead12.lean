/-
  What the document's Read answers: the nearest pattern, found by halving. No condition but the text's length.
-/
import Derived.Test.YtemkllnnemadeaaDoorExact12
import Derived.Test.YtemkllnnemadeaaDoorCmpDec12
import Derived.Test.YtemkllnnemadeaaDoorClip12
import Derived.Deep.Cut
import Derived.Lib.Strings
namespace Go.Proofs.YtemkllnnemadeaaDoor
open Go.RowKit

/-- s[i], s[:b] and s[a:] of a text. -/
theorem at_s12 (l : List UInt8) (i : Int) (j : Nat) (hi : i = (j : Int)) (hj : j < l.length) (w : World) :
    (Instr.index 9 (.string ⟨l.toArray⟩) (.int .i64 i)).run Tryd.prog w = .ok (.int .u8 ((l.getD j 0).toNat : Int)) w := by
  subst hi
  rw [run_index_string w _ _ _ _ Tryd.underlying9, dif_pos ⟨by omega, by simp [ByteArray.size]; omega⟩]
  have e : (⟨l.toArray⟩ : ByteArray)[((j : Int)).toNat]'(by simp [ByteArray.size]; omega) = l.getD j 0 := by
    show l.toArray[((j : Int)).toNat]'(by simp; omega) = l.getD j 0
    simp [List.getD, hj]
  rw [e]
theorem upto_s12 (s : List UInt8) (b : Nat) (hb : b ≤ s.length) (w : World) :
    (Instr.slice 9 (.string ⟨s.toArray⟩) none (some (.int .i64 (b : Int))) none).run Tryd.prog w = .ok (.string ⟨(s.take b).toArray⟩) w := by
  rw [run_slice_string_h w _ _ Tryd.underlying9 .i64 (b : Int) (by omega) (by simp [ByteArray.size]; omega), Lib.extract_eq]
  simp
theorem from_s12 (s : List UInt8) (a : Nat) (i : Int) (hi : i = (a : Int)) (ha : a ≤ s.length) (w : World) :
    (Instr.slice 9 (.string ⟨s.toArray⟩) (some (.int .i64 i)) none none).run Tryd.prog w = .ok (.string ⟨(s.drop a).toArray⟩) w := by
  subst hi
  rw [run_slice_string_l w _ _ Tryd.underlying9 .i64 (a : Int) (by omega) (by simp [ByteArray.size]; omega), Lib.extract_eq]
  simp only [ByteArray.size, List.size_toArray, Int.toNat_natCast]
  rw [List.take_of_length_le (by simp)]

set_option maxHeartbeats 1000000 in
theorem refRead_len (ds : List UInt8) (x : Int) (w : World) (h : decide ((ds.length : Int) < 1) = true ∨ (decide ((ds.length : Int) < 1) = false ∧ decide (300 < (ds.length : Int)) = true)) :
    Calls Tryd.prog 10 #[.string ⟨ds.toArray⟩, .int .i64 x] w fun r w' => r = .returned (.tuple #[.int .u64 0, .bool false]) ∧ w' = w := by
  rcases h with h | ⟨h, h2⟩
  all_goals
    obtain ⟨N, hN⟩ : ∃ N, N = ds.length := ⟨_, rfl⟩
    go_enter Tryd.func10, Tryd.ntmps10
    go_wp2_with fail
    go_ret2
    exact ⟨rfl, rfl⟩

/-- A byte that is no digit. -/
theorem bad_digit {ds : List UInt8} (h : ¬ Dgs ds) : ∃ j, j < ds.length ∧ ¬ isD12 (ds.getD j 0) := by
  induction ds with
  | nil => exact absurd (fun x hx => by cases hx) h
  | cons c l ih =>
    by_cases hc : isD12 c
    · have h2 : ¬ Dgs l := fun hl => h (fun x hx => by
        rcases List.mem_cons.1 hx with rfl | hx
        · exact hc
        · exact hl x hx)
      obtain ⟨j, hj, hn⟩ := ih h2
      exact ⟨j + 1, by simp only [List.length_cons]; omega, by simpa using hn⟩
    · exact ⟨0, by simp, by simpa using hc⟩

set_option maxHeartbeats 1000000 in
theorem refRead_bad (ds : List UInt8) (x : Int) (w : World) (h1 : 1 ≤ ds.length) (h2 : ds.length ≤ 300) (h : ¬ Dgs ds) :
    Calls Tryd.prog 10 #[.string ⟨ds.toArray⟩, .int .i64 x] w fun r w' => r = .returned (.tuple #[.int .u64 0, .bool false]) ∧ w' = w := by
  obtain ⟨b, hb, hbad⟩ := bad_digit h
  have d1 : decide ((ds.length : Int) < 1) = false := by simp; omega
  have d1n : decide (ds.length < 1) = false := decide_eq_false (by omega)
  have d2 : decide (300 < (ds.length : Int)) = false := by simp; omega
  have d2n : decide (300 < ds.length) = false := by simp; omega
  have HB := Lib.hid hb; have HBAD := Lib.hid hbad; have H2 := Lib.hid h2
  clear h hb hbad h1 h2
  go_enter Tryd.func10, Tryd.ntmps10
  go_wp2_with fail
  clear d1 d1n d2 d2n
  go_loopw [6] (fun v wr => wr = w ∧ ∃ i : Nat, i ≤ b ∧ v = .int .i64 (i : Int)) (fun v _ => 1000 - (intOf v).toNat)
  case atStart => exact ⟨rfl, 0, by omega, rfl⟩
  case round =>
    obtain ⟨rfl, i, hi, rfl⟩ := hrel
    have hb := HB.out
    have h2 := H2.out
    have d1 : decide ((i : Int) < (ds.length : Int)) = true := by simp; omega
    have d1n : decide (i < ds.length) = true := by simp; omega
    have x1 := at_s12 ds (i : Int) i rfl (by omega) wr
    have HZ : Hid (wrap64 ((i : Int) + 1) = ((i + 1 : Nat) : Int)) := show _ = _ by unfold wrap64; omega
    have HI : Hid (i < 1000) := show _ < _ by omega
    by_cases hd : isD12 (ds.getD i 0)
    · have hib : i ≠ b := fun e => HBAD.out (by rw [← e]; exact hd)
      generalize ds.getD i 0 = c at *
      have d2 : decide ((c.toNat : Int) < 48) = false := by have := hd.1; simp; omega
      have d3 : decide (57 < (c.toNat : Int)) = false := by have := hd.2; simp; omega
      have HN : Hid (i + 1 ≤ b) := show _ ≤ _ by omega
      clear hb h2 hd hi hib
      go_wp2_with fail
      go_roundw
      case rel => exact ⟨trivial, i + 1, HN.out, by rw [HZ.out]⟩
      case measure => rw [HZ.out]; clear d1 d1n d2 d3 x1; exact meas12 HI.out
    · generalize ds.getD i 0 = c at *
      by_cases hc : c.toNat < 48
      · have d2 : decide ((c.toNat : Int) < 48) = true := by simp; omega
        clear hb h2 hd hi hc
        go_wp2_with fail
        go_ret2
        exact ⟨rfl, rfl⟩
      · have d2 : decide ((c.toNat : Int) < 48) = false := by simp; omega
        have d3 : decide (57 < (c.toNat : Int)) = true := by unfold isD12 at hd; simp; omega
        clear hb h2 hd hi hc
        go_wp2_with fail
        go_ret2
        exact ⟨rfl, rfl⟩

def strLen12 : Value → Nat
  | .string s => s.data.size
  | _ => 0
theorem str_less {a b : List UInt8} (h : a.length = b.length + 1) : strLen12 (.string ⟨b.toArray⟩) < strLen12 (.string ⟨a.toArray⟩) := by
  show b.toArray.size < a.toArray.size
  simp
  omega
theorem eb12 (r : Nat) : -1074 ≤ eOf r ∧ eOf r ≤ 971 := by
  unfold eOf
  split
  · omega
  · split
    · omega
    · split
      · omega
      · omega
/-- What Read answers of a pattern. -/
def rdP (p : Nat) : Nat := if p = 9218868437227405312 then 0 else p
def rdB (p : Nat) : Bool := decide (p ≠ 9218868437227405312)

set_option maxHeartbeats 8000000 in
set_option maxRecDepth 100000 in
theorem refRead_good (ds : List UInt8) (x : Int) (w : World) (h1 : 1 ≤ ds.length) (h2 : ds.length ≤ 300) (h : Dgs ds) (hx : -9223372036854775808 ≤ x ∧ x ≤ 9223372036854775807) :
    Calls Tryd.prog 10 #[.string ⟨ds.toArray⟩, .int .i64 x] w fun r w' => (∃ p, NearIs (dA ds x) (dB ds x) p ∧ r = .returned (.tuple #[.int .u64 ((rdP p : Nat) : Int), .bool (rdB p)])) ∧ Below w.heap.size w w' := by
  have d1 : decide ((ds.length : Int) < 1) = false := by simp; omega
  have d1n : decide (ds.length < 1) = false := decide_eq_false (by omega)
  have d2 : decide (300 < (ds.length : Int)) = false := by simp; omega
  have d2n : decide (300 < ds.length) = false := by simp; omega
  have HD := Lib.hid h; have H2 := Lib.hid h2; have HX := Lib.hid hx; have H1 := Lib.hid h1
  clear h h1 h2 hx
  go_enter Tryd.func10, Tryd.ntmps10
  go_upto_block 0 with fail
  clear d1 d1n d2 d2n
  go_cut [6] (fun _ wx => wx = w)
  case first =>
    go_wp2_with fail
    go_loopw [6] (fun v wr => wr = w ∧ ∃ i : Nat, i ≤ ds.length ∧ v = .int .i64 (i : Int)) (fun v _ => 1000 - (intOf v).toNat)
    case atStart => exact ⟨rfl, 0, by omega, rfl⟩
    case round =>
      obtain ⟨rfl, i, hi, rfl⟩ := hrel
      have h2 := H2.out
      by_cases hlt : i < ds.length
      · have d1 : decide ((i : Int) < (ds.length : Int)) = true := by simp; omega
        have d1n : decide (i < ds.length) = true := by simp; omega
        have x1 := at_s12 ds (i : Int) i rfl hlt wr
        have HZ : Hid (wrap64 ((i : Int) + 1) = ((i + 1 : Nat) : Int)) := show _ = _ by unfold wrap64; omega
        have HI : Hid (i < 1000) := show _ < _ by omega
        have hd : isD12 (ds.getD i 0) := HD.out _ (by
          have : ds.getD i 0 = ds[i] := by simp [List.getD, hlt]
          rw [this]; exact List.getElem_mem hlt)
        generalize ds.getD i 0 = c at *
        have d2 : decide ((c.toNat : Int) < 48) = false := by have := hd.1; simp; omega
        have d3 : decide (57 < (c.toNat : Int)) = false := by have := hd.2; simp; omega
        have HN : Hid (i + 1 ≤ ds.length) := hlt
        clear h2 hd hi hlt
        go_wp2_with fail
        go_roundw
        case rel => exact ⟨trivial, i + 1, HN.out, by rw [HZ.out]⟩
        case measure => rw [HZ.out]; clear d1 d1n d2 d3 x1; exact meas12 HI.out
      · have d1 : decide ((i : Int) < (ds.length : Int)) = false := by simp; omega
        have d1n : decide (i < ds.length) = false := by simp; omega
        clear h2 hi hlt
        go_wp2_with fail
        go_meet
        rfl
  case rest =>
  subst hcut
  go_upto_region 8 with fail
  have hcl : (x < -3000 ∧ clip x = -3000) ∨ (x = -3000 ∧ clip x = -3000) ∨ (-3000 < x ∧ 3000 < x ∧ clip x = 3000) ∨ (x = 3000 ∧ clip x = 3000) ∨ (-3000 < x ∧ x < 3000 ∧ clip x = x) := by
    unfold clip
    by_cases c1 : x < -3000
    · exact .inl ⟨c1, by rw [if_pos c1]⟩
    · by_cases c2 : 3000 < x
      · exact .inr (.inr (.inl ⟨by omega, c2, by rw [if_neg c1, if_pos c2]⟩))
      · by_cases c3 : x = -3000
        · exact .inr (.inl ⟨c3, by rw [if_neg c1, if_neg c2, c3]⟩)
        · by_cases c4 : x = 3000
          · exact .inr (.inr (.inr (.inl ⟨c4, by rw [if_neg c1, if_neg c2, c4]⟩)))
          · exact .inr (.inr (.inr (.inr ⟨by omega, by omega, by rw [if_neg c1, if_neg c2]⟩)))
  go_cut [1] (fun v wx => wx = wc ∧ v = .int .i64 (clip x))
  case first =>
    rcases hcl with ⟨c1, h⟩ | ⟨c1, h⟩ | ⟨c1, c2, h⟩ | ⟨c1, h⟩ | ⟨c1, c2, h⟩
    all_goals
      try subst c1
      have HC := Lib.hid h
      clear h
      go_wp2_with fail
      go_meet
      exact ⟨rfl, by rw [HC.out]⟩
  case rest =>
  clear hcl
  obtain ⟨rfl, rfl⟩ := hcut
  have hcb : -3000 ≤ clip x ∧ clip x ≤ 3000 := by
    unfold clip
    split
    · omega
    · split <;> omega
  obtain ⟨X0, hX0⟩ : ∃ X0, X0 = clip x := ⟨_, rfl⟩
  rw [← hX0] at hcb ⊢
  have HCB := Lib.hid hcb
  obtain ⟨A0, hA0⟩ : ∃ A0, A0 = dA ds X0 := ⟨_, rfl⟩
  obtain ⟨B0, hB0⟩ : ∃ B0, B0 = dB ds X0 := ⟨_, rfl⟩
  have HB0 : Hid (0 < B0) := show _ < _ by rw [hB0]; exact dB_pos _ _
  have HEND : Hid (∀ p, NearIs A0 B0 p → NearIs (dA ds x) (dB ds x) p) := fun p hp => near_clip HD.out H2.out (by rw [← hX0, ← hA0, ← hB0]; exact hp)
  have HA := Lib.hid hA0; have HB := Lib.hid hB0
  clear hX0 hA0 hB0 hcb
  go_upto_block 2 with fail
  go_cut [0, 1] (fun v0 v1 wx => wx = wc ∧ ∃ (l : List UInt8) (X : Int), v0 = .string ⟨l.toArray⟩ ∧ v1 = .int .i64 X ∧ Dgs l ∧ l.length ≤ 300 ∧ dA l X = A0 ∧ dB l X = B0 ∧ -3300 + (l.length : Int) ≤ X ∧ X ≤ 3000 ∧ (l = [] ∨ l.getD 0 0 ≠ 48))
  case first =>
    go_wp2_with fail
    go_loopw [0, 1] (fun v0 v1 wx => wx = wc ∧ ∃ (l : List UInt8) (X : Int), v0 = .string ⟨l.toArray⟩ ∧ v1 = .int .i64 X ∧ Dgs l ∧ l.length ≤ 300 ∧ dA l X = A0 ∧ dB l X = B0 ∧ -3300 + (l.length : Int) ≤ X ∧ X ≤ 3000) (fun v0 _ _ => strLen12 v0)
    case atStart => exact ⟨rfl, ds, X0, rfl, rfl, HD.out, H2.out, HA.out.symm, HB.out.symm, by have := HCB.out; have := H2.out; omega, HCB.out.2⟩
    case round =>
      obtain ⟨rfl, l, X, rfl, rfl, hd, hl, hA, hB, hX1, hX2⟩ := hrel
      cases l with
      | nil =>
        have HN : Hid (Dgs ([] : List UInt8) ∧ ([] : List UInt8).length ≤ 300 ∧ dA [] X = A0 ∧ dB [] X = B0 ∧ -3300 + (([] : List UInt8).length : Int) ≤ X ∧ X ≤ 3000) := ⟨hd, hl, hA, hB, hX1, hX2⟩
        clear hd hl hA hB hX1 hX2
        go_wp2_with fail
        go_meet
        obtain ⟨q1, q2, q3, q4, q5, q6⟩ := HN.out
        exact ⟨rfl, [], X, rfl, rfl, q1, q2, q3, q4, q5, q6, .inl rfl⟩
      | cons c r =>
        obtain ⟨l, hlr⟩ : ∃ l, l = c :: r := ⟨_, rfl⟩
        rw [← hlr] at hd hl hA hB hX1 ⊢
        have hl0 : 0 < l.length := by rw [hlr]; simp
        have d1 : decide ((0 : Int) < (l.length : Int)) = true := by simp; omega
        have d1n : decide (0 < l.length) = true := by simp; omega
        have x1 := at_s12 l 0 0 rfl hl0 wr
        have hc0 : l.getD 0 0 = c := by rw [hlr]; rfl
        rw [hc0] at x1
        by_cases hc : c = 48
        · subst hc
          have x2 : (Instr.index 9 (.string ⟨l.toArray⟩) (.int .i64 0)).run Tryd.prog wr = .ok (.int .u8 48) wr := x1
          have x3 := from_s12 l 1 1 rfl hl0 wr
          have hdr : l.drop 1 = r := by rw [hlr]; rfl
          rw [hdr] at x3
          obtain ⟨e1, e2⟩ := dA_ahead r X
          rw [hlr] at hd hl hA hB hX1
          have HN : Hid (Dgs r ∧ r.length ≤ 300 ∧ dA r (X - 1) = A0 ∧ dB r (X - 1) = B0 ∧ -3300 + (r.length : Int) ≤ X - 1 ∧ X - 1 ≤ 3000) :=
            ⟨fun x hx => hd x (List.mem_cons_of_mem _ hx), by simp only [List.length_cons] at hl; omega, by rw [← e1]; exact hA, by rw [← e2]; exact hB, by simp only [List.length_cons] at hX1; omega, by omega⟩
          have HZ : Hid (wrap64 (X - 1) = X - 1) := show _ = _ by unfold wrap64; omega
          have HL : Hid (l.length = r.length + 1) := show _ = _ by rw [hlr]; rfl
          clear x1 hd hl hA hB hX1 hX2 hlr hl0 hc0 hdr e1 e2
          go_wp2_with fail
          go_roundw
          case rel => exact ⟨trivial, r, X - 1, rfl, by rw [HZ.out], HN.out⟩
          case measure => exact str_less HL.out
        · have d2 : ((c.toNat : Int) == 48) = false := by
            simp only [beq_eq_false_iff_ne]
            intro h
            exact hc (UInt8.toNat_inj.1 (show c.toNat = 48 by omega))
          have HN : Hid (Dgs l ∧ l.length ≤ 300 ∧ dA l X = A0 ∧ dB l X = B0 ∧ -3300 + (l.length : Int) ≤ X ∧ X ≤ 3000 ∧ (l = [] ∨ l.getD 0 0 ≠ 48)) := ⟨hd, hl, hA, hB, hX1, hX2, .inr (by rw [hc0]; exact hc)⟩
          clear hd hl hA hB hX1 hX2 hlr hl0 hc0 hc
          go_wp2_with fail
          go_meet
          exact ⟨rfl, l, X, rfl, rfl, HN.out⟩
  case rest =>
  obtain ⟨rfl, l0, X, rfl, rfl, hcr⟩ := hcut
  obtain ⟨hd0, hl0, hA0, hB0, hX1, hX2, hfr⟩ := hcr
  have HX12 : Hid (-3300 ≤ X ∧ X ≤ 3000) := show _ ∧ _ by omega
  have HST : Hid (Dgs l0 ∧ l0.length ≤ 300 ∧ (l0 = [] ∨ l0.getD 0 0 ≠ 48) ∧ dA l0 X * B0 = A0 * dB l0 X) := ⟨hd0, hl0, hfr, by rw [hA0, hB0]⟩
  clear hd0 hl0 hA0 hB0 hX1 hX2 hfr HA HB HD H2 HCB H1
  go_upto_block 4 with fail
  go_cut [0] (fun v0 wx => wx = wc ∧ ∃ l : List UInt8, v0 = .string ⟨l.toArray⟩ ∧ Dgs l ∧ l.length ≤ 300 ∧ (l = [] ∨ l.getD 0 0 ≠ 48) ∧ dA l X * B0 = A0 * dB l X ∧ Tl l)
  case first =>
    go_wp2_with fail
    go_loopw [0] (fun v0 wx => wx = wc ∧ ∃ l : List UInt8, v0 = .string ⟨l.toArray⟩ ∧ Dgs l ∧ l.length ≤ 300 ∧ (l = [] ∨ l.getD 0 0 ≠ 48) ∧ dA l X * B0 = A0 * dB l X) (fun v0 _ => strLen12 v0)
    case atStart => exact ⟨rfl, l0, rfl, HST.out⟩
    case round =>
      clear HST
      obtain ⟨rfl, l, rfl, hd, hl, hf, hv⟩ := hrel
      by_cases he : l = []
      · subst he
        have HN : Hid (Dgs ([] : List UInt8) ∧ ([] : List UInt8).length ≤ 300 ∧ True ∧ dA [] X * B0 = A0 * dB [] X ∧ Tl []) := ⟨hd, hl, trivial, hv, by simp [Tl]⟩
        clear hd hl hf hv
        go_wp2_with fail
        go_meet
        obtain ⟨q1, q2, -, q4, q5⟩ := HN.out
        exact ⟨rfl, [], rfl, q1, q2, .inl rfl, q4, q5⟩
      · have hl0 : 0 < l.length := List.length_pos_iff.2 he
        obtain ⟨N, hN⟩ : ∃ N, N = l.length := ⟨_, rfl⟩
        obtain ⟨o, ho⟩ : ∃ o, N = o + 1 := ⟨N - 1, by omega⟩
        have d1 : decide ((0 : Int) < (l.length : Int)) = true := by simp; omega
        have d1n : decide (0 < l.length) = true := by simp; omega
        have z1 : wrap64 ((l.length : Int) - 1) = (o : Int) := by unfold wrap64; omega
        have x1 := at_s12 l (o : Int) o rfl (by omega) wr
        by_cases hc : l.getD o 0 = 48
        · rw [hc] at x1
          have x2 : (Instr.index 9 (.string ⟨l.toArray⟩) (.int .i64 (o : Int))).run Tryd.prog wr = .ok (.int .u8 48) wr := x1
          have x3 := upto_s12 l o (by omega) wr
          have hsp : l = l.take o ++ [48] := by rw [← hc]; exact last_of hN.symm ho
          have HL : Hid (l.length = (l.take o).length + 1) := show _ = _ by rw [List.length_take]; omega
          have HN : Hid (Dgs (l.take o) ∧ (l.take o).length ≤ 300 ∧ (l.take o = [] ∨ (l.take o).getD 0 0 ≠ 48) ∧ dA (l.take o) X * B0 = A0 * dB (l.take o) X) := by
            refine ⟨fun x hx => hd x (List.mem_of_mem_take hx), by rw [List.length_take]; omega, ?_, ?_⟩
            · rcases Nat.eq_zero_or_pos o with h0 | h0
              · left; rw [h0, List.take_zero]
              · right
                rcases hf with h | h
                · exact absurd h he
                · have : (l.take o).getD 0 0 = l.getD 0 0 := by simp [List.getD, h0]
                  rw [this]; exact h
            · have hb := dA_behind (l.take o) X
              rw [← hsp] at hb
              apply Nat.eq_of_mul_eq_mul_right (dB_pos l X)
              calc dA (l.take o) X * B0 * dB l X = dA (l.take o) X * dB l X * B0 := Nat.mul_right_comm _ _ _
                _ = dA l X * dB (l.take o) X * B0 := by rw [hb]
                _ = dA l X * B0 * dB (l.take o) X := Nat.mul_right_comm _ _ _
                _ = A0 * dB (l.take o) X * dB l X := by rw [hv]; exact Nat.mul_right_comm _ _ _
          clear x1 hd hl hf hv hl0 hN ho hc hsp
          generalize l.take o = r at *
          go_wp2_with fail
          go_roundw
          case rel => exact ⟨trivial, r, rfl, HN.out⟩
          case measure => exact str_less HL.out
        · have HN : Hid (Dgs l ∧ l.length ≤ 300 ∧ (l = [] ∨ l.getD 0 0 ≠ 48) ∧ dA l X * B0 = A0 * dB l X ∧ Tl l) := ⟨hd, hl, hf, hv, tl_of hN.symm ho hc⟩
          generalize l.getD o 0 = c at *
          have d2 : ((c.toNat : Int) == 48) = false := by
            simp only [beq_eq_false_iff_ne]
            intro h
            exact hc (UInt8.toNat_inj.1 (show c.toNat = 48 by omega))
          clear hd hl hf hv hl0 hN ho hc
          go_wp2_with fail
          go_meet
          exact ⟨rfl, l, rfl, HN.out⟩
  case rest =>
  clear HST
  obtain ⟨rfl, l, rfl, hd, hl, hf, hv, htl⟩ := hcut
  by_cases he : l = []
  · subst he
    have hp : NearIs A0 B0 0 := by
      have h0 : dA [] X = 0 := dA_zero rfl X
      rw [h0, Nat.zero_mul] at hv
      have hA : A0 = 0 := by
        rcases Nat.eq_zero_or_pos A0 with h | h
        · exact h
        · have := Nat.mul_pos h (dB_pos [] X); omega
      exact near_none HB0.out (by rw [hA]; omega)
    have HP := Lib.hid (HEND.out 0 hp)
    clear hd hl hf hv htl hp
    go_wp2_with fail
    go_ret2
    exact ⟨⟨0, HP.out, rfl⟩, Below.refl _ _⟩
  · have ht : Trim l := ⟨hd, he, by rcases hf with h | h; exact absurd h he; exact h, htl⟩
    have HT := Lib.hid ht
    have HQ : Hid (∀ p, NearIs (dA l X) (dB l X) p → NearIs (dA ds x) (dB ds x) p) := fun p hp => HEND.out p (near_same (dB_pos l X) HB0.out hv hp)
    have n1 : (l == []) = false := by simpa using he
    have n2 : (!l.isEmpty) = true := by simpa using he
    have hl1 : 1 ≤ l.length := List.length_pos_iff.2 he
    have hge := nd_ge hd he (by rcases hf with h | h; exact absurd h he; exact h)
    clear hd hl hf hv htl ht HEND HB0
    by_cases c1 : 400 < X
    · have t1 : decide (400 < X) = true := by simpa using c1
      have HP := Lib.hid (HQ.out _ (far_up hge hl1 c1))
      clear hl1 hge c1
      go_wp2_with fail
      go_ret2
      exact ⟨⟨_, HP.out, rfl⟩, Below.refl _ _⟩
    · have t1 : decide (400 < X) = false := by simpa using c1
      by_cases c2 : X < -400
      · have t2 : decide (X < -400) = true := by simpa using c2
        have HP := Lib.hid (HQ.out _ (far_dn HT.out.dgs c2))
        clear hl1 hge c1 c2
        go_wp2_with fail
        go_ret2
        exact ⟨⟨_, HP.out, rfl⟩, Below.refl _ _⟩
      · have t2 : decide (X < -400) = false := by simpa using c2
        clear hl1 hge c1 c2
        obtain ⟨ws, hws⟩ : ∃ v, v = wc := ⟨_, rfl⟩
        rw [← hws]
        replace hws := Lib.hid hws
        go_upto_block 6 with fail
        go_cut [7] (fun v7 wx => Below ws.heap.size ws wx ∧ ∃ lo : Nat, v7 = .int .u64 (lo : Int) ∧ lo ≤ 9218868437227405311 ∧ vN lo * dB l X ≤ dA l X ∧ (lo = 9218868437227405311 ∨ dA l X < vN (lo + 1) * dB l X))
        case first =>
          go_wp2_with fail
          go_loopw [7, 8] (fun v7 v8 wx => Below ws.heap.size ws wx ∧ ∃ lo hi : Nat, v7 = .int .u64 (lo : Int) ∧ v8 = .int .u64 (hi : Int) ∧ lo ≤ hi ∧ hi ≤ 9218868437227405311 ∧ vN lo * dB l X ≤ dA l X ∧ (hi = 9218868437227405311 ∨ dA l X < vN (hi + 1) * dB l X)) (fun v7 v8 _ => (intOf v8 - intOf v7).toNat)
          case atStart => exact ⟨Below.refl _ _, 0, 9218868437227405311, rfl, rfl, by decide, Nat.le_refl _, by rw [vN_low (by decide), Nat.zero_mul]; exact Nat.zero_le _, .inl rfl⟩
          case round =>
            obtain ⟨hB, lo, hi, rfl, rfl, hlh, hht, hlo, hhi⟩ := hrel
            by_cases hlt : lo < hi
            · obtain ⟨p, hp⟩ : ∃ p, p = lo + (hi - lo + 1) / 2 := ⟨_, rfl⟩
              have hp1 : lo < p := by omega
              have hp2 : p ≤ hi := by omega
              have hpt : p < 9218868437227405312 := by omega
              obtain ⟨s1, hs1⟩ : ∃ s1, s1 = hi - lo := ⟨_, rfl⟩
              obtain ⟨s2, hs2⟩ : ∃ s2, s2 = s1 + 1 := ⟨_, rfl⟩
              obtain ⟨s3, hs3⟩ : ∃ s3, s3 = s2 / 2 := ⟨_, rfl⟩
              obtain ⟨p1, hpp⟩ : ∃ p1, p = p1 + 1 := ⟨p - 1, by omega⟩
              have e1 : IntKind.u64.wrap ((hi : Int) - (lo : Int)) = (s1 : Int) := by rw [IntKind.wrap_u64]; omega
              have e2 : IntKind.u64.wrap ((s1 : Int) + 1) = (s2 : Int) := by rw [IntKind.wrap_u64]; omega
              have e3 : (s2 : Int).tdiv 2 = (s3 : Int) := by rw [Int.tdiv_eq_ediv_of_nonneg (by omega)]; omega
              have e4 : (s2 : Int) / 2 = (s3 : Int) := by omega
              have e5 : IntKind.u64.wrap (s3 : Int) = (s3 : Int) := ur12 (by omega)
              have e6 : IntKind.u64.wrap ((lo : Int) + (s3 : Int)) = (p : Int) := by rw [IntKind.wrap_u64]; omega
              have HZP : Hid (IntKind.u64.wrap ((p : Int) - 1) = (p1 : Int)) := show _ = _ by rw [IntKind.wrap_u64]; omega
              have d1 := lt_t12 hlt
              have d1n := ltn_t12 hlt
              obtain ⟨k, hk1, hk2, -⟩ := vN_split (p := p) (by omega) hpt
              have hmp : 0 < mOf p := by unfold mOf; split <;> omega
              have hml := m_lt p
              have heb := eb12 p
              have cS : Hid (∀ w, Calls Tryd.prog 19 #[.int .u64 (p : Int)] w fun x w' => x = .returned (.tuple #[.int .i64 (kOf p), .bool false, .int .u64 (mOf p : Int), .int .i64 (eOf p)]) ∧ w' = w) := fun w => refSplit_any false p (by omega) w
              have cE := Lib.hid fun w => exact_any (mOf p) (eOf p) w hmp (by omega) (by omega)
              have hM : mOf p * 2 ^ (eOf p + 1075).toNat = 2 * vN p := by
                rw [hk2, show (eOf p + 1075).toNat = k + 1 by omega, Nat.pow_succ]; grind
              rw [hM] at cE
              have HHT := Lib.hid hht; have HLO := Lib.hid hlo; have HHI := Lib.hid hhi; have HP1 := Lib.hid hp1; have HP2 := Lib.hid hp2; have HPP := Lib.hid hpp; have HBB := Lib.hid hB
              generalize mOf p = m at *
              generalize eOf p = e at *
              generalize kOf p = kd at *
              clear hp hp1 hp2 hpt hs1 hs2 hs3 hpp hk1 hk2 hmp hml heb hM hht hlo hhi hlh hlt hB
              go_wp2_with fail
              refine (cS.out _).mono ?_
              rintro r w1 ⟨rfl, hw⟩; subst w1
              go_wp2_with fail
              refine (cE.out _).mono ?_
              rintro r w1 ⟨⟨d, y, rfl, hF⟩, hB1⟩
              have cC := Lib.hid fun w => cmpDec_any d l y X w
              have hc := cmpD_fine (x := X) hF HT.out
              have HB2 : Hid (Below ws.heap.size ws w1) := HBB.out.trans (hB1.mono HBB.out.size)
              clear hF hB1 cE cS
              generalize cmpD d y l X = c at *
              have hcc : (decide (c ≤ 0) = true ∧ vN p * dB l X ≤ dA l X) ∨ (decide (c ≤ 0) = false ∧ dA l X < vN p * dB l X) := by
                have e : 2 * vN p * dB l X = 2 * (vN p * dB l X) := Nat.mul_assoc _ _ _
                rw [e] at hc
                rcases hc with ⟨h1, h2⟩ | ⟨h1, h2⟩ | ⟨h1, h2⟩
                · exact .inl ⟨by rw [h1]; rfl, by omega⟩
                · exact .inl ⟨by rw [h1]; rfl, by omega⟩
                · exact .inr ⟨by rw [h1]; rfl, by omega⟩
              clear hc
              go_wp2_with fail
              refine (cC.out _).mono ?_
              rintro r w2 ⟨rfl, hw⟩; subst w2
              clear cC
              rcases hcc with ⟨t3, h3⟩ | ⟨t3, h3⟩
              · have H3 := Lib.hid h3
                clear h3
                go_wp2_with fail
                go_roundw
                case rel => exact ⟨HB2.out, p, hi, rfl, rfl, HP2.out, HHT.out, H3.out, HHI.out⟩
                case measure => have h1 := HP1.out; have h2 := HP2.out; clear e1 e2 e3 e4 e5 e6 d1 d1n t3; simp only [intOf]; omega
              · have H3 := Lib.hid h3
                clear h3
                go_wp2_with fail
                go_roundw
                case rel => exact ⟨HB2.out, lo, p1, rfl, by rw [HZP.out], by have := HP1.out; have := HPP.out; omega, by have := HP2.out; have := HPP.out; have := HHT.out; omega, HLO.out, .inr (by rw [← HPP.out]; exact H3.out)⟩
                case measure => rw [HZP.out]; have h1 := HP1.out; have h2 := HP2.out; have h3 := HPP.out; clear e1 e2 e3 e4 e5 e6 d1 d1n t3; simp only [intOf]; omega
            · obtain rfl : lo = hi := by omega
              have d1 := lt_f12 (Nat.le_refl lo)
              have d1n := ltn_f12 (Nat.le_refl lo)
              have HN : Hid (lo ≤ 9218868437227405311 ∧ vN lo * dB l X ≤ dA l X ∧ (lo = 9218868437227405311 ∨ dA l X < vN (lo + 1) * dB l X)) := ⟨hht, hlo, hhi⟩
              have HBB := Lib.hid hB
              clear hlh hht hlo hhi hlt hB
              go_wp2_with fail
              go_meet
              exact ⟨HBB.out, lo, rfl, HN.out⟩
        case rest =>
        obtain ⟨hB, lo, rfl, hlt, hlo, hhi⟩ := hcut
        have HBB := Lib.hid hB
        have HUP : Hid ((vN lo + vN (lo + 1)) * dB l X < 2 * dA l X ∨ (lo % 2 = 1 ∧ (vN lo + vN (lo + 1)) * dB l X = 2 * dA l X) → NearIs (dA ds x) (dB ds x) (lo + 1)) := fun h => HQ.out _ (near_hi (dB_pos l X) hlt hhi h)
        have HST : Hid (2 * dA l X < (vN lo + vN (lo + 1)) * dB l X ∨ (lo % 2 = 0 ∧ 2 * dA l X = (vN lo + vN (lo + 1)) * dB l X) → NearIs (dA ds x) (dB ds x) lo) := fun h => HQ.out _ (near_lo (dB_pos l X) hlt hlo h)
        have HLT := Lib.hid hlt
        have cS : Hid (∀ w, Calls Tryd.prog 19 #[.int .u64 (lo : Int)] w fun x w' => x = .returned (.tuple #[.int .i64 (kOf lo), .bool false, .int .u64 (mOf lo : Int), .int .i64 (eOf lo)]) ∧ w' = w) := fun w => refSplit_any false lo (by omega) w
        have hkey : ∃ (M : Nat) (e : Int), (lo = 0 ∧ M = 1 ∧ e = -1075 ∨ ¬ lo = 0 ∧ M = 2 * mOf lo + 1 ∧ e = eOf lo - 1) ∧ 0 < M ∧ M < 18014398509481984 ∧ -1075 ≤ e ∧ e ≤ 971 ∧ M * 2 ^ (e + 1075).toNat = vN lo + vN (lo + 1) := by
          by_cases h0 : lo = 0
          · refine ⟨1, -1075, .inl ⟨h0, rfl, rfl⟩, by decide, by decide, by decide, by decide, ?_⟩
            rw [h0, vN_low (by decide), vN_low (by decide)]
            rfl
          · obtain ⟨k, hk1, -, hk3⟩ := vN_split (p := lo) h0 (by omega)
            have hml := m_lt lo
            have heb := eb12 lo
            refine ⟨2 * mOf lo + 1, eOf lo - 1, .inr ⟨h0, rfl, rfl⟩, by omega, by omega, by omega, by omega, ?_⟩
            rw [hk3, show (eOf lo - 1 + 1075).toNat = k by omega]
        obtain ⟨M, e1, hMe, hM0, hM1, he0, he1, hMv⟩ := hkey
        have cE := Lib.hid fun w => exact_any M e1 w hM0 hM1 ⟨he0, he1⟩
        rw [hMv] at cE
        have hlob : lo ≤ 9218868437227405311 := hlt
        obtain ⟨lo1, hl1⟩ : ∃ lo1, lo1 = lo + 1 := ⟨_, rfl⟩
        have y1 : IntKind.u64.wrap ((lo : Int) + 1) = (lo1 : Int) := by rw [IntKind.wrap_u64]; omega
        have HL1 := Lib.hid hl1
        have hpar : (lo % 2 = 0 ∧ (lo : Int).tmod 2 = 0 ∧ (lo : Int) % 2 = 0) ∨ (lo % 2 = 1 ∧ (lo : Int).tmod 2 = 1 ∧ (lo : Int) % 2 = 1) := by
          rw [Int.tmod_eq_emod_of_nonneg (by omega)]
          omega
        have hend : ∀ (p : Nat), (p = lo ∨ p = lo1) → (decide (9218868437227405311 < (p : Int)) = true ∧ rdP p = 0 ∧ rdB p = false) ∨ (decide (9218868437227405311 < (p : Int)) = false ∧ rdP p = p ∧ rdB p = true) := by
          intro p hp
          by_cases h9 : p = 9218868437227405312
          · exact .inl ⟨by rw [h9]; rfl, by unfold rdP; rw [if_pos h9], by unfold rdB; simp [h9]⟩
          · exact .inr ⟨by simp; omega, by unfold rdP; rw [if_neg h9], by unfold rdB; simp [h9]⟩
        have HEN := Lib.hid hend
        obtain ⟨m2, hm2⟩ : ∃ m2, m2 = 2 * mOf lo := ⟨_, rfl⟩
        have hMm : M = m2 + 1 := by
          rcases hMe with ⟨h1, h2, -⟩ | ⟨-, h2, -⟩
          · rw [hm2, h1, h2]; rfl
          · omega
        have z1 : IntKind.u64.wrap (2 * (mOf lo : Int)) = (m2 : Int) := by have := m_lt lo; rw [IntKind.wrap_u64]; omega
        have z2 : IntKind.u64.wrap ((m2 : Int) + 1) = (M : Int) := by rw [IntKind.wrap_u64]; omega
        have hee : (((lo : Int) == 0) = true ∧ e1 = -1075) ∨ (((lo : Int) == 0) = false ∧ wrap64 (eOf lo - 1) = e1) := by
          rcases hMe with ⟨h1, -, h3⟩ | ⟨h1, -, h3⟩
          · exact .inl ⟨by rw [h1]; rfl, h3⟩
          · refine .inr ⟨by simp only [beq_eq_false_iff_ne]; omega, ?_⟩
            have := eb12 lo
            rw [in64 (by omega)]; exact h3.symm
        generalize mOf lo = mm at *
        generalize eOf lo = ee at *
        generalize kOf lo = kk at *
        clear hB hlt hlo hhi hMe hM0 hM1 he0 he1 hMv hlob hl1 hend HQ hm2 hMm
        generalize hVM : vN lo + vN (lo + 1) = VM at *
        clear hVM
        have HPAR := Lib.hid hpar
        clear hpar
        have HY1 := Lib.hid y1
        clear y1
        rcases hee with ⟨f1, f2⟩ | ⟨f1, f2⟩
        all_goals
          try subst f2
          go_wp2_with fail
          refine (cS.out _).mono ?_
          rintro r w1 ⟨rfl, hw⟩; subst w1
          go_wp2_with fail
          refine (cE.out _).mono ?_
          rintro r w1 ⟨⟨d, y, rfl, hF⟩, hB1⟩
          have cC := Lib.hid fun w => cmpDec_any l d X y w
          have hc := cmpD_fine' (x := X) hF HT.out
          have HB2 : Hid (Below ws.heap.size ws w1) := HBB.out.trans (hB1.mono HBB.out.size)
          clear hF hB1 cE cS z1 z2
          generalize cmpD l X d y = c at *
          go_wp2_with fail
          refine (cC.out _).mono ?_
          rintro r w2 ⟨rfl, hw⟩; subst w2
          clear cC
          have hout : (c = -1 ∧ NearIs (dA ds x) (dB ds x) lo) ∨ (c = 0 ∧ (lo : Int).tmod 2 = 0 ∧ (lo : Int) % 2 = 0 ∧ NearIs (dA ds x) (dB ds x) lo) ∨ (c = 0 ∧ (lo : Int).tmod 2 = 1 ∧ (lo : Int) % 2 = 1 ∧ NearIs (dA ds x) (dB ds x) lo1) ∨ (c = 1 ∧ NearIs (dA ds x) (dB ds x) lo1) := by
            rw [HL1.out]
            rcases hc with ⟨h1, h2⟩ | ⟨h1, h2⟩ | ⟨h1, h2⟩
            · exact .inl ⟨h1, HST.out (.inl h2)⟩
            · rcases HPAR.out with ⟨p1, p2, p3⟩ | ⟨p1, p2, p3⟩
              · exact .inr (.inl ⟨h1, p2, p3, HST.out (.inr ⟨p1, h2.symm⟩)⟩)
              · exact .inr (.inr (.inl ⟨h1, p2, p3, HUP.out (.inr ⟨p1, h2⟩)⟩))
            · exact .inr (.inr (.inr ⟨h1, HUP.out (.inl h2)⟩))
          have y1 := HY1.out
          clear hc HPAR HST HUP HL1
          rcases hout with ⟨rfl, hp⟩ | ⟨rfl, q1, q2, hp⟩ | ⟨rfl, q1, q2, hp⟩ | ⟨rfl, hp⟩
          · have HP := Lib.hid hp
            clear hp
            rcases HEN.out lo (.inl rfl) with ⟨t5, r1, r2⟩ | ⟨t5, r1, r2⟩
            all_goals
              have HR1 := Lib.hid r1; have HR2 := Lib.hid r2
              clear r1 r2
              go_wp2_with fail
              go_ret2
              exact ⟨⟨lo, HP.out, by rw [HR1.out, HR2.out]; rfl⟩, by rw [← hws.out]; exact HB2.out⟩
          · have HP := Lib.hid hp
            clear hp
            rcases HEN.out lo (.inl rfl) with ⟨t5, r1, r2⟩ | ⟨t5, r1, r2⟩
            all_goals
              have HR1 := Lib.hid r1; have HR2 := Lib.hid r2
              clear r1 r2
              go_wp2_with fail
              go_ret2
              exact ⟨⟨lo, HP.out, by rw [HR1.out, HR2.out]; rfl⟩, by rw [← hws.out]; exact HB2.out⟩
          · have HP := Lib.hid hp
            clear hp
            rcases HEN.out lo1 (.inr rfl) with ⟨t5, r1, r2⟩ | ⟨t5, r1, r2⟩
            all_goals
              have HR1 := Lib.hid r1; have HR2 := Lib.hid r2
              clear r1 r2
              go_wp2_with fail
              go_ret2
              exact ⟨⟨lo1, HP.out, by rw [HR1.out, HR2.out]; rfl⟩, by rw [← hws.out]; exact HB2.out⟩
          · have HP := Lib.hid hp
            clear hp
            rcases HEN.out lo1 (.inr rfl) with ⟨t5, r1, r2⟩ | ⟨t5, r1, r2⟩
            all_goals
              have HR1 := Lib.hid r1; have HR2 := Lib.hid r2
              clear r1 r2
              go_wp2_with fail
              go_ret2
              exact ⟨⟨lo1, HP.out, by rw [HR1.out, HR2.out]; rfl⟩, by rw [← hws.out]; exact HB2.out⟩

end Go.Proofs.YtemkllnnemadeaaDoor
