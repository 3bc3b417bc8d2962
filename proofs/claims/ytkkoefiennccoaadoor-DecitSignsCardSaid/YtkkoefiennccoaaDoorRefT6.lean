/-
  What the document's Text does; no condition beyond what the contract asks.
-/
import Derived.Test.YtkkoefiennccoaaDoorRefE6
import Derived.Test.YtkkoefiennccoaaDoorRefD6

namespace Go.Proofs.YtkkoefiennccoaaDoor
open Go.RowKit
theorem cat_str (u v : List UInt8) : (⟨u.toArray⟩ : ByteArray) ++ (⟨v.toArray⟩ : ByteArray) = ⟨(u ++ v).toArray⟩ := by
  apply ByteArray.ext
  rw [ByteArray.data_append]
  simp
/-- string([]byte{c}). -/
theorem one_str (V : World) (g : Nat) (hg : V.heap.size = g) (c : UInt8) :
    (convert 64 9 (.slice (some ⟨g, 0, none⟩) 1 1)).run Tryd.prog (V.alloc (.cells #[.int .u8 (c.toNat : Int)] 5)) = .ok (.string ⟨[c].toArray⟩) (V.alloc (.cells #[.int .u8 (c.toNat : Int)] 5)) := by
  subst hg
  exact run_string (P := Tryd.prog) (M := (· = V.heap.size)) 64 9 5 Tryd.underlying64 Tryd.underlying5 Tryd.underlying9 (Held.of_row (bs := [c]) (heap_alloc_new V _) rfl rfl) 1
/-- What holds at the head of the loop: m is left of n, s stands. -/
structure TxtAt (w : World) (n m : Nat) (s : List UInt8) (wr : World) : Prop where
  box : wr.heap[w.heap.size]? = some (.cells #[.int .u64 ((m / 18446744073709551616 : Nat) : Int), .int .u64 ((m % 18446744073709551616 : Nat) : Int)] 29 (0, 0))
  hm : m < 340282366920938463463374607431768211456
  told : (s = [] ∧ m = n) ∨ (s ≠ [] ∧ dec n = ds m ++ s)
  low : Below w.heap.size w wr
def TxtIs (w : World) (n : Nat) (v : Value) (wr : World) : Prop := ∃ m s, v = .string ⟨(s : List UInt8).toArray⟩ ∧ TxtAt w n m s wr
def strLen (v : Value) : Nat := match v with | .string s => s.size | _ => 0
theorem strLen_of (s : List UInt8) : strLen (.string ⟨s.toArray⟩) = s.length := by simp [strLen, ByteArray.size]
theorem TxtAt.len {w : World} {n m : Nat} {s : List UInt8} {wr : World} (h : TxtAt w n m s wr) (hn : n < 340282366920938463463374607431768211456) : s.length ≤ 39 := by
  rcases h.told with ⟨h1, _⟩ | ⟨_, h2⟩
  · rw [h1]; simp
  · have := (parse_dec hn).2
    rw [h2] at this
    simp at this
    omega
/-- One digit more. -/
theorem TxtAt.next {w : World} {n m : Nat} {s : List UInt8} {wr w2 : World} {q1 q0 : Nat} (h : TxtAt w n m s wr) (hgo : s = [] ∨ m ≠ 0) (hb : w2.heap[w.heap.size]? = some (.cells #[.int .u64 (q1 : Int), .int .u64 (q0 : Int)] 29 (0, 0))) (hl : Below w.heap.size w w2) (h1 : q1 = m / 10 / 18446744073709551616) (h0 : q0 = m / 10 % 18446744073709551616) :
    TxtAt w n (m / 10) (UInt8.ofNat (48 + m % 10) :: s) w2 := by
  subst h1 h0
  refine ⟨hb, by have := h.hm; omega, .inr ⟨by simp, ?_⟩, hl⟩
  rcases h.told with ⟨h1, h2⟩ | ⟨h1, h2⟩
  · subst h1 h2
    exact dec_step m
  · have hm0 : m ≠ 0 := by
      rcases hgo with h3 | h3
      · exact absurd h3 h1
      · exact h3
    rw [h2, ds_pos hm0]
    simp
theorem ds_small {m : Nat} (h : m ≠ 0) (h9 : m ≤ 9) : ds m = [UInt8.ofNat (48 + m)] := by
  rw [ds_pos h, show m / 10 = 0 by omega, ds_zero, show m % 10 = m by omega]
  rfl
set_option maxHeartbeats 2000000 in
theorem refText_at (n a1 a0 : Nat) (w : World) (H1 : Hid (a1 = n / 18446744073709551616)) (H0 : Hid (a0 = n % 18446744073709551616)) (hn : Hid (n < 340282366920938463463374607431768211456)) :
    Calls Tryd.prog 58 #[.agg #[.int .u64 (a1 : Int), .int .u64 (a0 : Int)]] w fun e w' => e = .returned (.string ⟨(dec n).toArray⟩) ∧ Below w.heap.size w w' := by
  obtain ⟨T, hT⟩ : ∃ T : List UInt8, T = dec n := ⟨_, rfl⟩
  rw [← hT]
  have HT := Lib.hid hT
  clear hT
  go_enter Tryd.func58, Tryd.ntmps58
  go_wp2_with fail
  go_loopw [3] (fun v wr => TxtIs w n v wr) (fun v _ => 100 - strLen v)
  case atStart => exact ⟨n, [], rfl, by rw [H1.out, H0.out]; exact heap_alloc_new _ _, hn.out, .inl ⟨rfl, rfl⟩, (Below.refl _ _).alloc (Nat.le_refl _) _⟩
  case round =>
    obtain ⟨m, s, rfl, hX⟩ := hrel
    have HX := Lib.hid hX
    have hlen := hX.len hn.out
    have j0 := block_cell hX.box 0
    have j1 := block_cell hX.box 1
    have f0 := block_frozen hX.box 0
    have f1 := block_frozen hX.box 1
    simp only [List.getElem?_toArray, List.getElem?_cons_zero, List.getElem?_cons_succ] at j0 j1
    have CD := refDiv_any m hX.hm
    unfold wv at CD
    have hcase : (s = [] ∨ m ≠ 0) ∧ ((decide ((0 : Int) < ((m / 18446744073709551616 : Nat) : Int)) = true ∧ decide (0 < m / 18446744073709551616) = true) ∨ ((decide ((0 : Int) < ((m / 18446744073709551616 : Nat) : Int)) = false ∧ decide (0 < m / 18446744073709551616) = false) ∧ (decide ((9 : Int) < ((m % 18446744073709551616 : Nat) : Int)) = true ∨ (decide ((9 : Int) < ((m % 18446744073709551616 : Nat) : Int)) = false ∧ (s == []) = true)))) ∨
        (m ≤ 9 ∧ s ≠ [] ∧ (decide ((0 : Int) < ((m / 18446744073709551616 : Nat) : Int)) = false ∧ decide (0 < m / 18446744073709551616) = false) ∧ decide ((9 : Int) < ((m % 18446744073709551616 : Nat) : Int)) = false ∧ (s == []) = false) := by
      by_cases h1 : 0 < m / 18446744073709551616
      · exact .inl ⟨.inr (by omega), .inl ⟨decide_eq_true (by omega), decide_eq_true h1⟩⟩
      · by_cases h2 : 9 < m % 18446744073709551616
        · exact .inl ⟨.inr (by omega), .inr ⟨⟨decide_eq_false (by omega), decide_eq_false h1⟩, .inl (decide_eq_true (by omega))⟩⟩
        · by_cases h3 : s = []
          · exact .inl ⟨.inl h3, .inr ⟨⟨decide_eq_false (by omega), decide_eq_false h1⟩, .inr ⟨decide_eq_false (by omega), by simpa using h3⟩⟩⟩
          · exact .inr ⟨by omega, h3, ⟨decide_eq_false (by omega), decide_eq_false h1⟩, decide_eq_false (by omega), by simpa using h3⟩
    have hml := hX.hm
    obtain ⟨h, hh⟩ : ∃ h, h = m / 18446744073709551616 := ⟨_, rfl⟩
    obtain ⟨l, hl⟩ : ∃ l, l = m % 18446744073709551616 := ⟨_, rfl⟩
    rw [← hh] at j0
    rw [← hl] at j1
    rw [← hh, ← hl] at CD hcase
    obtain ⟨q1, hq1⟩ : ∃ q1, q1 = m / 10 / 18446744073709551616 := ⟨_, rfl⟩
    obtain ⟨q0, hq0⟩ : ∃ q0, q0 = m / 10 % 18446744073709551616 := ⟨_, rfl⟩
    obtain ⟨r, hr⟩ : ∃ r, r = m % 10 := ⟨_, rfl⟩
    rw [← hq1, ← hq0, ← hr] at CD
    have hr10 : r < 10 := by rw [hr]; exact Nat.mod_lt _ (by omega)
    have HM : Hid (m = l ∨ 0 < h) := by
      by_cases hz : 0 < h
      · exact .inr hz
      · exact .inl (by omega)
    have Q1 := Lib.hid hq1; have Q0 := Lib.hid hq0; have HR := Lib.hid hr; have CDH := Lib.hid CD
    have HHh := Lib.hid hh; have HLl := Lib.hid hl
    clear hX hq1 hq0 hr CD hh hl hml
    rcases hcase with ⟨hgo, hc⟩ | ⟨h9, hne, d0, d9, ds'⟩
    · obtain ⟨c, hc'⟩ : ∃ c : UInt8, c = UInt8.ofNat (48 + r) := ⟨_, rfl⟩
      have hcn : c.toNat = 48 + r := by rw [hc']; exact dig_toNat hr10
      have e1 : IntKind.u64.wrap (48 + (r : Int)) = (c.toNat : Int) := by rw [IntKind.wrap_u64]; omega
      have e2 : IntKind.u8.wrap (c.toNat : Int) = (c.toNat : Int) := by rw [IntKind.wrap_u8]; omega
      have HC := Lib.hid hc'
      have HG := Lib.hid hgo
      have hsum : ¬ 9223372036854775807 < [c].length + s.length := by simp; omega
      have hsum2 : ¬ 9223372036854775807 < 1 + s.length := by omega
      clear hc' hcn hgo hr10
      have HCC := Lib.hid hc
      clear hc
      rcases HCC.out with hc | ⟨hc, hd | ⟨hd, he⟩⟩
      all_goals (
        clear HCC
        try obtain ⟨hc1, hc2⟩ := hc
        go_wp2_with fail
        refine (CDH.out _).mono ?_
        rintro e w1 ⟨rfl, B1⟩
        have zb := block_lt HX.out.box
        have k0 := keep_p j0 B1; have k1 := keep_p j1 B1
        have QB := Lib.hid ((B1.block _ zb).trans HX.out.box)
        have f2 := block_frozen QB.out 0
        have f3 := block_frozen QB.out 1
        have zw : w.heap.size < w1.heap.size := Nat.lt_of_lt_of_le zb B1.size
        have BL : Hid (Below w.heap.size w w1) := low_p HX.out.low B1
        have hstr := one_str (w1.alloc (Obj.cells #[.int .u64 (q1 : Int), .int .u64 (q0 : Int)] 29)) (w1.heap.size + 1) (by simp) c
        clear B1 zb j0 j1 f0 f1
        go_wp2_with fail
        go_roundw
        case rel =>
          have hb := below_two BL.out (Nat.le_refl _) (.int .u64 (q1 : Int)) (.int .u64 (q0 : Int))
          have hx := HX.out.next HG.out (alloc_past (o := .cells #[.int .u8 (c.toNat : Int)] 5 (0, 0)) (alloc_past (o := .cells #[.int .u64 (q1 : Int), .int .u64 (q0 : Int)] 29 (0, 0)) (two_set QB.out))) ((hb.alloc hb.size _).alloc (by have := hb.size; simp at this ⊢; omega) _) Q1.out Q0.out
          rw [← HR.out, ← HC.out] at hx
          exact ⟨m / 10, c :: s, congrArg Value.string (cat_str [c] s), hx⟩
        case measure =>
          show 100 - strLen (.string ((⟨[c].toArray⟩ : ByteArray) ++ ⟨s.toArray⟩)) < 100 - strLen (.string ⟨s.toArray⟩)
          rw [cat_str, strLen_of, strLen_of]
          simp
          omega)
    · have hlm : l = m := by rw [HLl.out]; omega
      have HL := Lib.hid HX.out.low
      have HS : Hid (T = ds m ++ s) := show _ = _ by
        rcases HX.out.told with ⟨h1, _⟩ | ⟨_, h2⟩
        · exact absurd h1 hne
        · rw [HT.out, h2]
      obtain ⟨d0a, d0b⟩ := d0
      by_cases hz : m = 0
      · have dl : decide ((0 : Int) < (l : Int)) = false := by simp; omega
        have dln : decide (0 < l) = false := by simp; omega
        have HE : Hid (T = s) := show _ = _ by rw [HS.out, hz, ds_zero]; rfl
        clear hlm hz h9 hne HM HR HHh HLl CDH HX
        go_wp2_with fail
        go_ret
        exact ⟨by rw [HE.out]; rfl, HL.out⟩
      · have dl : decide ((0 : Int) < (l : Int)) = true := by simp; omega
        have dln : decide (0 < l) = true := by simp; omega
        obtain ⟨c, hc'⟩ : ∃ c : UInt8, c = UInt8.ofNat (48 + m) := ⟨_, rfl⟩
        have hcn : c.toNat = 48 + m := by rw [hc']; exact dig_toNat (by omega)
        have e1 : IntKind.u64.wrap (48 + (l : Int)) = (c.toNat : Int) := by rw [IntKind.wrap_u64]; omega
        have e2 : IntKind.u8.wrap (c.toNat : Int) = (c.toNat : Int) := by rw [IntKind.wrap_u8]; omega
        have hsum : ¬ 9223372036854775807 < [c].length + s.length := by simp; omega
        have hsum2 : ¬ 9223372036854775807 < 1 + s.length := by omega
        have HE : Hid (T = [c] ++ s) := show _ = _ by rw [HS.out, ds_small hz h9, hc']
        have hstr := one_str wr wr.heap.size rfl c
        clear hlm hz h9 hne HM HR HHh HLl CDH HX hc' hcn
        go_wp2_with fail
        go_ret
        exact ⟨by rw [HE.out, ← cat_str]; rfl, HL.out.alloc HL.out.size _⟩
theorem refText_any (n : Nat) (hn : n < 340282366920938463463374607431768211456) (w : World) :
    Calls Tryd.prog 58 #[wv n] w fun e w' => e = .returned (.string ⟨(dec n).toArray⟩) ∧ Below w.heap.size w w' := refText_at n _ _ w rfl rfl hn
end Go.Proofs.YtkkoefiennccoaaDoor
