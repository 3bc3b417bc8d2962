/-
  What the program's Name and Kind do (chapter 17), for every number and every text, in a world whose variable words holds the words; no condition beyond that.
-/
import Derived.Test.YtfpocpmcoobjkaaDoorRefN17
import Derived.Deep.MidRow
namespace Go.Proofs.YtfpocpmcoobjkaaDoor
set_option maxRecDepth 100000
open Go.RowKit

/-- The words as cells. -/
def wordCells : List Value := pairsL.flatMap fun x => [.int .i64 x.1, .string ⟨x.2.toArray⟩]
theorem wordCells_len : wordCells.length = 42 := rfl
/-- What the calls of this layer lean on. -/
structure Words (w : World) : Prop where
  words : ∀ i, i < 42 → w.cell? ⟨0, i, none⟩ = wordCells[i]?
  size : 0 < w.heap.size
theorem Words.on {B : Nat} {w w' : World} (h : Words w) (hb : Below B w w') (hB : 0 < B) : Words w' where
  words := fun i hi => (hb.cell (p := ⟨0, i, none⟩) hB).trans (h.words i hi)
  size := Nat.lt_of_lt_of_le h.size hb.size
theorem Words.up {w w' : World} (h : Words w) (hb : Below w.heap.size w w') : Words w' := h.on hb h.size
theorem words_load (w : World) (hL : Words w) : w.rangeAt 0 0 wordCells := by
  intro j v hj
  have hl : j < 42 := (List.getElem?_eq_some_iff.1 hj).1
  rw [Nat.zero_add, hL.words j hl, hj]
theorem word_at {i : Nat} (h : i < 21) : wordCells[i * 2]? = some (.int .i64 (pairsL.getD i (0, [])).1) ∧ wordCells[i * 2 + 1]? = some (.string ⟨(pairsL.getD i (0, [])).2.toArray⟩) := by
  have e : i = 0 ∨ i = 1 ∨ i = 2 ∨ i = 3 ∨ i = 4 ∨ i = 5 ∨ i = 6 ∨ i = 7 ∨ i = 8 ∨ i = 9 ∨ i = 10 ∨ i = 11 ∨ i = 12 ∨ i = 13 ∨ i = 14 ∨ i = 15 ∨ i = 16 ∨ i = 17 ∨ i = 18 ∨ i = 19 ∨ i = 20 := by omega
  rcases e with rfl | rfl | rfl | rfl | rfl | rfl | rfl | rfl | rfl | rfl | rfl | rfl | rfl | rfl | rfl | rfl | rfl | rfl | rfl | rfl | rfl <;> exact ⟨rfl, rfl⟩
theorem two_of {NC : List Value} {k : Nat} {a b : Value} (ha : NC[k]? = some a) (hb : NC[k + 1]? = some b) : List.take 2 (List.drop k NC) = [a, b] := by
  obtain ⟨h1, e1⟩ := List.getElem?_eq_some_iff.1 ha
  obtain ⟨h2, e2⟩ := List.getElem?_eq_some_iff.1 hb
  rw [List.drop_eq_getElem_cons h1, List.drop_eq_getElem_cons h2, e1, e2]
  rfl
/-- One word out of the whole array. -/
theorem at_word (NC : List Value) (k : Nat) (a b : Value) (hk : k < 21) (ha : NC[k * 2]? = some a) (hb : NC[k * 2 + 1]? = some b) (w : World) :
    (Instr.index 59 (.agg NC.toArray) (.int .i64 (k : Int))).run Tryd.prog w = .ok (.agg #[a, b]) w := by
  have hk' : (0 : Int) ≤ (k : Int) ∧ (k : Int) < 21 := by omega
  simp [Instr.index, run_underlying Tryd.underlying59, asIntOf, hk', go_sem, part, Tryd.isAgg58, Tryd.sizeOf58]
  rw [if_pos hk, two_of ha hb]
set_option maxHeartbeats 2000000 in
theorem name_any (k : Int) (w : World) (hL : Words w) :
    Calls Tryd.prog 24 #[.int .i64 k] w fun e w' => e = .returned (.string ⟨(nameL k).toArray⟩) ∧ Below w.heap.size w w' := by
  have hld := Lib.hid (words_load w hL)
  have hsz : Hid ((Tryd.prog.info? 59).map (·.size) = some wordCells.length) := by show _ = _; kernel_rfl
  have hat : Hid (∀ i, i < 21 → wordCells[i * 2]? = some (.int .i64 (pairsL.getD i (0, [])).1) ∧ wordCells[i * 2 + 1]? = some (.string ⟨(pairsL.getD i (0, [])).2.toArray⟩)) := fun i h => word_at h
  generalize wordCells = NC at hld hat hsz
  obtain ⟨R, hR⟩ : ∃ R, R = nameL k := ⟨_, rfl⟩
  rw [← hR]
  have HR : Hid (R = nameF (pairsL.drop 0) k) := hR
  clear hR hL
  go_enter Tryd.func24, Tryd.ntmps24
  go_wp2_with (first | (refine wpList_load_mid rfl 59 (.global 0) rfl 0 0 rfl NC _ hld.out Tryd.underlying59 rfl hsz.out ?_))
  go_loopw [6] (fun i wr => Below w.heap.size w wr ∧ ∃ j : Nat, j ≤ 21 ∧ i = .int .i64 (j : Int) ∧ R = nameF (pairsL.drop j) k) (fun i _ => 21 - natV i)
  case atStart => exact ⟨Below.refl _ _, 0, Nat.zero_le _, rfl, HR.out⟩
  case round =>
    obtain ⟨hB, j, hj, rfl, hr⟩ := hrel
    have HB := Lib.hid hB
    clear hB
    by_cases hlt : j < 21
    · have d1 : decide ((j : Int) < 21) = true := decide_eq_true (by omega)
      have hlp : j < pairsL.length := hlt
      rw [nameF_step hlp] at hr
      obtain ⟨c1, c2⟩ := hat.out j hlt
      have eg : pairsL.getD j (0, []) = pairsL[j] := by simp [List.getD, hlp]
      rw [eg] at c1 c2
      obtain ⟨a, ha⟩ : ∃ a, a = pairsL[j].1 := ⟨_, rfl⟩
      obtain ⟨n, hn⟩ : ∃ n, n = pairsL[j].2 := ⟨_, rfl⟩
      rw [← ha] at c1 hr
      rw [← hn] at c2 hr
      have hx := at_word NC j _ _ hlt c1 c2
      have HJ : Hid (j + 1 ≤ 21) := hlt
      have u2 : Hid (wrap64 ((j : Int) + 1) = ((j + 1 : Nat) : Int)) := show _ = _ from w64 (by omega) (by omega)
      have HB5 : Hid (Below w.heap.size w (wr.alloc (.cells #[.int .i64 a, .string ⟨n.toArray⟩] 58))) := HB.out.alloc HB.out.size _
      by_cases hak : a = k
      · have e1 : (a == k) = true := beq_iff_eq.2 hak
        rw [if_pos hak] at hr
        have HE := Lib.hid hr
        clear hr hlp eg ha hn hak hj c1 c2 hlt
        go_wp2_with fail
        go_ret
        exact ⟨by rw [HE.out]; rfl, HB5.out⟩
      · have e1 : (a == k) = false := beq_eq_false_iff_ne.2 hak
        rw [if_neg hak] at hr
        have HE := Lib.hid hr
        clear hr hlp eg ha hn hak hj c1 c2 hlt
        go_wp2_with fail
        go_roundw
        case rel => exact ⟨HB5.out, j + 1, HJ.out, by first | rfl | rw [u2.out], HE.out⟩
        case measure => (try rw [u2.out]); have := HJ.out; simp [natV]; omega
    · obtain rfl : j = 21 := by omega
      have d1 : decide (((21 : Nat) : Int) < 21) = false := by decide
      have HE : Hid (R = []) := hr
      clear hr hlt hj
      go_wp2_with fail
      go_ret
      exact ⟨by rw [HE.out]; rfl, HB.out⟩
/-- What Kind answers. -/
def kindR (r : Option Int) : Value := match r with | some k => .tuple #[.int .i64 k, .bool true] | none => .tuple #[.int .i64 0, .bool false]
set_option maxHeartbeats 2000000 in
theorem kind_any (s : List UInt8) (w : World) (hL : Words w) :
    Calls Tryd.prog 22 #[.string ⟨s.toArray⟩] w fun e w' => e = .returned (kindR (kindL s)) ∧ Below w.heap.size w w' := by
  have hld := Lib.hid (words_load w hL)
  have hsz : Hid ((Tryd.prog.info? 59).map (·.size) = some wordCells.length) := by show _ = _; kernel_rfl
  have hat : Hid (∀ i, i < 21 → wordCells[i * 2]? = some (.int .i64 (pairsL.getD i (0, [])).1) ∧ wordCells[i * 2 + 1]? = some (.string ⟨(pairsL.getD i (0, [])).2.toArray⟩)) := fun i h => word_at h
  generalize wordCells = NC at hld hat hsz
  obtain ⟨R, hR⟩ : ∃ R, R = kindL s := ⟨_, rfl⟩
  rw [← hR]
  have HR : Hid (R = kindF (pairsL.drop 0) s) := hR
  clear hR hL
  go_enter Tryd.func22, Tryd.ntmps22
  go_wp2_with (first | (refine wpList_load_mid rfl 59 (.global 0) rfl 0 0 rfl NC _ hld.out Tryd.underlying59 rfl hsz.out ?_))
  go_loopw [7] (fun i wr => Below w.heap.size w wr ∧ ∃ j : Nat, j ≤ 21 ∧ i = .int .i64 (j : Int) ∧ R = kindF (pairsL.drop j) s) (fun i _ => 21 - natV i)
  case atStart => exact ⟨Below.refl _ _, 0, Nat.zero_le _, rfl, HR.out⟩
  case round =>
    obtain ⟨hB, j, hj, rfl, hr⟩ := hrel
    have HB := Lib.hid hB
    clear hB
    by_cases hlt : j < 21
    · have d1 : decide ((j : Int) < 21) = true := decide_eq_true (by omega)
      have hlp : j < pairsL.length := hlt
      rw [kindF_step hlp] at hr
      obtain ⟨c1, c2⟩ := hat.out j hlt
      have eg : pairsL.getD j (0, []) = pairsL[j] := by simp [List.getD, hlp]
      rw [eg] at c1 c2
      obtain ⟨a, ha⟩ : ∃ a, a = pairsL[j].1 := ⟨_, rfl⟩
      obtain ⟨n, hn⟩ : ∃ n, n = pairsL[j].2 := ⟨_, rfl⟩
      rw [← ha] at c1 hr
      rw [← hn] at c2 hr
      have hx := at_word NC j _ _ hlt c1 c2
      have HJ : Hid (j + 1 ≤ 21) := hlt
      have u2 : Hid (wrap64 ((j : Int) + 1) = ((j + 1 : Nat) : Int)) := show _ = _ from w64 (by omega) (by omega)
      have HB5 : Hid (Below w.heap.size w (wr.alloc (.cells #[.int .i64 a, .string ⟨n.toArray⟩] 58))) := HB.out.alloc HB.out.size _
      by_cases hak : n = s
      · have e1 : (n == s) = true := beq_iff_eq.2 hak
        rw [if_pos hak] at hr
        have HE := Lib.hid hr
        clear hr hlp eg ha hn hak hj c1 c2 hlt
        go_wp2_with fail
        go_ret2
        exact ⟨by rw [HE.out]; rfl, HB5.out⟩
      · have e1 : (n == s) = false := beq_eq_false_iff_ne.2 hak
        rw [if_neg hak] at hr
        have HE := Lib.hid hr
        clear hr hlp eg ha hn hak hj c1 c2 hlt
        go_wp2_with fail
        go_roundw
        case rel => exact ⟨HB5.out, j + 1, HJ.out, by first | rfl | rw [u2.out], HE.out⟩
        case measure => (try rw [u2.out]); have := HJ.out; simp [natV]; omega
    · obtain rfl : j = 21 := by omega
      have d1 : decide (((21 : Nat) : Int) < 21) = false := by decide
      have HE : Hid (R = none) := hr
      clear hr hlt hj
      go_wp2_with fail
      go_ret2
      exact ⟨by rw [HE.out]; rfl, HB.out⟩
end Go.Proofs.YtfpocpmcoobjkaaDoor
