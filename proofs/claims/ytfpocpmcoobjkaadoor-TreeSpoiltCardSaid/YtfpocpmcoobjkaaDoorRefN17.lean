/-
  What the document's kinds, Name and Kind do (chapter 17), for every number and every text; no condition.
-/
import Derived.Test.YtfpocpmcoobjkaaDoorRefA17
namespace Go.Proofs.YtfpocpmcoobjkaaDoor
set_option maxRecDepth 100000
open Go.RowKit

/-- Each Kind and its word. -/
def pairsL : List (Int × List UInt8) := [(1, [100, 111, 117, 98, 108, 101]), (2, [115, 116, 114, 105, 110, 103]), (3, [100, 111, 99, 117, 109, 101, 110, 116]), (4, [97, 114, 114, 97, 121]), (5, [98, 105, 110, 97, 114, 121]), (6, [117, 110, 100, 101, 102, 105, 110, 101, 100]), (7, [111, 98, 106, 101, 99, 116, 105, 100]), (8, [98, 111, 111, 108]), (9, [100, 97, 116, 101]), (10, [110, 117, 108, 108]), (11, [114, 101, 103, 101, 120]), (12, [112, 111, 105, 110, 116, 101, 114]), (13, [99, 111, 100, 101]), (14, [115, 121, 109, 98, 111, 108]), (15, [115, 99, 111, 112, 101, 100]), (16, [105, 110, 116, 51, 50]), (17, [116, 105, 109, 101, 115, 116, 97, 109, 112]), (18, [105, 110, 116, 54, 52]), (19, [100, 101, 99, 105, 109, 97, 108]), (127, [109, 97, 120, 107, 101, 121]), (255, [109, 105, 110, 107, 101, 121])]
def nameF : List (Int × List UInt8) → Int → List UInt8
  | [], _ => []
  | (a, n) :: l, k => if a = k then n else nameF l k
/-- A Kind's word. -/
def nameL (k : Int) : List UInt8 := nameF pairsL k
def kindF : List (Int × List UInt8) → List UInt8 → Option Int
  | [], _ => none
  | (a, n) :: l, s => if n = s then some a else kindF l s
/-- A word's Kind. -/
def kindL (s : List UInt8) : Option Int := kindF pairsL s
theorem nameF_step {l : List (Int × List UInt8)} {i : Nat} (h : i < l.length) (k : Int) : nameF (l.drop i) k = if (l[i]).1 = k then (l[i]).2 else nameF (l.drop (i + 1)) k := by
  rw [List.drop_eq_getElem_cons h]
  obtain ⟨a, n⟩ := l[i]
  rw [nameF]
theorem kindF_step {l : List (Int × List UInt8)} {i : Nat} (h : i < l.length) (s : List UInt8) : kindF (l.drop i) s = if (l[i]).2 = s then some (l[i]).1 else kindF (l.drop (i + 1)) s := by
  rw [List.drop_eq_getElem_cons h]
  obtain ⟨a, n⟩ := l[i]
  rw [kindF]
/-- The words are those of their Kinds. -/
theorem pairs_name : ∀ x ∈ pairsL, nameL x.1 = x.2 := by decide
def kCells : Obj := .cells #[.int .i64 1, .int .i64 2, .int .i64 3, .int .i64 4, .int .i64 5, .int .i64 6, .int .i64 7, .int .i64 8, .int .i64 9, .int .i64 10, .int .i64 11, .int .i64 12, .int .i64 13, .int .i64 14, .int .i64 15, .int .i64 16, .int .i64 17, .int .i64 18, .int .i64 19, .int .i64 127, .int .i64 255] 3
def nCells : Obj := .cells #[.string ⟨#[100, 111, 117, 98, 108, 101]⟩, .string ⟨#[115, 116, 114, 105, 110, 103]⟩, .string ⟨#[100, 111, 99, 117, 109, 101, 110, 116]⟩, .string ⟨#[97, 114, 114, 97, 121]⟩, .string ⟨#[98, 105, 110, 97, 114, 121]⟩, .string ⟨#[117, 110, 100, 101, 102, 105, 110, 101, 100]⟩, .string ⟨#[111, 98, 106, 101, 99, 116, 105, 100]⟩, .string ⟨#[98, 111, 111, 108]⟩, .string ⟨#[100, 97, 116, 101]⟩, .string ⟨#[110, 117, 108, 108]⟩, .string ⟨#[114, 101, 103, 101, 120]⟩, .string ⟨#[112, 111, 105, 110, 116, 101, 114]⟩, .string ⟨#[99, 111, 100, 101]⟩, .string ⟨#[115, 121, 109, 98, 111, 108]⟩, .string ⟨#[115, 99, 111, 112, 101, 100]⟩, .string ⟨#[105, 110, 116, 51, 50]⟩, .string ⟨#[116, 105, 109, 101, 115, 116, 97, 109, 112]⟩, .string ⟨#[105, 110, 116, 54, 52]⟩, .string ⟨#[100, 101, 99, 105, 109, 97, 108]⟩, .string ⟨#[109, 97, 120, 107, 101, 121]⟩, .string ⟨#[109, 105, 110, 107, 101, 121]⟩] 9
theorem k_at (i : Nat) (h : i < 21) : #[.int .i64 1, .int .i64 2, .int .i64 3, .int .i64 4, .int .i64 5, .int .i64 6, .int .i64 7, .int .i64 8, .int .i64 9, .int .i64 10, .int .i64 11, .int .i64 12, .int .i64 13, .int .i64 14, .int .i64 15, .int .i64 16, .int .i64 17, .int .i64 18, .int .i64 19, .int .i64 127, .int .i64 255][i]? = some (Value.int .i64 (pairsL.getD i (0, [])).1) := by
  have e : i = 0 ∨ i = 1 ∨ i = 2 ∨ i = 3 ∨ i = 4 ∨ i = 5 ∨ i = 6 ∨ i = 7 ∨ i = 8 ∨ i = 9 ∨ i = 10 ∨ i = 11 ∨ i = 12 ∨ i = 13 ∨ i = 14 ∨ i = 15 ∨ i = 16 ∨ i = 17 ∨ i = 18 ∨ i = 19 ∨ i = 20 := by omega
  rcases e with rfl | rfl | rfl | rfl | rfl | rfl | rfl | rfl | rfl | rfl | rfl | rfl | rfl | rfl | rfl | rfl | rfl | rfl | rfl | rfl | rfl <;> rfl
theorem n_at (i : Nat) (h : i < 21) : #[.string ⟨#[100, 111, 117, 98, 108, 101]⟩, .string ⟨#[115, 116, 114, 105, 110, 103]⟩, .string ⟨#[100, 111, 99, 117, 109, 101, 110, 116]⟩, .string ⟨#[97, 114, 114, 97, 121]⟩, .string ⟨#[98, 105, 110, 97, 114, 121]⟩, .string ⟨#[117, 110, 100, 101, 102, 105, 110, 101, 100]⟩, .string ⟨#[111, 98, 106, 101, 99, 116, 105, 100]⟩, .string ⟨#[98, 111, 111, 108]⟩, .string ⟨#[100, 97, 116, 101]⟩, .string ⟨#[110, 117, 108, 108]⟩, .string ⟨#[114, 101, 103, 101, 120]⟩, .string ⟨#[112, 111, 105, 110, 116, 101, 114]⟩, .string ⟨#[99, 111, 100, 101]⟩, .string ⟨#[115, 121, 109, 98, 111, 108]⟩, .string ⟨#[115, 99, 111, 112, 101, 100]⟩, .string ⟨#[105, 110, 116, 51, 50]⟩, .string ⟨#[116, 105, 109, 101, 115, 116, 97, 109, 112]⟩, .string ⟨#[105, 110, 116, 54, 52]⟩, .string ⟨#[100, 101, 99, 105, 109, 97, 108]⟩, .string ⟨#[109, 97, 120, 107, 101, 121]⟩, .string ⟨#[109, 105, 110, 107, 101, 121]⟩][i]? = some (Value.string ⟨(pairsL.getD i (0, [])).2.toArray⟩) := by
  have e : i = 0 ∨ i = 1 ∨ i = 2 ∨ i = 3 ∨ i = 4 ∨ i = 5 ∨ i = 6 ∨ i = 7 ∨ i = 8 ∨ i = 9 ∨ i = 10 ∨ i = 11 ∨ i = 12 ∨ i = 13 ∨ i = 14 ∨ i = 15 ∨ i = 16 ∨ i = 17 ∨ i = 18 ∨ i = 19 ∨ i = 20 := by omega
  rcases e with rfl | rfl | rfl | rfl | rfl | rfl | rfl | rfl | rfl | rfl | rfl | rfl | rfl | rfl | rfl | rfl | rfl | rfl | rfl | rfl | rfl <;> rfl
set_option maxHeartbeats 1000000 in
theorem kinds_any (w : World) : Calls Tryd.prog 39 #[] w fun e w' => e = .returned (.slice (some ⟨w.heap.size, 0, none⟩) 21 21) ∧ w' = w.alloc kCells := by
  unfold kCells
  go_enter Tryd.func39, Tryd.ntmps39
  go_wp2_with fail
  go_ret
  exact ⟨rfl, rfl⟩
set_option maxHeartbeats 2000000 in
theorem refName_any (k : Int) (w : World) :
    Calls Tryd.prog 25 #[.int .i64 k] w fun e w' => e = .returned (.string ⟨(nameL k).toArray⟩) ∧ Below w.heap.size w w' := by
  obtain ⟨R, hR⟩ : ∃ R, R = nameL k := ⟨_, rfl⟩
  rw [← hR]
  have HR : Hid (R = nameF (pairsL.drop 0) k) := hR
  have cK := Lib.hid (kinds_any (w.alloc nCells))
  have B1 : Hid (Below w.heap.size w ((w.alloc nCells).alloc kCells)) := show Below _ _ _ from ((Below.refl _ _).alloc (Nat.le_refl _) _).alloc (by simp) _
  have G1 : Hid (((w.alloc nCells).alloc kCells).heap[w.heap.size]? = some nCells) := show _ = _ from (Below.heap_alloc _ _ _ (by simp)).trans (heap_alloc_new w _)
  have G2 : Hid (((w.alloc nCells).alloc kCells).heap[w.heap.size + 1]? = some kCells) := show _ = _ by
    have := heap_alloc_new (w.alloc nCells) kCells
    simpa using this
  clear hR
  go_enter Tryd.func25, Tryd.ntmps25
  go_wp2_with fail
  refine (cK.out).mono ?_
  rintro e w1 ⟨rfl, hw1⟩
  subst hw1
  clear cK
  have hs : (w.alloc nCells).heap.size = w.heap.size + 1 := by simp
  rw [hs]
  generalize (w.alloc nCells).alloc kCells = W at *
  clear hs
  go_wp2_with fail
  go_loopw [5] (fun i wr => wr = W ∧ ∃ j : Nat, j ≤ 21 ∧ i = .int .i64 (j : Int) ∧ R = nameF (pairsL.drop j) k) (fun i _ => 21 - natV i)
  case atStart => exact ⟨rfl, 0, Nat.zero_le _, rfl, HR.out⟩
  case round =>
    obtain ⟨rfl, j, hj, rfl, hr⟩ := hrel
    by_cases hlt : j < 21
    · have d1 : decide ((j : Int) < 21) = true := decide_eq_true (by omega)
      have d1n : decide (j < 21) = true := decide_eq_true hlt
      have hlp : j < pairsL.length := hlt
      rw [nameF_step hlp] at hr
      have c1 : wr.cell? ⟨w.heap.size + 1, j, none⟩ = some (.int .i64 (pairsL.getD j (0, [])).1) := by
        have := G2.out
        unfold kCells at this
        rw [block_cell this]
        exact k_at j hlt
      have c2 : wr.cell? ⟨w.heap.size, j, none⟩ = some (.string ⟨(pairsL.getD j (0, [])).2.toArray⟩) := by
        have := G1.out
        unfold nCells at this
        rw [block_cell this]
        exact n_at j hlt
      have eg : pairsL.getD j (0, []) = pairsL[j] := by simp [List.getD, hlp]
      rw [eg] at c1 c2
      obtain ⟨a, ha⟩ : ∃ a, a = pairsL[j].1 := ⟨_, rfl⟩
      obtain ⟨n, hn⟩ : ∃ n, n = pairsL[j].2 := ⟨_, rfl⟩
      rw [← ha] at c1 hr
      rw [← hn] at c2 hr
      have hji : (j : Int) < 21 := by omega
      have HJ : Hid (j + 1 ≤ 21) := hlt
      have u2 : Hid (wrap64 ((j : Int) + 1) = ((j + 1 : Nat) : Int)) := show _ = _ from w64 (by omega) (by omega)
      by_cases hak : a = k
      · have e1 : (a == k) = true := beq_iff_eq.2 hak
        rw [if_pos hak] at hr
        have HE := Lib.hid hr
        clear hr hlp eg ha hn hak hj
        go_wp2_with fail
        go_ret
        exact ⟨by rw [HE.out]; rfl, B1.out⟩
      · have e1 : (a == k) = false := beq_eq_false_iff_ne.2 hak
        rw [if_neg hak] at hr
        have HE := Lib.hid hr
        clear hr hlp eg ha hn hak hj
        go_wp2_with fail
        go_roundw
        case rel => exact ⟨trivial, j + 1, HJ.out, by first | rfl | rw [u2.out], HE.out⟩
        case measure => (try rw [u2.out]); have := HJ.out; simp [natV]; omega
    · obtain rfl : j = 21 := by omega
      have d1 : decide (((21 : Nat) : Int) < 21) = false := by decide
      have HE : Hid (R = []) := hr
      clear hr hlt hj
      go_wp2_with fail
      go_ret
      exact ⟨by rw [HE.out]; rfl, B1.out⟩
set_option maxHeartbeats 2000000 in
theorem refKind_any (s : List UInt8) (w : World) :
    Calls Tryd.prog 23 #[.string ⟨s.toArray⟩] w fun e w' => e = .returned (.tuple #[.int .i64 ((kindL s).getD 0), .bool (kindL s).isSome]) ∧ Below w.heap.size w w' := by
  obtain ⟨R, hR⟩ : ∃ R, R = kindL s := ⟨_, rfl⟩
  rw [← hR]
  have HR : Hid (R = kindF (pairsL.drop 0) s) := hR
  have cK := Lib.hid (kinds_any w)
  have B1 : Hid (Below w.heap.size w (w.alloc kCells)) := show Below _ _ _ from (Below.refl _ _).alloc (Nat.le_refl _) _
  have G2 : Hid ((w.alloc kCells).heap[w.heap.size]? = some kCells) := heap_alloc_new w _
  clear hR
  go_enter Tryd.func23, Tryd.ntmps23
  go_wp2_with fail
  refine (cK.out).mono ?_
  rintro e w1 ⟨rfl, hw1⟩
  subst hw1
  clear cK
  generalize w.alloc kCells = W at *
  go_wp2_with fail
  go_loopw [5] (fun i wr => (Below w.heap.size w wr ∧ wr.heap[w.heap.size]? = some kCells) ∧ ∃ j : Nat, j ≤ 21 ∧ i = .int .i64 (j : Int) ∧ R = kindF (pairsL.drop j) s) (fun i _ => 21 - natV i)
  case atStart => exact ⟨⟨B1.out, G2.out⟩, 0, Nat.zero_le _, rfl, HR.out⟩
  case round =>
    obtain ⟨⟨hB, hb⟩, j, hj, rfl, hr⟩ := hrel
    have HB := Lib.hid hB
    have Hbb := Lib.hid hb
    by_cases hlt : j < 21
    · have d1 : decide ((j : Int) < 21) = true := decide_eq_true (by omega)
      have d1n : decide (j < 21) = true := decide_eq_true hlt
      have hlp : j < pairsL.length := hlt
      rw [kindF_step hlp] at hr
      have eg : pairsL.getD j (0, []) = pairsL[j] := by simp [List.getD, hlp]
      have c1 : wr.cell? ⟨w.heap.size, j, none⟩ = some (.int .i64 (pairsL.getD j (0, [])).1) := by
        have := hb
        unfold kCells at this
        rw [block_cell this]
        exact k_at j hlt
      have hnm := pairs_name _ (List.getElem_mem hlp)
      rw [eg] at c1
      obtain ⟨a, ha⟩ : ∃ a, a = pairsL[j].1 := ⟨_, rfl⟩
      obtain ⟨n, hn⟩ : ∃ n, n = pairsL[j].2 := ⟨_, rfl⟩
      rw [← ha] at c1 hr hnm
      rw [← hn] at hr hnm
      have cN := Lib.hid (refName_any a wr)
      rw [hnm] at cN
      have hji : (j : Int) < 21 := by omega
      have HJ : Hid (j + 1 ≤ 21) := hlt
      have u2 : Hid (wrap64 ((j : Int) + 1) = ((j + 1 : Nat) : Int)) := show _ = _ from w64 (by omega) (by omega)
      by_cases hns : n = s
      · have e1 : (n == s) = true := beq_iff_eq.2 hns
        rw [if_pos hns] at hr
        have HE := Lib.hid hr
        clear hr hlp eg ha hn hns hj hnm hB hb
        go_wp2_with fail
        refine (cN.out).mono ?_
        rintro e w5 ⟨rfl, B5⟩
        have HB5 := Lib.hid (low17 HB.out B5)
        have c5 := (B5.cell (World.block_lt_of_cell? wr _ c1)).trans c1
        clear B5 cN c1
        go_wp2_with fail
        go_ret2
        exact ⟨by rw [HE.out]; rfl, HB5.out⟩
      · have e1 : (n == s) = false := beq_eq_false_iff_ne.2 hns
        rw [if_neg hns] at hr
        have HE := Lib.hid hr
        clear hr hlp eg ha hn hns hj hnm hB hb
        go_wp2_with fail
        refine (cN.out).mono ?_
        rintro e w5 ⟨rfl, B5⟩
        have HB5 := Lib.hid (low17 HB.out B5)
        have Hb5 : Hid (w5.heap[w.heap.size]? = some kCells) := show _ = _ from (B5.block _ (block_lt Hbb.out)).trans Hbb.out
        clear B5 cN c1
        go_wp2_with fail
        go_roundw
        case rel => exact ⟨⟨HB5.out, Hb5.out⟩, j + 1, HJ.out, by first | rfl | rw [u2.out], HE.out⟩
        case measure => (try rw [u2.out]); have := HJ.out; simp [natV]; omega
    · obtain rfl : j = 21 := by omega
      have d1 : decide (((21 : Nat) : Int) < 21) = false := by decide
      have HE : Hid (R = none) := hr
      clear hr hlt hj hB hb
      go_wp2_with fail
      go_ret2
      exact ⟨by rw [HE.out]; rfl, HB.out⟩
end Go.Proofs.YtfpocpmcoobjkaaDoor
