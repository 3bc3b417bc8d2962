/-
  What fault's Name, Code and Within do; no condition beyond what each contract asks.
-/
import Derived.Test.YtbfneeggfaoeaaaDoorLaid5
import Derived.Deep.MidRow
namespace Go.Proofs.YtbfneeggfaoeaaaDoor
open Go.RowKit

set_option maxHeartbeats 1000000 in
theorem name_any (e : Int) (w : World) (hL : Laid w) :
    Calls Tryd.prog 11 #[.int .i64 e] w fun x w' => x = .returned (.string ⟨(nameOf e).toArray⟩) ∧ w' = w := by
  by_cases h0 : e < 0
  · have d0 : decide (e < 0) = true := by simpa using h0
    have HN : Hid (nameOf e = []) := nameOf_none (.inl h0)
    go_enter Tryd.func11, Tryd.ntmps11
    go_wp2_with fail
    go_ret
    exact ⟨by rw [HN.out]; rfl, rfl⟩
  · have d0 : decide (e < 0) = false := by simpa using h0
    by_cases h1 : 13 ≤ e
    · have d1 : decide (13 ≤ e) = true := by simpa using h1
      have HN : Hid (nameOf e = []) := nameOf_none (.inr h1)
      go_enter Tryd.func11, Tryd.ntmps11
      go_wp2_with fail
      go_ret
      exact ⟨by rw [HN.out]; rfl, rfl⟩
    · have d1 : decide (13 ≤ e) = false := by simpa using h1
      have HN : Hid (nameOf e = nameAt e.toNat) := nameOf_some (by omega) (by omega)
      obtain ⟨k, rfl⟩ : ∃ k : Nat, e = (k : Int) := ⟨e.toNat, by omega⟩
      have hk : k < 13 := by omega
      have hc := hL.names k hk
      rw [Int.toNat_natCast] at HN
      generalize nameAt k = l at hc HN
      clear hL
      go_enter Tryd.func11, Tryd.ntmps11
      go_wp2_with fail
      go_ret
      exact ⟨by rw [HN.out]; rfl, rfl⟩

/-- What Code answers. -/
def codeR (r : Option Nat) : Value := match r with | some k => .tuple #[.int .i64 (k : Int), .bool true] | none => .tuple #[.int .i64 0, .bool false]
theorem names_load (w : World) (hL : Laid w) : w.rangeAt 0 0 nameCells.toList := by
  intro j v hj
  have hl : j < 13 := (List.getElem?_eq_some_iff.1 hj).1
  rw [Nat.zero_add, hL.names j hl, ← nameCells_at hl]
  simpa using hj
theorem codeR_some {s : List UInt8} {k : Nat} (h : codeOf s = some k) : codeR (codeOf s) = .tuple #[.int .i64 (k : Int), .bool true] := by rw [h]; rfl
theorem codeR_none {s : List UInt8} (h : codeOf s = none) : codeR (codeOf s) = .tuple #[.int .i64 0, .bool false] := by rw [h]; rfl

/-- One name out of the whole array. -/
theorem at_name (NC : List Value) (k : Nat) (v : Value) (hk : k < 13) (hv : NC[k]? = some v) (w : World) :
    (Instr.index 39 (.agg NC.toArray) (.int .i64 (k : Int))).run Tryd.prog w = .ok v w := by
  have hk' : (0 : Int) ≤ (k : Int) ∧ (k : Int) < 13 := by omega
  simp [Instr.index, run_underlying Tryd.underlying39, asIntOf, hk', go_sem, part, Tryd.isAgg9, Tryd.sizeOf9, hv]
  intro h
  omega

set_option maxHeartbeats 1000000 in
theorem code_any (s : List UInt8) (w : World) (hL : Laid w) :
    Calls Tryd.prog 9 #[.string ⟨s.toArray⟩] w fun x w' => x = .returned (codeR (codeOf s)) ∧ w' = w := by
  have hld := Lib.hid (names_load w hL)
  have hsz : Hid ((Tryd.prog.info? 39).map (·.size) = some nameCells.toList.length) := by show _ = _; kernel_rfl
  have hat : Hid (∀ k, k < 13 → nameCells.toList[k]? = some (.string ⟨(nameAt k).toArray⟩)) := fun k h => by rw [Array.getElem?_toList]; exact nameCells_at h
  have hnn : Hid (nameCells.toList.length = 13) := rfl
  generalize nameCells.toList = NC at hld hat hsz hnn
  obtain ⟨r, hr⟩ : ∃ r, r = codeOf s := ⟨_, rfl⟩
  rw [← hr]
  have HR := Lib.hid hr
  clear hr hL
  go_enter Tryd.func9, Tryd.ntmps9
  go_wp2_with (first | (refine wpList_load_mid rfl 39 (.global 0) rfl 0 0 rfl NC _ hld.out Tryd.underlying39 rfl hsz.out ?_))
  go_loopw [7] (fun i wr => wr = w ∧ ∃ k : Nat, k ≤ 13 ∧ i = .int .i64 (k : Int) ∧ r = codeAt s k) (fun i _ => 13 - (intOf i).toNat)
  case atStart => exact ⟨rfl, 0, by omega, rfl, HR.out⟩
  case round =>
    obtain ⟨rfl, k, hk, rfl, hc⟩ := hrel
    have HC := Lib.hid hc
    clear hc
    by_cases h13 : k < 13
    · have d1 : decide ((k : Int) < 13) = true := by simp; omega
      have hix := hat.out k h13
      have HS := Lib.hid (codeAt_step (s := s) h13)
      by_cases hn : nameAt k = s
      · have HF : Hid (r = some k) := show _ = _ by rw [HC.out, HS.out, if_pos hn]
        have de : (nameAt k == s) = true := by simpa using hn
        clear hn HS HC
        generalize nameAt k = l at hix de
        have hx := at_name NC k _ h13 hix wr
        clear hix h13
        go_wp2_with fail
        go_ret2
        exact ⟨by rw [HF.out]; rfl, rfl⟩
      · have HF : Hid (r = codeAt s (k + 1)) := show _ = _ by rw [HC.out, HS.out, if_neg hn]
        have de : (nameAt k == s) = false := by simpa using hn
        clear hn HS HC
        generalize nameAt k = l at hix de
        have hx := at_name NC k _ h13 hix wr
        clear hix
        go_wp2_with fail
        go_roundw
        case rel => exact ⟨trivial, k + 1, by omega, by simp, HF.out⟩
        case measure => simp [intOf]; omega
    · obtain rfl : k = 13 := by omega
      have HF : Hid (r = none) := show _ = _ by rw [HC.out, codeAt_end (by omega)]
      go_wp2_with fail
      go_ret2
      exact ⟨by rw [HF.out]; rfl, rfl⟩

/-- A reason by value. -/
def faultV (e a : Int) (A : Option Addr) (n c : Nat) : Value := .agg #[.int .i64 e, .int .i64 a, .slice A n c]

set_option maxHeartbeats 1000000 in
theorem within_any (e a : Int) (A : Option Addr) (n c : Nat) (m : Int) (w : World) :
    Calls Tryd.prog 18 #[.agg #[.int .i64 e, .int .i64 a, .slice A n c], .int .i64 m] w fun x w' => x = .returned (.bool (decide (0 ≤ a ∧ a ≤ m))) ∧ Below w.heap.size w w' := by
  obtain ⟨r, hr⟩ : ∃ r, r = decide (0 ≤ a ∧ a ≤ m) := ⟨_, rfl⟩
  rw [← hr]
  have HR := Lib.hid hr
  clear hr
  by_cases h0 : 0 ≤ a
  · have d0 : decide (0 ≤ a) = true := by simpa using h0
    have HE : Hid (r = decide (a ≤ m)) := show _ = _ by rw [HR.out]; simp [h0]
    go_enter Tryd.func18, Tryd.ntmps18
    go_wp2_with fail
    go_ret
    exact ⟨by rw [HE.out]; rfl, (Below.refl _ _).alloc (Nat.le_refl _) _⟩
  · have d0 : decide (0 ≤ a) = false := by simpa using h0
    have HE : Hid (r = false) := show _ = _ by rw [HR.out]; simp [h0]
    go_enter Tryd.func18, Tryd.ntmps18
    go_wp2_with fail
    go_ret
    exact ⟨by rw [HE.out]; rfl, (Below.refl _ _).alloc (Nat.le_refl _) _⟩

end Go.Proofs.YtbfneeggfaoeaaaDoor
