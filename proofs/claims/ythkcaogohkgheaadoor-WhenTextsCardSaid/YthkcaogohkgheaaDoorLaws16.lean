/-
  The laws WhenTexts, WhenBack and WhenRises, walked: each returns true and writes nothing that was there; for every time.
-/
import Derived.Test.YthkcaogohkgheaaDoorAwake16
namespace Go.Proofs.YthkcaogohkgheaaDoor
set_option maxRecDepth 100000
open Go.RowKit

/-- What Text answers to any number. -/
def AnsT (x : Int) (t : List UInt8) (ok : Bool) : Prop := (ok = false ∧ t = [] ∧ (x < 0 ∨ 253402300799999 < x)) ∨ (ok = true ∧ ∃ ms : Nat, x = (ms : Int) ∧ ms ≤ 253402300799999 ∧ TextW ms t)
theorem ans_one {x : Int} {t t' : List UInt8} {ok ok' : Bool} (h : AnsT x t ok) (h' : AnsT x t' ok') : t = t' ∧ ok = ok' := by
  rcases h with ⟨rfl, rfl, h⟩ | ⟨rfl, ms, rfl, hm, h⟩
  · rcases h' with ⟨rfl, rfl, _⟩ | ⟨_, ms, rfl, hm, _⟩
    · exact ⟨rfl, rfl⟩
    · exfalso; omega
  · rcases h' with ⟨_, _, h'⟩ | ⟨rfl, ms', e, hm', h'⟩
    · exfalso; omega
    · obtain rfl : ms = ms' := by omega
      exact ⟨text_one h h', rfl⟩
theorem text_all (x : Int) (w : World) (hL : L16 w) :
    Calls Tryd.prog 8 #[.int .i64 x] w fun e w' => (∃ t ok, e = .returned (.tuple #[.string ⟨t.toArray⟩, .bool ok]) ∧ AnsT x t ok) ∧ Below w.heap.size w w' := by
  by_cases h : x < 0 ∨ 253402300799999 < x
  · refine (text_out16 x h w).mono ?_
    rintro e w' ⟨rfl, rfl⟩
    exact ⟨⟨[], false, rfl, .inl ⟨rfl, rfl, h⟩⟩, Below.refl _ _⟩
  · obtain ⟨ms, rfl⟩ : ∃ ms : Nat, x = (ms : Int) := ⟨x.toNat, by omega⟩
    refine (text_in16 ms (by omega) w hL).mono ?_
    rintro e w' ⟨⟨t, rfl, ht⟩, B⟩
    exact ⟨⟨t, true, rfl, .inr ⟨rfl, ms, rfl, by omega, ht⟩⟩, B⟩
theorem refText_all (x : Int) (w : World) :
    Calls Tryd.prog 9 #[.int .i64 x] w fun e w' => (∃ t ok, e = .returned (.tuple #[.string ⟨t.toArray⟩, .bool ok]) ∧ AnsT x t ok) ∧ Below w.heap.size w w' := by
  by_cases h : x < 0 ∨ 253402300799999 < x
  · refine (text_out x h w).mono ?_
    rintro e w' ⟨rfl, rfl⟩
    exact ⟨⟨[], false, rfl, .inl ⟨rfl, rfl, h⟩⟩, Below.refl _ _⟩
  · obtain ⟨ms, rfl⟩ : ∃ ms : Nat, x = (ms : Int) := ⟨x.toNat, by omega⟩
    refine (text_in ms _ (by omega) rfl w).mono ?_
    rintro e w' ⟨⟨t, rfl, ht⟩, B⟩
    exact ⟨⟨t, true, rfl, .inr ⟨rfl, ms, rfl, by omega, ht⟩⟩, B⟩

set_option maxHeartbeats 1000000 in
theorem texts16_walk (x : Int) (w : World) (hL : L16 w) :
    Calls Tryd.prog 3 #[.int .i64 x] w fun e w' => e = .returned (.bool true) ∧ Below w.heap.size w w' := by
  have HL := Lib.hid hL
  clear hL
  go_enter Tryd.func3, Tryd.ntmps3
  go_wp2_with fail
  refine (awake16 _ HL.out).mono ?_
  rintro e w1 ⟨rfl, B1⟩
  have HB := Lib.hid B1
  clear B1
  go_wp2_with fail
  refine (text_all x _ (HL.out.after HB.out)).mono ?_
  rintro e w2 ⟨⟨t, ok, rfl, ht⟩, B2⟩
  have HB2 := Lib.hid (low16 HB.out B2)
  have HT := Lib.hid ht
  clear B2 ht
  go_wp2_with fail
  refine (refText_all x _).mono ?_
  rintro e w3 ⟨⟨t', ok', rfl, ht⟩, B3⟩
  obtain ⟨rfl, rfl⟩ := ans_one HT.out ht
  have HB3 := Lib.hid (low16 HB2.out B3)
  clear B3 ht HT
  cases ok
  all_goals
    go_wp2_with fail
    go_ret
    exact ⟨by first | rfl | (simp; done), HB3.out⟩

set_option maxHeartbeats 1000000 in
theorem back16_walk (x : Int) (w : World) (hL : L16 w) :
    Calls Tryd.prog 5 #[.int .i64 x] w fun e w' => e = .returned (.bool true) ∧ Below w.heap.size w w' := by
  have HL := Lib.hid hL
  clear hL
  go_enter Tryd.func5, Tryd.ntmps5
  go_wp2_with fail
  refine (awake16 _ HL.out).mono ?_
  rintro e w1 ⟨rfl, B1⟩
  have HB := Lib.hid B1
  clear B1
  go_wp2_with fail
  refine (text_all x _ (HL.out.after HB.out)).mono ?_
  rintro e w2 ⟨⟨t, ok, rfl, ht⟩, B2⟩
  have HB2 := Lib.hid (low16 HB.out B2)
  clear B2
  rcases ht with ⟨rfl, rfl, h⟩ | ⟨rfl, ms, rfl, hm, ht⟩
  · have d : decide (x < 0) = true ∨ (decide (x < 0) = false ∧ decide (253402300799999 < x) = true) := by
      by_cases q : x < 0
      · exact .inl (decide_eq_true q)
      · exact .inr ⟨decide_eq_false q, decide_eq_true (by omega)⟩
    clear h
    rcases d with d1 | ⟨d1, d2⟩
    all_goals
      go_wp2_with fail
      go_ret
      exact ⟨by first | rfl | (simp; done), HB2.out⟩
  · have hp := back_when hm ht
    have hl := text_len ht
    have cP := Lib.hid fun w => parse_any16 t w
    rw [hp] at cP
    unfold ansV at cP
    obtain ⟨f, hf⟩ : ∃ f, ms % 1000 = f := ⟨_, rfl⟩
    rw [hf] at hl
    have z1 := m16 ms 1000 f hf
    have z2 := r16 ms 1000 f hf
    have z1 : (ms : Int).tmod 1000 = (f : Int) := z1
    have z2 : (ms : Int) % 1000 = (f : Int) := z2
    have z3 : wrap64 (f : Int) = (f : Int) := wr16 (by omega)
    by_cases h0 : f = 0
    · rw [if_pos h0] at hl
      have l1 : ((t.length : Int) == 20) = true := by rw [hl]; rfl
      have l2 : ((f : Int) == 0) = true := by rw [h0]; rfl
      clear hp ht hf h0 hl hm
      go_wp2_with fail
      refine (cP.out _).mono ?_
      rintro e w3 ⟨rfl, B3⟩
      have HB3 := Lib.hid (low16 HB2.out B3)
      clear B3 cP
      go_wp2_with fail
      go_ret
      exact ⟨by first | rfl | (simp; done), HB3.out⟩
    · rw [if_neg h0] at hl
      have l1 : ((t.length : Int) == 20) = false := by rw [hl]; rfl
      have l2 : ((f : Int) == 0) = false := beq_eq_false_iff_ne.2 (by omega)
      clear hp ht hf h0 hl hm
      go_wp2_with fail
      refine (cP.out _).mono ?_
      rintro e w3 ⟨rfl, B3⟩
      have HB3 := Lib.hid (low16 HB2.out B3)
      clear B3 cP
      go_wp2_with fail
      go_ret
      exact ⟨by first | rfl | (simp; done), HB3.out⟩
end Go.Proofs.YthkcaogohkgheaaDoor
