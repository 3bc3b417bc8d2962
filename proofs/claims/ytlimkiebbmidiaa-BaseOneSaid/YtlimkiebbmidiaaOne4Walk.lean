/-
  The law BaseOne, walked: it returns true and writes nothing that was there; for all texts.
-/
import Derived.Test.YtlimkiebbmidiaaAwake4
namespace Go.Proofs.Ytlimkiebbmidiaa
open Go.RowKit

set_option maxHeartbeats 1000000 in
theorem one_list (l : List UInt8) (w : World) :
    Calls Try.prog 5 #[.string ⟨l.toArray⟩] w fun e w' => e = .returned (.bool true) ∧ Below w.heap.size w w' := by
  by_cases c : 600 < l.length
  · have d1 : decide ((600 : Int) < (l.length : Int)) = true := by simp; omega
    go_enter Try.func5, Try.ntmps5
    go_wp2_with fail
    refine (awake_any _).mono ?_
    rintro e w1 ⟨rfl, B1⟩
    go_wp2_with fail
    go_ret
    exact ⟨rfl, B1⟩
  · have d1 : decide ((600 : Int) < (l.length : Int)) = false := by simp; omega
    cases hu : unb l with
    | none =>
      have HU := Lib.hid hu
      clear hu
      go_enter Try.func5, Try.ntmps5
      go_wp2_with fail
      refine (awake_any _).mono ?_
      rintro e w1 ⟨rfl, B1⟩
      go_wp2_with fail
      refine (bytes_any l (by omega) w1).mono ?_
      rw [HU.out]
      rintro e w2 ⟨A2, c2, rfl, g2, B2⟩
      have B2' : Below w.heap.size w w2 := B1.trans (B2.mono B1.size)
      simp only [Option.getD_none, Option.isSome_none, List.length_nil] at g2 ⊢
      clear B2 B1 g2
      go_wp2_with fail
      go_ret
      exact ⟨rfl, B2'⟩
    | some m =>
      have HU := Lib.hid hu
      have HT := Lib.hid (b64_unb l m hu)
      have hml : m.length ≤ 600 := by
        have := congrArg List.length HT.out
        rw [b64_length] at this
        omega
      clear hu
      go_enter Try.func5, Try.ntmps5
      go_wp2_with fail
      refine (awake_any _).mono ?_
      rintro e w1 ⟨rfl, B1⟩
      go_wp2_with fail
      refine (bytes_any l (by omega) w1).mono ?_
      rw [HU.out]
      rintro e w2 ⟨A2, c2, rfl, g2, B2⟩
      have B2' : Below w.heap.size w w2 := B1.trans (B2.mono B1.size)
      simp only [Option.getD_some, Option.isSome_some] at g2 ⊢
      have H2 := Lib.hid g2
      clear B2 B1 g2
      go_wp2_with fail
      refine (text_any A2 m.length c2 m w2 H2.out (by omega)).mono ?_
      rw [HT.out]
      rintro e w3 ⟨rfl, B3⟩
      have B3' : Below w.heap.size w w3 := B2'.trans (B3.mono B2'.size)
      clear B3 B2'
      go_wp2_with fail
      go_ret
      exact ⟨by simp, B3'⟩

theorem one_any (s : ByteArray) (w : World) :
    Calls Try.prog 5 #[.string s] w fun e w' => e = .returned (.bool true) ∧ Below w.heap.size w w' := by
  obtain ⟨l, rfl⟩ : ∃ l : List UInt8, s = ⟨l.toArray⟩ := ⟨s.data.toList, by cases s; simp⟩
  exact one_list l w

end Go.Proofs.Ytlimkiebbmidiaa
