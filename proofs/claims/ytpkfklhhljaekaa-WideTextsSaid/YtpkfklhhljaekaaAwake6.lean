/-
  The law's first question (what the document's examples tell) is answered true, and nothing that was there is written; no condition.
-/
import Derived.Test.YtpkfklhhljaekaaWideH
import Derived.Test.YtpkfklhhljaekaaWideI
namespace Go.Proofs.Ytpkfklhhljaekaa
open Go.RowKit

theorem parse_awake : parseW [49, 56, 52, 52, 54, 55, 52, 52, 48, 55, 51, 55, 48, 57, 53, 53, 49, 54, 49, 54] = some 18446744073709551616 := by decide
theorem dec_awake : dec 18446744073709551616 = [49, 56, 52, 52, 54, 55, 52, 52, 48, 55, 51, 55, 48, 57, 53, 53, 49, 54, 49, 54] := by
  have h := parse_again [49, 56, 52, 52, 54, 55, 52, 52, 48, 55, 51, 55, 48, 57, 53, 53, 49, 54, 49, 54] (by decide)
  rw [parse_awake] at h
  have e : rd 0 [49, 56, 52, 52, 54, 55, 52, 52, 48, 55, 51, 55, 48, 57, 53, 53, 49, 54, 49, 54] = some 18446744073709551616 := by decide
  rw [e] at h
  by_cases hd : dec 18446744073709551616 = [49, 56, 52, 52, 54, 55, 52, 52, 48, 55, 51, 55, 48, 57, 53, 53, 49, 54, 49, 54]
  · exact hd
  · simp only [Option.bind_some, if_neg hd] at h
    cases h

set_option maxHeartbeats 1000000 in
theorem awake_any (w : World) : Calls Try.prog 9 #[] w fun e w' => e = .returned (.bool true) ∧ Below w.heap.size w w' := by
  have cP := parse_any [49, 56, 52, 52, 54, 55, 52, 52, 48, 55, 51, 55, 48, 57, 53, 53, 49, 54, 49, 54] (by decide)
  rw [parse_awake] at cP
  have eP : parV (some 18446744073709551616) = .tuple #[.agg #[.int .u64 1, .int .u64 0], .bool true] := rfl
  rw [eP] at cP
  have cM : ∀ w, Calls Try.prog 19 #[.int .u64 9223372036854775808, .int .u64 4] w fun e w' => e = .returned (.agg #[.int .u64 2, .int .u64 0]) ∧ Below w.heap.size w w' := fun w => mul_any 9223372036854775808 4 (by decide) (by decide) w
  have cT : ∀ w, Calls Try.prog 25 #[.agg #[.int .u64 1, .int .u64 0]] w fun e w' => e = .returned (.string ⟨#[49, 56, 52, 52, 54, 55, 52, 52, 48, 55, 51, 55, 48, 57, 53, 53, 49, 54, 49, 54]⟩) ∧ Below w.heap.size w w' := fun w => by
    have h := text_any 18446744073709551616 (by decide) w
    rw [dec_awake] at h
    exact h
  have CP := Lib.hid cP; have CM := Lib.hid cM; have CT := Lib.hid cT
  clear cP eP cM cT
  go_enter Try.func9, Try.ntmps9
  go_wp2_with fail
  refine (CP.out _).mono ?_
  rintro e w1 ⟨rfl, B1⟩
  go_wp2_with fail
  refine (CM.out _).mono ?_
  rintro e w2 ⟨rfl, B2⟩
  have x1 : w2.cell? ⟨w1.heap.size, 0, none⟩ = some (.int .u64 1) := (B2.cell (p := ⟨w1.heap.size, 0, none⟩) (by simp)).trans (by simp [go_sem])
  have x2 : w2.cell? ⟨w1.heap.size, 1, none⟩ = some (.int .u64 0) := (B2.cell (p := ⟨w1.heap.size, 1, none⟩) (by simp)).trans (by simp [go_sem])
  have B2' : Below w.heap.size w w2 := (B1.alloc B1.size _).trans (B2.mono (by have := B1.size; simp; omega))
  have HB := Lib.hid B2'
  clear B1 B2 B2'
  go_wp2_with fail
  refine (CT.out _).mono ?_
  rintro e w3 ⟨rfl, B3⟩
  go_wp2_with fail
  go_ret
  exact ⟨rfl, HB.out.trans (B3.mono HB.out.size)⟩

end Go.Proofs.Ytpkfklhhljaekaa
