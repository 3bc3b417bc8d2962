/-
  The law WhenRises, walked: returns true and writes nothing that was there; for every two times.
-/
import Derived.Test.YthkcaogohkgheaaDoorLaws16
namespace Go.Proofs.YthkcaogohkgheaaDoor
set_option maxRecDepth 100000
open Go.RowKit

set_option maxHeartbeats 2000000 in
theorem rises16_walk (a b : Int) (w : World) (hL : L16 w) :
    Calls Tryd.prog 6 #[.int .i64 a, .int .i64 b] w fun e w' => e = .returned (.bool true) ∧ Below w.heap.size w w' := by
  have HL := Lib.hid hL
  clear hL
  go_enter Tryd.func6, Tryd.ntmps6
  go_wp2_with fail
  refine (awake16 _ HL.out).mono ?_
  rintro e w1 ⟨rfl, B1⟩
  have HB := Lib.hid B1
  clear B1
  go_wp2_with fail
  refine (text_all a _ (HL.out.after HB.out)).mono ?_
  rintro e w2 ⟨⟨s, ok, rfl, hs⟩, B2⟩
  have HB2 := Lib.hid (low16 HB.out B2)
  have HS := Lib.hid hs
  clear B2 hs
  go_wp2_with fail
  refine (text_all b _ (HL.out.after HB2.out)).mono ?_
  rintro e w3 ⟨⟨t, is, rfl, ht⟩, B3⟩
  have HB3 := Lib.hid (low16 HB2.out B3)
  have HT := Lib.hid ht
  clear B3 ht
  cases ok
  · clear HS HT
    go_wp2_with fail
    go_ret
    exact ⟨rfl, HB3.out⟩
  cases is
  · clear HS HT
    go_wp2_with fail
    go_ret
    exact ⟨rfl, HB3.out⟩
  by_cases hab : b < a
  · have d1 : decide (b < a) = true := decide_eq_true hab
    clear HS HT hab
    go_wp2_with fail
    go_ret
    exact ⟨rfl, HB3.out⟩
  have d1 : decide (b < a) = false := decide_eq_false hab
  rcases HS.out with ⟨h, _⟩ | ⟨_, A, rfl, hA, h1⟩
  · cases h
  rcases HT.out with ⟨h, _⟩ | ⟨_, B, rfl, hB, h2⟩
  · cases h
  have l1 := text_len h1
  have l2 := text_len h2
  obtain ⟨q1, q2⟩ := heads hA hB h1 h2
  have m1 : 20 ≤ s.length := by rw [l1]; split <;> omega
  have m2 : 20 ≤ t.length := by rw [l2]; split <;> omega
  have hle : A / 1000 ≤ B / 1000 := by omega
  have bA : A / 1000 ≤ 4000000000000000000 := by omega
  have bB : B / 1000 ≤ 4000000000000000000 := by omega
  have d1n : decide (B < A) = false := decide_eq_false (by omega)
  have e1 : decide (20 ≤ (s.length : Int)) = true := decide_eq_true (by omega)
  have e1n : decide (20 ≤ s.length) = true := decide_eq_true m1
  have e2 : decide (20 ≤ (t.length : Int)) = true := decide_eq_true (by omega)
  have e2n : decide (20 ≤ t.length) = true := decide_eq_true m2
  have f1 := fst16 s 19 19 rfl (by omega)
  have f2 := fst16 t 19 19 rfl (by omega)
  have g1 : fld s 0 19 = s.take 19 := rfl
  have g2 : fld t 0 19 = t.take 19 := rfl
  rw [g1] at f1
  rw [g2] at f2
  obtain ⟨A1, hA1⟩ : ∃ A1, A / 1000 = A1 := ⟨_, rfl⟩
  obtain ⟨B1, hB1⟩ : ∃ B1, B / 1000 = B1 := ⟨_, rfl⟩
  have v1 : (A : Int).tdiv 1000 = (A1 : Int) := t16 A 1000 A1 hA1
  have v2 : (A : Int) / 1000 = (A1 : Int) := q16 A 1000 A1 hA1
  have v3 : (B : Int).tdiv 1000 = (B1 : Int) := t16 B 1000 B1 hB1
  have v4 : (B : Int) / 1000 = (B1 : Int) := q16 B 1000 B1 hB1
  have v5 : wrap64 (A1 : Int) = (A1 : Int) := w64 rfl (by rw [← hA1]; exact bA)
  have v6 : wrap64 (B1 : Int) = (B1 : Int) := w64 rfl (by rw [← hB1]; exact bB)
  rw [hA1, hB1] at q1 q2 hle
  have HLE := Lib.hid hle
  clear hle bA bB
  have HQ1 := Lib.hid q1; have HQ2 := Lib.hid q2
  clear hA hB h1 h2 l1 l2 m1 m2 hab q1 q2 g1 g2 hA1 hB1 HS HT
  generalize s.take 19 = S at *
  generalize t.take 19 = T at *
  clear HL HB HB2
  by_cases hlt : A1 < B1
  · have c1 : Op.bytesLess S T = true := HQ1.out.2 hlt
    have c2 : ¬ S = T := fun h => by have := HQ2.out.1 h; omega
    have c3 : (S == T) = false := beq_eq_false_iff_ne.2 c2
    have c4 : ((A1 : Int) == (B1 : Int)) = false := beq_eq_false_iff_ne.2 (by omega)
    clear HQ1 HQ2 HLE hlt
    go_upto_region 7 with fail
    go_quiet (fail)
    have HB4 := Lib.hid (HB3.out.trans ((low_drew16 w3 nq).mono HB3.out.size))
    go_wp2_with fail
    go_ret
    exact ⟨by first | rfl | (simp; done), HB4.out⟩
  · have hE : A1 = B1 := by have := HLE.out; omega
    have c2 := HQ2.out.2 hE
    clear HQ1 HQ2 HLE hlt
    subst hE c2
    have c3 : (S == S) = true := beq_self_eq_true _
    have c4 : ((A1 : Int) == (A1 : Int)) = true := beq_self_eq_true _
    go_upto_region 7 with fail
    go_quiet (fail)
    have HB4 := Lib.hid (HB3.out.trans ((low_drew16 w3 nq).mono HB3.out.size))
    go_wp2_with fail
    go_ret
    exact ⟨by first | rfl | (simp; done), HB4.out⟩
end Go.Proofs.YthkcaogohkgheaaDoor
