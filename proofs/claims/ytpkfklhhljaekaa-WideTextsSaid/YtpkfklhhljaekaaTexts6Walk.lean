/-
  The law WideTexts, walked: it returns true and writes nothing that was there; for all numbers and texts.
-/
import Derived.Test.YtpkfklhhljaekaaStruct6
import Derived.Test.YtpkfklhhljaekaaRefP6
namespace Go.Proofs.Ytpkfklhhljaekaa
open Go.RowKit

set_option maxHeartbeats 2000000 in
theorem texts_core (a1 a0 c1 c0 : Nat) (T s : List UInt8) (o : Bool) (hs : s.length ≤ 100) (w : World)
    (cT : Hid (∀ w, Calls Try.prog 25 #[.agg #[.int .u64 (a1 : Int), .int .u64 (a0 : Int)]] w fun e w' => e = .returned (.string ⟨T.toArray⟩) ∧ Below w.heap.size w w'))
    (cP : Hid (∀ w, Calls Try.prog 26 #[.string ⟨T.toArray⟩] w fun e w' => e = .returned (.tuple #[.agg #[.int .u64 (a1 : Int), .int .u64 (a0 : Int)], .bool true]) ∧ Below w.heap.size w w'))
    (cS : Hid (∀ w, Calls Try.prog 26 #[.string ⟨s.toArray⟩] w fun e w' => e = .returned (.tuple #[.agg #[.int .u64 (c1 : Int), .int .u64 (c0 : Int)], .bool o]) ∧ Below w.heap.size w w'))
    (cR : Hid (∀ w, Calls Try.prog 27 #[.string ⟨s.toArray⟩] w fun e w' => e = .returned (.tuple #[.agg #[.int .u64 (c1 : Int), .int .u64 (c0 : Int)], .bool o]) ∧ Below w.heap.size w w'))
    (cRT : Hid (∀ w, Calls Try.prog 28 #[.agg #[.int .u64 (a1 : Int), .int .u64 (a0 : Int)]] w fun e w' => e = .returned (.string ⟨T.toArray⟩) ∧ Below w.heap.size w w')) :
    Calls Try.prog 7 #[.agg #[.int .u64 (a1 : Int), .int .u64 (a0 : Int)], .string ⟨s.toArray⟩] w fun e w' => e = .returned (.bool true) ∧ Below w.heap.size w w' := by
  have d1 : decide ((100 : Int) < (s.length : Int)) = false := by simp; omega
  go_enter Try.func7, Try.ntmps7
  go_wp2_with fail
  refine (awake_any _).mono ?_
  rintro e w1 ⟨rfl, B1⟩
  have L1 : Below w.heap.size w w1 := low_a (Below.refl _ _) B1
  have a1_0 : w1.cell? ⟨w.heap.size, 0, none⟩ = some (.int .u64 (a1 : Int)) := by have h := (keep_n B1).1; simpa using h
  have a1_1 : w1.cell? ⟨w.heap.size, 1, none⟩ = some (.int .u64 (a0 : Int)) := by have h := (keep_n B1).2; simpa using h
  have Za1 : w.heap.size < w1.heap.size := by have := B1.size; simp at this; omega
  clear B1
  go_wp2_with fail
  refine (cT.out _).mono ?_
  rintro e w2 ⟨rfl, B2⟩
  have a2_0 := keep_p a1_0 B2; have a2_1 := keep_p a1_1 B2
  have L2 := low_p L1 B2
  have Za2 : w.heap.size < w2.heap.size := by have := B2.size; omega
  clear B2 L1 a1_0 a1_1 Za1
  go_wp2_with fail
  refine (cP.out _).mono ?_
  rintro e w3 ⟨rfl, B3⟩
  have a3_0 := keep_p a2_0 B3; have a3_1 := keep_p a2_1 B3
  have L3 := low_p L2 B3
  have Za3 : w.heap.size < w3.heap.size := by have := B3.size; omega
  clear B3 L2 a2_0 a2_1 Za2
  go_wp2_with fail
  refine (cS.out _).mono ?_
  rintro e w4 ⟨rfl, B4⟩
  have a4_0 := keep_a a3_0 B4; have a4_1 := keep_a a3_1 B4
  obtain ⟨b4_0, b4_1⟩ := keep_n B4
  have L4 := low_a L3 B4
  have Za4 : w.heap.size < w4.heap.size := by have := B4.size; simp at this; omega
  have Zb4 : w3.heap.size < w4.heap.size := by have := B4.size; simp at this; omega
  clear B4 L3 a3_0 a3_1 Za3
  generalize w3.heap.size = g_b at *
  go_wp2_with fail
  refine (cR.out _).mono ?_
  rintro e w5 ⟨rfl, B5⟩
  have a5_0 := keep_a a4_0 B5; have a5_1 := keep_a a4_1 B5
  have b5_0 := keep_a b4_0 B5; have b5_1 := keep_a b4_1 B5
  obtain ⟨c5_0, c5_1⟩ := keep_n B5
  have L5 := low_a L4 B5
  have Za5 : w.heap.size < w5.heap.size := by have := B5.size; simp at this; omega
  have Zb5 : g_b < w5.heap.size := by have := B5.size; simp at this; omega
  have Zc5 : w4.heap.size < w5.heap.size := by have := B5.size; simp at this; omega
  clear B5 L4 a4_0 a4_1 b4_0 b4_1 Za4 Zb4
  generalize w4.heap.size = g_c at *
  go_wp2_with fail
  refine (cRT.out _).mono ?_
  rintro e w6 ⟨rfl, B6⟩
  have a6_0 := keep_a a5_0 B6; have a6_1 := keep_a a5_1 B6
  have b6_0 := keep_a b5_0 B6; have b6_1 := keep_a b5_1 B6
  have c6_0 := keep_a c5_0 B6; have c6_1 := keep_a c5_1 B6
  obtain ⟨d6_0, d6_1⟩ := keep_n B6
  have L6 := low_a L5 B6
  have Za6 : w.heap.size < w6.heap.size := by have := B6.size; simp at this; omega
  have Zb6 : g_b < w6.heap.size := by have := B6.size; simp at this; omega
  have Zc6 : g_c < w6.heap.size := by have := B6.size; simp at this; omega
  have Zd6 : w5.heap.size < w6.heap.size := by have := B6.size; simp at this; omega
  clear B6 L5 a5_0 a5_1 b5_0 b5_1 c5_0 c5_1 Za5 Zb5 Zc5
  generalize w5.heap.size = g_d at *
  have dT : (T == T) = true := by simp
  have dO : (o == o) = true := by simp
  go_wp2_with fail
  go_ret
  exact ⟨rfl, L6⟩

set_option maxHeartbeats 2000000 in
theorem texts_long (a1 a0 : Nat) (s : List UInt8) (hs : 100 < s.length) (w : World) :
    Calls Try.prog 7 #[.agg #[.int .u64 (a1 : Int), .int .u64 (a0 : Int)], .string ⟨s.toArray⟩] w fun e w' => e = .returned (.bool true) ∧ Below w.heap.size w w' := by
  have d1 : decide ((100 : Int) < (s.length : Int)) = true := by simp; omega
  go_enter Try.func7, Try.ntmps7
  go_wp2_with fail
  refine (awake_any _).mono ?_
  rintro e w1 ⟨rfl, B1⟩
  have L1 : Below w.heap.size w w1 := low_a (Below.refl _ _) B1
  have a1_0 : w1.cell? ⟨w.heap.size, 0, none⟩ = some (.int .u64 (a1 : Int)) := by have h := (keep_n B1).1; simpa using h
  have a1_1 : w1.cell? ⟨w.heap.size, 1, none⟩ = some (.int .u64 (a0 : Int)) := by have h := (keep_n B1).2; simpa using h
  have Za1 : w.heap.size < w1.heap.size := by have := B1.size; simp at this; omega
  clear B1
  go_wp2_with fail
  go_ret
  exact ⟨rfl, L1⟩

theorem texts_any (a : Nat) (x : ByteArray) (ha : a < 340282366920938463463374607431768211456) (w : World) :
    Calls Try.prog 7 #[wv a, .string x] w fun e w' => e = .returned (.bool true) ∧ Below w.heap.size w w' := by
  obtain ⟨s, rfl⟩ : ∃ s : List UInt8, x = ⟨s.toArray⟩ := ⟨x.data.toList, by cases x; simp⟩
  by_cases h : s.length ≤ 100
  · obtain ⟨p1, p2⟩ := parse_dec ha
    have cP := parse_any (dec a) (by omega)
    rw [p1] at cP
    exact texts_core _ _ _ _ (dec a) s _ h w (text_any a ha) cP (parse_any s (by omega)) (refParse_any s (by omega)) (refText_any a ha)
  · exact texts_long _ _ s (by omega) w

end Go.Proofs.Ytpkfklhhljaekaa
