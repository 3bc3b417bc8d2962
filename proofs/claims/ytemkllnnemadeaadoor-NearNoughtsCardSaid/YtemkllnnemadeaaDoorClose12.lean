/-
  The law's first question (what the document's examples tell) is answered true. No condition but what near's calls lean on (L12).
  The law NearReads, walked: it returns true and writes nothing that was there; for all texts and exponents.
  The law NearParses, walked: it returns true and writes nothing that was there; for all texts.
  What the answers of stage 12's laws come to: pure. No condition beyond what each lemma asks.
  The law NearRises, walked: it returns true and writes nothing that was there; for all texts and exponents.
  The law NearNoughts, walked: it returns true and writes nothing that was there; for all texts and numbers.
  The law NearWhole, walked: it returns true and writes nothing that was there; for all numbers.
  The walks of stage 12 in the form that the last texts take: arguments as they come in, the calls that they lean on filled. What near's Read and Parse do is NearStub12's (in the real seat: contracts of near's own).
-/
import Derived.Test.YtemkllnnemadeaaDoorNearF12
import Derived.Test.YtemkllnnemadeaaDoorRefX12
import Derived.Test.YtemkllnnemadeaaDoorRefI12
import Derived.Test.YtemkllnnemadeaaDoorRefO12
namespace Go.Proofs.YtemkllnnemadeaaDoor
open Go.RowKit

set_option maxHeartbeats 1000000 in
theorem awake_any (w : World) (hL : L12 w) (cL : Hid (Lexes [48, 46, 49])) : Calls Tryd.prog 8 #[] w fun e w' => e = .returned (.bool true) ∧ Below w.heap.size w w' := by
  have HL := Lib.hid hL
  have cP : Hid (∀ w, L12 w → Calls Tryd.prog 11 #[.string ⟨#[48, 46, 49]⟩] w fun r w' => r = .returned (.tuple #[.int .u64 4591870180066957722, .int .i64 0]) ∧ Below w.heap.size w w') := fun w hL => by
    refine (parse_ans [48, 46, 49] w (by decide) hL cL).mono ?_
    rintro r w' ⟨⟨a, e, rfl, hA⟩, hB⟩
    obtain ⟨rfl, rfl⟩ := parse_tenth hA
    exact ⟨rfl, hB⟩
  have cR : Hid (∀ w, L12 w → Calls Tryd.prog 9 #[.string ⟨#[53]⟩, .int .i64 0] w fun r w' => r = .returned (.tuple #[.int .u64 4602678819172646912, .bool true]) ∧ Below w.heap.size w w') := fun w hL => by
    refine (read_ans [53] 0 w (by decide) (by decide) hL).mono ?_
    rintro r w' ⟨⟨a, e, rfl, hA⟩, hB⟩
    obtain ⟨rfl, rfl⟩ := read_half hA
    exact ⟨rfl, hB⟩
  clear hL cL
  go_enter Tryd.func8, Tryd.ntmps8
  go_wp2_with fail
  refine (cP.out _ HL.out).mono ?_
  rintro r w1 ⟨rfl, hB1⟩
  have HB1 := Lib.hid hB1
  have HL1 := Lib.hid (HL.out.after hB1)
  clear hB1
  go_wp2_with fail
  refine (cR.out _ HL1.out).mono ?_
  rintro r w2 ⟨rfl, hB2⟩
  have HB2 : Hid (Below w.heap.size w w2) := HB1.out.trans (hB2.mono HB1.out.size)
  clear hB2
  go_wp2_with fail
  go_ret
  exact ⟨rfl, HB2.out⟩

end Go.Proofs.YtemkllnnemadeaaDoor

namespace Go.Proofs.YtemkllnnemadeaaDoor
open Go.RowKit

set_option maxHeartbeats 1000000 in
theorem reads12_any (ds : List UInt8) (x : Int) (w : World) (hx : -9223372036854775808 ≤ x ∧ x ≤ 9223372036854775807) (hL : L12 w) (cL : Hid (Lexes [48, 46, 49])) :
    Calls Tryd.prog 3 #[.string ⟨ds.toArray⟩, .int .i64 x] w fun r w' => r = .returned (.bool true) ∧ Below w.heap.size w w' := by
  have HL := Lib.hid hL
  have cA := Lib.hid fun w hL => awake_any w hL cL
  have cP := Lib.hid fun w h hL => read_ans ds x w hx h hL
  have cR := Lib.hid fun w => refRead_ans ds x w hx
  clear hL cL hx
  by_cases hl : 320 < ds.length
  · have d1 : decide (320 < (ds.length : Int)) = true := by simp; omega
    have d1n : decide (320 < ds.length) = true := decide_eq_true hl
    clear hl
    go_enter Tryd.func3, Tryd.ntmps3
    go_wp2_with fail
    refine (cA.out _ HL.out).mono ?_
    rintro r w1 ⟨rfl, hB1⟩
    have HB1 := Lib.hid hB1
    clear hB1
    go_wp2_with fail
    go_ret
    exact ⟨rfl, HB1.out⟩
  · have d1 : decide (320 < (ds.length : Int)) = false := by simp; omega
    have d1n : decide (320 < ds.length) = false := decide_eq_false hl
    have HLE : Hid (ds.length ≤ 1000) := show _ ≤ _ by omega
    clear hl
    go_enter Tryd.func3, Tryd.ntmps3
    go_wp2_with fail
    refine (cA.out _ HL.out).mono ?_
    rintro r w1 ⟨rfl, hB1⟩
    have HB1 := Lib.hid hB1
    have HL1 := Lib.hid (HL.out.after hB1)
    clear hB1
    go_wp2_with fail
    refine (cP.out _ HLE.out HL1.out).mono ?_
    rintro r w2 ⟨⟨a, b, rfl, hA⟩, hB2⟩
    have HA := Lib.hid hA
    have HB2 : Hid (Below w.heap.size w w2) := HB1.out.trans (hB2.mono HB1.out.size)
    clear hB2 hA
    go_wp2_with fail
    refine (cR.out _).mono ?_
    rintro r w3 ⟨⟨a', b', rfl, hA'⟩, hB3⟩
    obtain ⟨rfl, rfl⟩ := read_one HA.out hA'
    have HB3 : Hid (Below w.heap.size w w3) := HB2.out.trans (hB3.mono HB2.out.size)
    clear hB3 hA' HA
    go_wp2_with fail
    go_ret
    exact ⟨by simp, HB3.out⟩

end Go.Proofs.YtemkllnnemadeaaDoor

namespace Go.Proofs.YtemkllnnemadeaaDoor
open Go.RowKit

set_option maxHeartbeats 1000000 in
theorem parses12_any (s : List UInt8) (w : World) (hL : L12 w) (cL : Hid (Lexes [48, 46, 49])) (cX : s.length ≤ 400 → Lexes s) :
    Calls Tryd.prog 4 #[.string ⟨s.toArray⟩] w fun r w' => r = .returned (.bool true) ∧ Below w.heap.size w w' := by
  have HL := Lib.hid hL
  have cA := Lib.hid fun w hL => awake_any w hL cL
  clear hL cL
  by_cases hl : 400 < s.length
  · have d1 : decide (400 < (s.length : Int)) = true := by simp; omega
    have d1n : decide (400 < s.length) = true := decide_eq_true hl
    clear hl cX
    go_enter Tryd.func4, Tryd.ntmps4
    go_wp2_with fail
    refine (cA.out _ HL.out).mono ?_
    rintro r w1 ⟨rfl, hB1⟩
    have HB1 := Lib.hid hB1
    clear hB1
    go_wp2_with fail
    go_ret
    exact ⟨rfl, HB1.out⟩
  · have d1 : decide (400 < (s.length : Int)) = false := by simp; omega
    have d1n : decide (400 < s.length) = false := decide_eq_false hl
    have hx : Lexes s := cX (by omega)
    have cP := Lib.hid fun w hL => parse_ans s w (by omega) hL (Lib.hid hx)
    have cR := Lib.hid fun w => refParse_ans s w (Lib.hid hx)
    clear hl cX hx
    go_enter Tryd.func4, Tryd.ntmps4
    go_wp2_with fail
    refine (cA.out _ HL.out).mono ?_
    rintro r w1 ⟨rfl, hB1⟩
    have HB1 := Lib.hid hB1
    have HL1 := Lib.hid (HL.out.after hB1)
    clear hB1
    go_wp2_with fail
    refine (cP.out _ HL1.out).mono ?_
    rintro r w2 ⟨⟨a, b, rfl, hA⟩, hB2⟩
    have HA := Lib.hid hA
    have HB2 : Hid (Below w.heap.size w w2) := HB1.out.trans (hB2.mono HB1.out.size)
    clear hB2 hA
    go_wp2_with fail
    refine (cR.out _).mono ?_
    rintro r w3 ⟨⟨a', b', rfl, hA'⟩, hB3⟩
    obtain ⟨rfl, rfl⟩ := parse_p12 HA.out hA'
    have HB3 : Hid (Below w.heap.size w w3) := HB2.out.trans (hB3.mono HB2.out.size)
    clear hB3 hA' HA
    go_wp2_with fail
    go_ret
    exact ⟨by simp, HB3.out⟩

end Go.Proofs.YtemkllnnemadeaaDoor

namespace Go.Proofs.YtemkllnnemadeaaDoor
open Go.RowKit
open Go.Lib (decDigits itoa)

theorem ans_true {ds : List UInt8} {x : Int} {a : Nat} (h : ReadAns ds x a true) : RdOk ds ∧ NearIs (dA ds x) (dB ds x) a := by
  rcases h with ⟨_, _, h⟩ | ⟨h0, p, hp, h1, h2⟩
  · cases h
  · have h9 : p ≠ 9218868437227405312 := by
      have : rdB p = true := h2.symm
      simpa [rdB] using this
    have : rdP p = p := by unfold rdP; rw [if_neg h9]
    rw [this] at h1
    subst h1
    exact ⟨h0, hp⟩
theorem ans_digits {d m : List UInt8} {x : Int} {a b : Nat} (h : ReadAns d x a true) (k : ReadAns (d ++ m) x b true) : a ≤ b := rises_digits (ans_true h).2 (ans_true k).2
theorem ans_power {d : List UInt8} {x : Int} {a b : Nat} (h : ReadAns d x a true) (k : ReadAns d (x + 1) b true) : a ≤ b := rises_power (ans_true h).2 (ans_true k).2

theorem dgs_noughts (n : Nat) : Dgs (List.replicate n 48) := fun c hc => by
  have : c = 48 := (List.mem_replicate.1 hc).2
  rw [this]
  exact ⟨by decide, by decide⟩
theorem ans_behind {d : List UInt8} {x : Int} {n a b : Nat} {c e : Bool} (hl : 1 ≤ d.length) (hn : d.length + n ≤ 300) (h : ReadAns d x a c) (k : ReadAns (d ++ List.replicate n 48) x b e) : a = b ∧ c = e := by
  refine read_one (ds := d ++ List.replicate n 48) (x := x) ?_ k
  rcases h with ⟨h0, h1, h2⟩ | ⟨h0, p, hp, h1, h2⟩
  · exact .inl ⟨fun hh => h0 ⟨hl, by omega, hh.2.2.left⟩, h1, h2⟩
  · exact .inr ⟨⟨by rw [List.length_append]; omega, by rw [List.length_append, List.length_replicate]; omega, h0.2.2.append (dgs_noughts n)⟩, p, noughts_behind n hp, h1, h2⟩
theorem ans_ahead {d : List UInt8} {x : Int} {n a b : Nat} {c e : Bool} (hl : 1 ≤ d.length) (hn : d.length + n ≤ 300) (h : ReadAns d x a c) (k : ReadAns (List.replicate n 48 ++ d) (x + (n : Int)) b e) : a = b ∧ c = e := by
  refine read_one (ds := List.replicate n 48 ++ d) (x := x + (n : Int)) ?_ k
  obtain ⟨e1, e2⟩ := noughts_ahead d n x
  rcases h with ⟨h0, h1, h2⟩ | ⟨h0, p, hp, h1, h2⟩
  · exact .inl ⟨fun hh => h0 ⟨hl, by omega, hh.2.2.right⟩, h1, h2⟩
  · exact .inr ⟨⟨by rw [List.length_append]; omega, by rw [List.length_append, List.length_replicate]; omega, (dgs_noughts n).append h0.2.2⟩, p, by rw [e1, e2]; exact hp, h1, h2⟩

theorem dec_short {u : Nat} (h : u ≤ 9223372036854775808) : (decDigits u).length ≤ 299 := by
  rcases Nat.eq_zero_or_pos u with h0 | h0
  · subst h0; rw [decDigits, dif_pos (by decide)]; simp
  · have h1 := nd_ge (l := decDigits u) (digs_Dgs (dec_digs u)) (dec_ne u) (dec_head u h0)
    rw [nd_dec] at h1
    apply Nat.le_of_not_lt
    intro hlt
    have h2 : 10 ^ 20 ≤ 10 ^ ((decDigits u).length - 1) := Nat.pow_le_pow_right (by decide) (by omega)
    omega
theorem itoa_short {v : Int} (h : v.natAbs ≤ 9223372036854775808) : (itoa v).length ≤ 300 := by
  have := dec_short h
  unfold itoa
  split
  · simp only [List.length_cons]; omega
  · rw [show v.toNat = v.natAbs by omega]; omega
/-- What Parse answers of a whole number's text. -/
theorem parse_whole {v : Int} {a : Nat} {e : Int} (hv : v.natAbs ≤ 9223372036854775808) (h : ParseAns (itoa v) a e) : e = 0 ∧ ∀ r, joinP v.natAbs 0 = some r → pat (decide (v < 0)) r = a := by
  rcases h with ⟨h0, _⟩ | ⟨_, h1, _⟩ | ⟨_, _, n, ip, fp, E, hj, p, hp, h2, h3⟩
  · rw [lexP_itoa] at h0; cases h0
  · have := itoa_short hv; omega
  · obtain ⟨rfl, rfl, rfl, rfl⟩ := jn_one hj (jn_itoa v)
    have h9 := whole_small hv hp
    have e1 : pnE p = 0 := by unfold pnE; rw [if_neg h9]
    have e2 : pnP (decide (v < 0)) p = pat (decide (v < 0)) p := by unfold pnP; rw [if_neg h9]
    refine ⟨by rw [h3, e1], fun r hr => ?_⟩
    rw [h2, e2, whole_near (by omega) hr hp]

end Go.Proofs.YtemkllnnemadeaaDoor

namespace Go.Proofs.YtemkllnnemadeaaDoor
open Go.RowKit

set_option maxHeartbeats 2000000 in
theorem rises12_any (d m : List UInt8) (x : Int) (w : World) (hL : L12 w) (cL : Hid (Lexes [48, 46, 49])) :
    Calls Tryd.prog 5 #[.string ⟨d.toArray⟩, .string ⟨m.toArray⟩, .int .i64 x] w fun r w' => r = .returned (.bool true) ∧ Below w.heap.size w w' := by
  have HL := Lib.hid hL
  have cA := Lib.hid fun w hL => awake_any w hL cL
  clear hL cL
  have hc : (decide (200 < (d.length : Int)) = true ∧ decide (200 < d.length) = true) ∨ (decide (200 < (d.length : Int)) = false ∧ decide (200 < d.length) = false ∧ decide (90 < (m.length : Int)) = true ∧ decide (90 < m.length) = true) ∨
      (decide (200 < (d.length : Int)) = false ∧ decide (200 < d.length) = false ∧ decide (90 < (m.length : Int)) = false ∧ decide (90 < m.length) = false ∧ (decide (x < -400) = true ∨ (decide (x < -400) = false ∧ decide (400 < x) = true))) ∨
      (decide (200 < (d.length : Int)) = false ∧ decide (200 < d.length) = false ∧ decide (90 < (m.length : Int)) = false ∧ decide (90 < m.length) = false ∧ decide (x < -400) = false ∧ decide (400 < x) = false ∧ d.length ≤ 200 ∧ m.length ≤ 90 ∧ -400 ≤ x ∧ x ≤ 400) := by
    by_cases h1 : 200 < d.length
    · exact .inl ⟨by simp; omega, decide_eq_true h1⟩
    · by_cases h2 : 90 < m.length
      · exact .inr (.inl ⟨by simp; omega, decide_eq_false h1, by simp; omega, decide_eq_true h2⟩)
      · by_cases h3 : x < -400
        · exact .inr (.inr (.inl ⟨by simp; omega, decide_eq_false h1, by simp; omega, decide_eq_false h2, .inl (decide_eq_true h3)⟩))
        · by_cases h4 : 400 < x
          · exact .inr (.inr (.inl ⟨by simp; omega, decide_eq_false h1, by simp; omega, decide_eq_false h2, .inr ⟨decide_eq_false h3, decide_eq_true h4⟩⟩))
          · exact .inr (.inr (.inr ⟨by simp; omega, decide_eq_false h1, by simp; omega, decide_eq_false h2, decide_eq_false h3, decide_eq_false h4, by omega, by omega, by omega, by omega⟩))
  rcases hc with ⟨h1, h1n⟩ | ⟨h1, h1n, h2, h2n⟩ | ⟨h1, h1n, h2, h2n, h3 | ⟨h3, h4⟩⟩ | ⟨h1, h1n, h2, h2n, h3, h4, q1, q2, q3, q4⟩
  case inr.inr.inr =>
    have cP1 := Lib.hid fun w hL => read_ans d x w (by omega) (by omega) hL
    obtain ⟨D, hD⟩ : ∃ D, D = d ++ m := ⟨_, rfl⟩
    have cP2 := Lib.hid fun w hL => read_ans D x w (by omega) (by rw [hD, List.length_append]; omega) hL
    have cP3 := Lib.hid fun w hL => read_ans d (x + 1) w (by omega) (by omega) hL
    have hcat := cat_s12 d m
    rw [← hD] at hcat
    have hsum : ¬ 9223372036854775807 < d.length + m.length := by omega
    have z1 : wrap64 (x + 1) = x + 1 := in64 (by omega)
    have HD := Lib.hid hD
    clear q1 q2 q3 q4 hD
    go_enter Tryd.func5, Tryd.ntmps5
    go_wp2_with fail
    refine (cA.out _ HL.out).mono ?_
    rintro r w1 ⟨rfl, hB1⟩
    have HB1 := Lib.hid hB1
    have HL1 := Lib.hid (HL.out.after hB1)
    clear hB1
    go_wp2_with fail
    refine (cP1.out _ HL1.out).mono ?_
    rintro r w2 ⟨⟨a, ok, rfl, hA⟩, hB2⟩
    have HA := Lib.hid hA
    have HL2 := Lib.hid (HL1.out.after hB2)
    have HB2 : Hid (Below w.heap.size w w2) := HB1.out.trans (hB2.mono HB1.out.size)
    clear hB2 hA
    go_wp2_with fail
    refine (cP2.out _ HL2.out).mono ?_
    rintro r w3 ⟨⟨b, is, rfl, hA'⟩, hB3⟩
    have HA2 := Lib.hid hA'
    have HL3 := Lib.hid (HL2.out.after hB3)
    have HB3 : Hid (Below w.heap.size w w3) := HB2.out.trans (hB3.mono HB2.out.size)
    clear hB3 hA'
    go_wp2_with fail
    refine (cP3.out _ HL3.out).mono ?_
    rintro r w4 ⟨⟨c, on, rfl, hA'⟩, hB4⟩
    have HB4 : Hid (Below w.heap.size w w4) := HB3.out.trans (hB4.mono HB3.out.size)
    have hle : ok = false ∨ (ok = true ∧ (is = false ∨ (is = true ∧ decide ((a : Int) ≤ (b : Int)) = true ∧ decide (a ≤ b) = true)) ∧ (on = false ∨ (on = true ∧ decide ((a : Int) ≤ (c : Int)) = true ∧ decide (a ≤ c) = true))) := by
      cases ok with
      | false => exact .inl rfl
      | true =>
        refine .inr ⟨rfl, ?_, ?_⟩
        · cases is with
          | false => exact .inl rfl
          | true =>
            have h2 := HA2.out
            rw [HD.out] at h2
            have := ans_digits HA.out h2
            exact .inr ⟨rfl, by simp; omega, decide_eq_true this⟩
        · cases on with
          | false => exact .inl rfl
          | true =>
            have := ans_power HA.out hA'
            exact .inr ⟨rfl, by simp; omega, decide_eq_true this⟩
    clear hB4 hA' HA HA2
    rcases hle with rfl | ⟨rfl, rfl | ⟨rfl, k1, k1n⟩, rfl | ⟨rfl, k2, k2n⟩⟩
    all_goals
      go_wp2_with fail
      go_ret
      exact ⟨rfl, HB4.out⟩
  all_goals
    go_enter Tryd.func5, Tryd.ntmps5
    go_wp2_with fail
    refine (cA.out _ HL.out).mono ?_
    rintro r w1 ⟨rfl, hB1⟩
    have HB1 := Lib.hid hB1
    clear hB1
    go_wp2_with fail
    go_ret
    exact ⟨rfl, HB1.out⟩

end Go.Proofs.YtemkllnnemadeaaDoor

namespace Go.Proofs.YtemkllnnemadeaaDoor
open Go.RowKit

set_option maxHeartbeats 1000000 in
/-- Beyond the law's bounds. -/
theorem noughts12_out (d : List UInt8) (x n : Int) (w : World) (hL : L12 w) (cL : Hid (Lexes [48, 46, 49]))
    (hc : decide ((d.length : Int) < 1) = true ∨ (decide ((d.length : Int) < 1) = false ∧ decide (200 < (d.length : Int)) = true ∧ decide (200 < d.length) = true) ∨
      (decide ((d.length : Int) < 1) = false ∧ decide (200 < (d.length : Int)) = false ∧ decide (200 < d.length) = false ∧ (decide (n < 0) = true ∨ (decide (n < 0) = false ∧ decide (90 < n) = true) ∨ (decide (n < 0) = false ∧ decide (90 < n) = false ∧ (decide (x < -2000) = true ∨ (decide (x < -2000) = false ∧ decide (2000 < x) = true)))))) :
    Calls Tryd.prog 6 #[.string ⟨d.toArray⟩, .int .i64 x, .int .i64 n] w fun r w' => r = .returned (.bool true) ∧ Below w.heap.size w w' := by
  have HL := Lib.hid hL
  have cA := Lib.hid fun w hL => awake_any w hL cL
  clear hL cL
  by_cases hd0 : d = []
  · subst hd0
    clear hc
    go_enter Tryd.func6, Tryd.ntmps6
    go_wp2_with fail
    refine (cA.out _ HL.out).mono ?_
    rintro r w1 ⟨rfl, hB1⟩
    have HB1 := Lib.hid hB1
    clear hB1
    go_wp2_with fail
    go_ret
    exact ⟨rfl, HB1.out⟩
  have hl : 0 < d.length := List.length_pos_iff.2 hd0
  have d0 : decide ((d.length : Int) < 1) = false := by simp; omega
  have d0n : decide (d.length < 1) = false := decide_eq_false (by omega)
  clear hd0 hl
  rw [d0] at hc
  rcases hc with h | ⟨_, h1, h1n⟩ | ⟨_, h1, h1n, h2 | ⟨h2, h3⟩ | ⟨h2, h3, h4 | ⟨h4, h5⟩⟩⟩
  · cases h
  all_goals
    go_enter Tryd.func6, Tryd.ntmps6
    go_wp2_with fail
    refine (cA.out _ HL.out).mono ?_
    rintro r w1 ⟨rfl, hB1⟩
    have HB1 := Lib.hid hB1
    clear hB1
    go_wp2_with fail
    go_ret
    exact ⟨rfl, HB1.out⟩

set_option maxHeartbeats 2000000 in
theorem noughts12_in (d : List UInt8) (x : Int) (n : Nat) (w : World) (hL : L12 w) (cL : Hid (Lexes [48, 46, 49])) (h1 : 1 ≤ d.length) (h2 : d.length ≤ 200) (h3 : n ≤ 90) (h4 : -2000 ≤ x ∧ x ≤ 2000) :
    Calls Tryd.prog 6 #[.string ⟨d.toArray⟩, .int .i64 x, .int .i64 (n : Int)] w fun r w' => r = .returned (.bool true) ∧ Below w.heap.size w w' := by
  have HL := Lib.hid hL
  have cA := Lib.hid fun w hL => awake_any w hL cL
  clear hL cL
  have d0 : decide ((d.length : Int) < 1) = false := by simp; omega
  have d0n : decide (d.length < 1) = false := decide_eq_false (by omega)
  have d1 : decide (200 < (d.length : Int)) = false := by simp; omega
  have d1n : decide (200 < d.length) = false := decide_eq_false (by omega)
  have d2 : decide ((n : Int) < 0) = false := by simp
  have d3 : decide (90 < (n : Int)) = false := by simp; omega
  have d3n : decide (90 < n) = false := decide_eq_false (by omega)
  have d4 : decide (x < -2000) = false := by simp; omega
  have d5 : decide (2000 < x) = false := by simp; omega
  obtain ⟨s, hs⟩ : ∃ s : List UInt8, s = List.replicate n 48 := ⟨_, rfl⟩
  have hsl : s.length = n := by rw [hs, List.length_replicate]
  obtain ⟨D, hD⟩ : ∃ D, D = d ++ s := ⟨_, rfl⟩
  obtain ⟨F, hF⟩ : ∃ F, F = s ++ d := ⟨_, rfl⟩
  have cP1 := Lib.hid fun w hL => read_ans d x w (by omega) (by omega) hL
  have cP2 := Lib.hid fun w hL => read_ans D x w (by omega) (by rw [hD, List.length_append]; omega) hL
  have cP3 := Lib.hid fun w hL => read_ans F (x + (n : Int)) w (by omega) (by rw [hF, List.length_append]; omega) hL
  have hcat1 := cat_s12 d s
  rw [← hD] at hcat1
  have hcat2 := cat_s12 s d
  rw [← hF] at hcat2
  have HS1 : Hid (¬ 9223372036854775807 < d.length + s.length) := show ¬ _ by omega
  have HS2 : Hid (¬ 9223372036854775807 < s.length + d.length) := show ¬ _ by omega
  have HZ : Hid (wrap64 (x + (n : Int)) = x + (n : Int)) := show _ = _ from in64 (by omega)
  have HD : Hid (D = d ++ List.replicate n 48) := show _ = _ by rw [hD, hs]
  have HF : Hid (F = List.replicate n 48 ++ d) := show _ = _ by rw [hF, hs]
  have HN := Lib.hid h3
  have HLD : Hid (1 ≤ d.length ∧ d.length + n ≤ 300) := show _ ∧ _ by omega
  have HCAT1 := Lib.hid hcat1; have HCAT2 := Lib.hid hcat2; have HSE := Lib.hid hs
  clear h1 h2 h3 h4 hD hF hsl hcat1 hcat2 hs
  go_enter Tryd.func6, Tryd.ntmps6
  go_wp2_with fail
  refine (cA.out _ HL.out).mono ?_
  rintro r w1 ⟨rfl, hB1⟩
  have HB1 := Lib.hid hB1
  have HL1 := Lib.hid (HL.out.after hB1)
  clear hB1
  go_wp2_with fail
  clear d0 d0n d1 d1n d2 d3 d3n d4 d5
  go_loopw [7, 8] (fun v7 v8 wr => wr = w1 ∧ ∃ k : Nat, k ≤ n ∧ v8 = .int .i64 (k : Int) ∧ v7 = .string ⟨(List.replicate k 48).toArray⟩) (fun _ v8 _ => n - (intOf v8).toNat)
  case atStart => exact ⟨rfl, 0, Nat.zero_le _, rfl, rfl⟩
  case round =>
    obtain ⟨rfl, k, hk, rfl, rfl⟩ := hrel
    by_cases hlt : k < n
    · have d1 := lt_t12 hlt
      have d1n := ltn_t12 hlt
      obtain ⟨t, ht⟩ : ∃ t : List UInt8, t = List.replicate k 48 := ⟨_, rfl⟩
      rw [← ht]
      have htl : t.length = k := by rw [ht, List.length_replicate]
      have hsum : ¬ 9223372036854775807 < t.length + 1 := by have := HN.out; omega
      have hc := cat_s12 t [48]
      have HT : Hid (t ++ [48] = List.replicate (k + 1) 48) := show _ = _ by rw [ht, List.replicate_succ']
      have HZK : Hid (wrap64 ((k : Int) + 1) = ((k + 1 : Nat) : Int)) := show _ = _ by have := HN.out; unfold wrap64; omega
      have HK : Hid (k < n) := hlt
      clear htl hlt hk ht
      go_wp2_with fail
      go_roundw
      case rel => exact ⟨trivial, k + 1, HK.out, by rw [HZK.out], by rw [HT.out]⟩
      case measure => rw [HZK.out]; clear d1 d1n hsum hc; exact meas12 HK.out
    · obtain rfl : k = n := by omega
      have d1 := lt_f12 (Nat.le_refl k)
      have d1n := ltn_f12 (Nat.le_refl k)
      rw [← HSE.out]
      clear hlt hk
      go_wp2_with fail
      refine (cP1.out _ HL1.out).mono ?_
      rintro r w2 ⟨⟨a, ok, rfl, hA⟩, hB2⟩
      have HA := Lib.hid hA
      have HL2 := Lib.hid (HL1.out.after hB2)
      have HB2 : Hid (Below w.heap.size w w2) := HB1.out.trans (hB2.mono HB1.out.size)
      clear hB2 hA
      have hs1 := HS1.out
      have hc1 := HCAT1.out
      go_wp2_with fail
      refine (cP2.out _ HL2.out).mono ?_
      rintro r w3 ⟨⟨b, is, rfl, hA'⟩, hB3⟩
      rw [HD.out] at hA'
      obtain ⟨rfl, rfl⟩ := ans_behind HLD.out.1 HLD.out.2 HA.out hA'
      have HL3 := Lib.hid (HL2.out.after hB3)
      have HB3 : Hid (Below w.heap.size w w3) := HB2.out.trans (hB3.mono HB2.out.size)
      clear hB3 hA' hs1 hc1
      have hs2 := HS2.out
      have hc2 := HCAT2.out
      have z1 := HZ.out
      go_wp2_with fail
      refine (cP3.out _ HL3.out).mono ?_
      rintro r w4 ⟨⟨c, on, rfl, hA'⟩, hB4⟩
      rw [HF.out] at hA'
      obtain ⟨rfl, rfl⟩ := ans_ahead HLD.out.1 HLD.out.2 HA.out hA'
      have HB4 : Hid (Below w.heap.size w w4) := HB3.out.trans (hB4.mono HB3.out.size)
      clear hB4 hA' hs2 hc2 HA
      go_wp2_with fail
      go_ret
      exact ⟨by simp, HB4.out⟩

theorem noughts12_any (d : List UInt8) (x n : Int) (w : World) (hL : L12 w) (cL : Hid (Lexes [48, 46, 49])) :
    Calls Tryd.prog 6 #[.string ⟨d.toArray⟩, .int .i64 x, .int .i64 n] w fun r w' => r = .returned (.bool true) ∧ Below w.heap.size w w' := by
  by_cases h1 : d.length < 1
  · exact noughts12_out d x n w hL cL (.inl (decide_eq_true (by omega)))
  have e1 : decide ((d.length : Int) < 1) = false := decide_eq_false (by omega)
  by_cases h2 : 200 < d.length
  · exact noughts12_out d x n w hL cL (.inr (.inl ⟨e1, decide_eq_true (by omega), decide_eq_true h2⟩))
  have e2 : decide (200 < (d.length : Int)) = false := decide_eq_false (by omega)
  have e2n : decide (200 < d.length) = false := decide_eq_false h2
  by_cases h3 : n < 0
  · exact noughts12_out d x n w hL cL (.inr (.inr ⟨e1, e2, e2n, .inl (decide_eq_true h3)⟩))
  by_cases h4 : 90 < n
  · exact noughts12_out d x n w hL cL (.inr (.inr ⟨e1, e2, e2n, .inr (.inl ⟨decide_eq_false h3, decide_eq_true h4⟩)⟩))
  by_cases h5 : x < -2000
  · exact noughts12_out d x n w hL cL (.inr (.inr ⟨e1, e2, e2n, .inr (.inr ⟨decide_eq_false h3, decide_eq_false h4, .inl (decide_eq_true h5)⟩)⟩))
  by_cases h6 : 2000 < x
  · exact noughts12_out d x n w hL cL (.inr (.inr ⟨e1, e2, e2n, .inr (.inr ⟨decide_eq_false h3, decide_eq_false h4, .inr ⟨decide_eq_false h5, decide_eq_true h6⟩⟩)⟩))
  obtain ⟨k, rfl⟩ : ∃ k : Nat, n = (k : Int) := ⟨n.toNat, by omega⟩
  exact noughts12_in d x k w hL cL (by omega) (by omega) (by omega) (by omega)

end Go.Proofs.YtemkllnnemadeaaDoor

namespace Go.Proofs.YtemkllnnemadeaaDoor
open Go.RowKit
open Go.Lib (itoa)

set_option maxHeartbeats 1000000 in
theorem whole12_any (v : Int) (w : World) (hv : -9223372036854775808 ≤ v ∧ v ≤ 9223372036854775807) (hL : L12 w) (cL : Hid (Lexes [48, 46, 49])) (cX : Lexes (itoa v)) (q : Nat) (c : Bool) (hq : c = true → ∃ r, joinP v.natAbs 0 = some r ∧ q = pat (decide (v < 0)) r)
    (cO : Hid (∀ w, Calls Tryd.prog 13 #[.int .i64 v] w fun r w' => r = .returned (.tuple #[.int .u64 (q : Int), .bool c]) ∧ w' = w))
    (cI : Hid (∀ w, Calls Tryd.prog 14 #[.int .i64 v] w fun r w' => r = .returned (.string ⟨(itoa v).toArray⟩) ∧ Below w.heap.size w w')) :
    Calls Tryd.prog 7 #[.int .i64 v] w fun r w' => r = .returned (.bool true) ∧ Below w.heap.size w w' := by
  have HL := Lib.hid hL
  have cA := Lib.hid fun w hL => awake_any w hL cL
  have hsh := itoa_short (v := v) (by omega)
  have cP := Lib.hid fun w hL => parse_ans (itoa v) w (by omega) hL (Lib.hid cX)
  have HV : Hid (v.natAbs ≤ 9223372036854775808) := show _ ≤ _ by omega
  have HQ := Lib.hid hq
  clear hL cL hv cX hsh hq
  obtain ⟨t, ht⟩ : ∃ t, t = itoa v := ⟨_, rfl⟩
  rw [← ht] at cI cP
  have HT := Lib.hid ht
  clear ht
  go_enter Tryd.func7, Tryd.ntmps7
  go_wp2_with fail
  refine (cA.out _ HL.out).mono ?_
  rintro r w1 ⟨rfl, hB1⟩
  have HB1 := Lib.hid hB1
  have HL1 := Lib.hid (HL.out.after hB1)
  clear hB1
  go_wp2_with fail
  refine (cO.out _).mono ?_
  rintro r w2 ⟨rfl, hw⟩; subst w2
  go_wp2_with fail
  refine (cI.out _).mono ?_
  rintro r w3 ⟨rfl, hB3⟩
  have HL3 := Lib.hid (HL1.out.after hB3)
  have HB3 : Hid (Below w.heap.size w w3) := HB1.out.trans (hB3.mono HB1.out.size)
  clear hB3
  go_wp2_with fail
  refine (cP.out _ HL3.out).mono ?_
  rintro r w4 ⟨⟨a, e, rfl, hA⟩, hB4⟩
  have HB4 : Hid (Below w.heap.size w w4) := HB3.out.trans (hB4.mono HB3.out.size)
  rw [HT.out] at hA
  obtain ⟨rfl, h2⟩ := parse_whole HV.out hA
  have hcc : c = false ∨ (c = true ∧ q = a) := by
    cases c with
    | false => exact .inl rfl
    | true =>
      obtain ⟨r, hr, hqr⟩ := HQ.out rfl
      exact .inr ⟨rfl, hqr.trans (h2 r hr)⟩
  clear hA h2 hB4
  rcases hcc with rfl | ⟨rfl, rfl⟩
  all_goals
    go_wp2_with fail
    go_ret
    exact ⟨by first | rfl | simp, HB4.out⟩

end Go.Proofs.YtemkllnnemadeaaDoor

namespace Go.Proofs.YtemkllnnemadeaaDoor
open Go.RowKit
open Go.Lib (itoa)

theorem str_list (a : ByteArray) : a = ⟨a.data.toList.toArray⟩ := by cases a; simp
theorem lexes_any (s : List UInt8) (h : s.length ≤ 1000000000) : Lexes s := fun w => refLexeme_any s h w
theorem lexes_tenth : Hid (Lexes [48, 46, 49]) := Lib.hid (lexes_any _ (by decide))

theorem reads12_walk (a : ByteArray) (x : Int) (w : World) (hx : -9223372036854775808 ≤ x ∧ x ≤ 9223372036854775807) (hL : L12 w) :
    Calls Tryd.prog 3 #[.string a, .int .i64 x] w fun r w' => r = .returned (.bool true) ∧ Below w.heap.size w w' := by
  rw [str_list a]
  exact reads12_any _ x w hx hL lexes_tenth
theorem parses12_walk (a : ByteArray) (w : World) (hL : L12 w) :
    Calls Tryd.prog 4 #[.string a] w fun r w' => r = .returned (.bool true) ∧ Below w.heap.size w w' := by
  rw [str_list a]
  exact parses12_any _ w hL lexes_tenth (fun h => lexes_any _ (by omega))
theorem rises12_walk (a b : ByteArray) (x : Int) (w : World) (hL : L12 w) :
    Calls Tryd.prog 5 #[.string a, .string b, .int .i64 x] w fun r w' => r = .returned (.bool true) ∧ Below w.heap.size w w' := by
  rw [str_list a, str_list b]
  exact rises12_any _ _ x w hL lexes_tenth
theorem noughts12_walk (a : ByteArray) (x n : Int) (w : World) (hL : L12 w) :
    Calls Tryd.prog 6 #[.string a, .int .i64 x, .int .i64 n] w fun r w' => r = .returned (.bool true) ∧ Below w.heap.size w w' := by
  rw [str_list a]
  exact noughts12_any _ x n w hL lexes_tenth
theorem whole12_walk (v : Int) (w : World) (hv : -9223372036854775808 ≤ v ∧ v ≤ 9223372036854775807) (hL : L12 w) :
    Calls Tryd.prog 7 #[.int .i64 v] w fun r w' => r = .returned (.bool true) ∧ Below w.heap.size w w' := by
  have hs := itoa_short (v := v) (by omega)
  refine whole12_any v w hv hL lexes_tenth (lexes_any _ (by omega)) _ _ ?_ (Lib.hid fun w => ofInt_any v hv w) (Lib.hid fun w => refInt_any v hv.1 hv.2 w)
  intro h
  cases hj : joinP v.natAbs 0 with
  | none => rw [hj] at h; cases h
  | some r => exact ⟨r, rfl, rfl⟩

end Go.Proofs.YtemkllnnemadeaaDoor
