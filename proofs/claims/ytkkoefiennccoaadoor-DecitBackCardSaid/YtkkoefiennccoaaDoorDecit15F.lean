/-
  What decit's Parse does; no condition but the text's length and what the package-level variables hold.
-/
import Derived.Test.YtkkoefiennccoaaDoorDecit15E
namespace Go.Proofs.YtkkoefiennccoaaDoor
set_option maxRecDepth 100000
open Go.RowKit
open Go.Lib (decDigits itoa)

set_option maxHeartbeats 4000000 in
theorem parse_core (s : List UInt8) (gd : Bool) (n m : Bool) (o b z : List UInt8) (T R : Value) (w : World) (hs : s.length ≤ 1000) (hL : L15 w)
    (h1 : s ≠ [78, 97, 78]) (h2 : s ≠ [73, 110, 102, 105, 110, 105, 116, 121]) (h3 : s ≠ [45, 73, 110, 102, 105, 110, 105, 116, 121])
    (cO : Hid (∀ w, L15 w → Calls Tryd.prog 12 #[.string ⟨s.toArray⟩] w fun e w' => (∃ (n' : Bool) (o' b' : List UInt8) (m' : Bool) (z' : List UInt8), e = .returned (.tuple #[nv n' o' b' m' z', .bool gd]) ∧ (gd = true → n' = n ∧ o' = o ∧ b' = b ∧ m' = m ∧ z' = z)) ∧ Below w.heap.size w w'))
    (cB : Hid (gd = true → s.length ≤ 300 → ∀ w, Calls Tryd.prog 13 #[nv n o b m z] w fun e w' => e = .returned R ∧ Below w.heap.size w w'))
    (hR : Hid (∃ a c e : Int, R = .tuple #[.int .u64 a, .int .u64 c, .int .i64 e]))
    (hT : Hid (T = if gd = false then .tuple #[.int .u64 0, .int .u64 0, .int .i64 3] else if 300 < s.length then .tuple #[.int .u64 0, .int .u64 0, .int .i64 10] else R)) :
    Calls Tryd.prog 6 #[.string ⟨s.toArray⟩] w fun e w' => e = .returned T ∧ Below w.heap.size w w' := by
  have b1 : (s == [78, 97, 78]) = false := beq_eq_false_iff_ne.2 h1
  have b2 : (s == [73, 110, 102, 105, 110, 105, 116, 121]) = false := beq_eq_false_iff_ne.2 h2
  have b3 : (s == [45, 73, 110, 102, 105, 110, 105, 116, 121]) = false := beq_eq_false_iff_ne.2 h3
  have HL := Lib.hid hL
  clear hL
  go_enter Tryd.func6, Tryd.ntmps6
  go_wp2_with fail
  refine (cO.out _ HL.out).mono ?_
  rintro e w1 ⟨⟨n', o', b', m', z', rfl, hg⟩, B1⟩
  clear cO b1 b2 b3 h1 h2 h3
  unfold nv
  have HB1 := Lib.hid B1
  clear B1
  cases gd
  · have HE : Hid (T = .tuple #[.int .u64 0, .int .u64 0, .int .i64 3]) := show _ = _ by rw [hT.out]; rfl
    clear hg
    go_wp2_with fail
    go_ret3
    exact ⟨by rw [HE.out]; rfl, HB1.out.alloc HB1.out.size _⟩
  · obtain ⟨rfl, rfl, rfl, rfl, rfl⟩ := hg rfl
    by_cases hl : 300 < s.length
    · have HE : Hid (T = .tuple #[.int .u64 0, .int .u64 0, .int .i64 10]) := show _ = _ by rw [hT.out, if_neg (by decide), if_pos hl]
      have d1 : decide (300 < (s.length : Int)) = true := decide_eq_true (by omega)
      clear hl hs
      go_wp2_with fail
      go_ret3
      exact ⟨by rw [HE.out]; rfl, HB1.out.alloc HB1.out.size _⟩
    · have HE : Hid (T = R) := show _ = _ by rw [hT.out, if_neg (by decide), if_neg hl]
      have d1 : decide (300 < (s.length : Int)) = false := decide_eq_false (by omega)
      have cB2 := Lib.hid (cB.out rfl (by omega))
      unfold nv at cB2
      clear hl hs cB hT
      obtain ⟨ra, rc, re, hR2⟩ := hR.out
      subst hR2
      go_upto_if 23 with fail
      obtain ⟨V, hV⟩ : ∃ V, V = w1.alloc (Obj.cells #[.bool n', .string ⟨o'.toArray⟩, .string ⟨b'.toArray⟩, .bool m', .string ⟨z'.toArray⟩] 37) := ⟨_, rfl⟩
      have hN : NumAt V w1.heap.size n' o' b' m' z' := by rw [hV]; exact heap_alloc_new _ _
      have HB2 : Hid (Below w.heap.size w V) := by rw [hV]; exact HB1.out.alloc HB1.out.size _
      rw [← hV]
      clear hV HB1
      generalize w1.heap.size = g at *
      have i0 := hN.c0
      have i1 := hN.c1
      have i2 := hN.c2
      have i3 := hN.c3
      have i4 := hN.c4
      clear hN
      go_wp2_with fail
      refine (cB2.out _).mono ?_
      rintro e w2 ⟨rfl, B2⟩
      have HB3 := Lib.hid (low_p HB2.out B2)
      clear B2 cB2 i0 i1 i2 i3 i4
      go_wp2_with fail
      go_ret3
      exact ⟨by rw [HE.out]; rfl, HB3.out⟩

set_option maxHeartbeats 1000000 in
theorem parse_name (s : List UInt8) (T : Value) (w : World)
    (h : (s = [78, 97, 78] ∧ T = .tuple #[.int .u64 8935141660703064064, .int .u64 0, .int .i64 0]) ∨ (s = [73, 110, 102, 105, 110, 105, 116, 121] ∧ T = .tuple #[.int .u64 8646911284551352320, .int .u64 0, .int .i64 0]) ∨ (s = [45, 73, 110, 102, 105, 110, 105, 116, 121] ∧ T = .tuple #[.int .u64 17870283321406128128, .int .u64 0, .int .i64 0])) :
    Calls Tryd.prog 6 #[.string ⟨s.toArray⟩] w fun e w' => e = .returned T ∧ Below w.heap.size w w' := by
  rcases h with ⟨rfl, rfl⟩ | ⟨rfl, rfl⟩ | ⟨rfl, rfl⟩
  all_goals (
    go_enter Tryd.func6, Tryd.ntmps6
    go_wp2_with fail
    go_ret3
    exact ⟨rfl, Below.refl _ _⟩)

theorem pV_is (t : Nat × Nat × Nat) : ∃ a c e : Int, pV t = .tuple #[.int .u64 a, .int .u64 c, .int .i64 e] := ⟨_, _, _, rfl⟩
theorem parse_any15 (s : List UInt8) (hs : s.length ≤ 1000) (w : World) (hL : L15 w) :
    Calls Tryd.prog 6 #[.string ⟨s.toArray⟩] w fun e w' => e = .returned (pV (pAns s)) ∧ Below w.heap.size w w' := by
  by_cases h1 : s = tN
  · exact parse_name s _ w (.inl ⟨h1, by rw [h1, name_ans.1]; rfl⟩)
  by_cases h2 : s = tI
  · exact parse_name s _ w (.inr (.inl ⟨h2, by rw [h2, show tI = sg false ++ tI from rfl, name_ans.2.1]; rfl⟩))
  by_cases h3 : s = 45 :: tI
  · exact parse_name s _ w (.inr (.inr ⟨h3, by rw [h3, show 45 :: tI = sg true ++ tI from rfl, name_ans.2.2]; rfl⟩))
  have hul : (unsign s).length ≤ s.length := unsign_le s
  have hA : pAns s = pNum (minus s) s.length (unsign s) := by
    unfold pAns
    rw [if_neg h1, if_neg h2, if_neg h3]
  rw [hA]
  clear hA
  have cO := Lib.hid fun w h => numberOf_any15 s w hs h
  generalize minus s = mn at *
  generalize unsign s = u at *
  refine parse_core s (goodU u) mn (expN u) (onesOf u) (behindOf u) (expD u) _ (pV (pFind mn (onesOf u ++ behindOf u) (eOf u - ((behindOf u).length : Nat)))) w hs hL h1 h2 h3 cO ?_ (Lib.hid (pV_is _)) ?_
  · refine Lib.hid fun hg hl w => ?_
    unfold goodU at hg
    split at hg
    · cases hg
    simp only [Bool.and_eq_true] at hg
    obtain ⟨⟨a1, a2⟩, a3⟩ := hg
    have l1 := (plain_le (l := u)).1
    have l3 := (plain_le (l := u)).2
    have e1 : (onesOf u).length + (behindOf u).length ≤ (cutE u).1.length := by
      unfold onesOf behindOf
      generalize (cutE u).1 = x
      cases hd : (cutAt 46 x).2.2 with
      | false => obtain ⟨p, q, _⟩ := cutAt_miss hd; rw [p, q]; simp
      | true =>
        have := congrArg List.length (cutAt_hit hd).1
        rw [List.length_append, List.length_cons] at this
        omega
    have e2 : (expD u).length ≤ 300 := by
      unfold expD
      split
      · exact Nat.le_trans (unsign_le _) (by omega)
      · decide
    unfold eOf
    exact bitsOf_any15 mn (expN u) (onesOf u) (behindOf u) (expD u) w (allD_iff.1 a1) (allD_iff.1 a2) (allD_iff.1 a3) (by omega) e2
  · show _ = _
    have hp := litP_eq u
    unfold litP at hp
    unfold pNum
    rw [← hp]
    cases goodU u with
    | false => rw [if_pos rfl]; rfl
    | true =>
      rw [if_pos rfl, if_neg (by decide)]
      show pV (if 300 < s.length then _ else _) = _
      split
      · rfl
      · rfl
end Go.Proofs.YtkkoefiennccoaaDoor
