/-
  What the document's ParseInt and run do; no condition but the text's length.
-/
import Derived.Test.YtbdkkkcpoaeojaaDoorRefB10
namespace Go.Proofs.YtbdkkkcpoaeojaaDoor
open Go.RowKit
open Go.Lib (decDigits itoa)

theorem low_facts {u : Nat} (h0 : u ≠ 0) (h1 : u ≤ 9223372036854775808) : ∃ m p : Int, IntKind.u64.wrap ((u : Int) - 1) = m ∧ IntKind.i64.wrap m = m ∧ IntKind.i64.wrap (-m) = p ∧ IntKind.i64.wrap (p - 1) = -(u : Int) := by
  refine ⟨(u : Int) - 1, -((u : Int) - 1), ?_, ?_, ?_, ?_⟩
  · rw [IntKind.wrap_u64]; omega
  · rw [IntKind.wrap_i64]; omega
  · rw [IntKind.wrap_i64]; omega
  · rw [IntKind.wrap_i64]; omega
theorem high_fact {u : Nat} (h1 : u ≤ 9223372036854775807) : IntKind.i64.wrap (u : Int) = (u : Int) := by
  rw [IntKind.wrap_i64]; omega

def negR : Option Nat → Option Int
  | some u => if u = 0 then none else some (-(u : Int))
  | none => none
theorem refP_neg {s : List UInt8} (h : s ≠ [] ∧ s.getD 0 0 = 45) : refP s = negR (numM 9223372036854775808 (s.drop 1)) := by
  rw [refP, if_pos h]
  cases numM 9223372036854775808 (s.drop 1) <;> rfl

set_option maxHeartbeats 400000 in
theorem refParse_any (s : List UInt8) (hs : s.length ≤ 1000000000) (w : World) :
    Calls Tryd.prog 10 #[.string ⟨s.toArray⟩] w fun x w' => x = .returned (parR (refP s)) ∧ w' = w := by
  obtain ⟨r, hr⟩ : ∃ r, r = refP s := ⟨_, rfl⟩
  rw [← hr]
  by_cases hm : s ≠ [] ∧ s.getD 0 0 = 45
  · have hpos : 0 < s.length := List.length_pos_iff.2 hm.1
    have d0 : decide (0 < (s.length : Int)) = true := by simp; omega
    have d0n : decide (0 < s.length) = true := by simpa using hpos
    have x0 := fun (w : World) => at_txt s .i64 0 0 rfl hpos w
    rw [hm.2] at x0
    have x1 := fun (w : World) => slice_from s 1 1 rfl (by omega) w
    have c : ∀ w, Calls Tryd.prog 17 #[.string ⟨(s.drop 1).toArray⟩, .int .u64 9223372036854775808] w fun x w' => x = .returned (u64R (numM 9223372036854775808 (s.drop 1))) ∧ w' = w := fun w => refNumber_any 9223372036854775808 (by decide) (by decide) (s.drop 1) w (by rw [List.length_drop]; omega)
    have hle : ∀ {r}, numM 9223372036854775808 (s.drop 1) = some r → r ≤ 9223372036854775808 := fun h => numM_le (by decide) h
    have HR : Hid (r = negR (numM 9223372036854775808 (s.drop 1))) := show _ = _ by rw [hr, refP_neg hm]
    clear hr hm hpos
    generalize numM 9223372036854775808 (s.drop 1) = q at c hle HR
    generalize s.drop 1 = t at x1 c
    have C := Lib.hid c
    clear c
    cases q with
    | none =>
      have HE : Hid (r = none) := HR
      clear HR hle
      go_enter Tryd.func10, Tryd.ntmps10
      go_wp2_with (go_at_call 17; refine (C.out _).mono ?_; rintro e w1 ⟨rfl, hw1⟩; subst hw1; unfold u64R)
      go_wp2_with fail
      go_ret2
      exact ⟨parR_none HE.out, rfl⟩
    | some u =>
      by_cases hu : u = 0
      · subst hu
        have HE : Hid (r = none) := HR
        clear HR hle
        go_enter Tryd.func10, Tryd.ntmps10
        go_wp2_with (go_at_call 17; refine (C.out _).mono ?_; rintro e w1 ⟨rfl, hw1⟩; subst hw1; unfold u64R)
        go_wp2_with fail
        go_ret2
        exact ⟨parR_none HE.out, rfl⟩
      · have HE : Hid (r = some (-(u : Int))) := show _ = _ by rw [HR.out]; simp [negR, hu]
        have hul := hle rfl
        obtain ⟨m, p, y1, y2, y3, y4⟩ := low_facts hu hul
        have e0 : ((u : Int) == 0) = false := beq_eq_false_iff_ne.2 (by omega)
        have HU0 := Lib.hid hu
        clear HR hle hul hu
        go_enter Tryd.func10, Tryd.ntmps10
        go_wp2_with (go_at_call 17; refine (C.out _).mono ?_; rintro e w1 ⟨rfl, hw1⟩; subst hw1; unfold u64R)
        go_wp2_with fail
        go_ret2
        exact ⟨parR_some HE.out, rfl⟩
  · by_cases h0 : s = []
    · subst h0
      have HE : Hid (r = none) := hr
      have C : Hid (∀ w, Calls Tryd.prog 17 #[.string ⟨#[]⟩, .int .u64 9223372036854775807] w fun x w' => x = .returned (u64R none) ∧ w' = w) := fun w => refNumber_any 9223372036854775807 (by decide) (by decide) [] w (by decide)
      clear hr hm hs
      go_enter Tryd.func10, Tryd.ntmps10
      go_wp2_with (go_at_call 17; refine (C.out _).mono ?_; rintro e w1 ⟨rfl, hw1⟩; subst hw1; unfold u64R)
      go_wp2_with fail
      go_ret2
      exact ⟨parR_none HE.out, rfl⟩
    have HR : Hid (r = (numM 9223372036854775807 s).map fun u => (u : Int)) := show _ = _ by rw [hr, refP, if_neg hm]
    have c : ∀ w, Calls Tryd.prog 17 #[.string ⟨s.toArray⟩, .int .u64 9223372036854775807] w fun x w' => x = .returned (u64R (numM 9223372036854775807 s)) ∧ w' = w := fun w => refNumber_any 9223372036854775807 (by decide) (by decide) s w hs
    have hle : ∀ {r}, numM 9223372036854775807 s = some r → r ≤ 9223372036854775807 := fun h => numM_le (by decide) h
    have hpos : 0 < s.length := List.length_pos_iff.2 h0
    have d0 : decide (0 < (s.length : Int)) = true := by simp; omega
    have x0 := fun (w : World) => at_txt s .i64 0 0 rfl hpos w
    have d1 : (((s.getD 0 0).toNat : Int) == 45) = false := by
      have h45 : s.getD 0 0 ≠ 45 := fun e => hm ⟨h0, e⟩
      have h2 : (s.getD 0 0).toNat ≠ 45 := fun e => h45 (UInt8.toNat_inj.1 e)
      exact beq_eq_false_iff_ne.2 (by omega)
    generalize s.getD 0 0 = b at x0 d1
    clear hr hm
    generalize numM 9223372036854775807 s = q at c hle HR
    have C := Lib.hid c
    clear c
    cases q with
    | none =>
      have HE : Hid (r = none) := HR
      clear HR hle
      go_enter Tryd.func10, Tryd.ntmps10
      go_wp2_with (go_at_call 17; refine (C.out _).mono ?_; rintro e w1 ⟨rfl, hw1⟩; subst hw1; unfold u64R)
      go_wp2_with fail
      go_ret2
      exact ⟨parR_none HE.out, rfl⟩
    | some u =>
      have HE : Hid (r = some (u : Int)) := HR
      have y := high_fact (hle rfl)
      clear HR hle
      go_enter Tryd.func10, Tryd.ntmps10
      go_wp2_with (go_at_call 17; refine (C.out _).mono ?_; rintro e w1 ⟨rfl, hw1⟩; subst hw1; unfold u64R)
      go_wp2_with fail
      go_ret2
      exact ⟨parR_some HE.out, rfl⟩

end Go.Proofs.YtbdkkkcpoaeojaaDoor
