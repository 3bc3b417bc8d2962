/-
  The document's Read and ParseNear, each by its one answer. No condition but the texts' lengths and what Lexeme answers.
-/
import Derived.Test.YtemkllnnemadeaaDoorNearAns12
import Derived.Test.YtemkllnnemadeaaDoorParseNa12
import Derived.Test.YtemkllnnemadeaaDoorParseNb12
namespace Go.Proofs.YtemkllnnemadeaaDoor
open Go.RowKit

theorem refRead_ans (ds : List UInt8) (x : Int) (w : World) (hx : -9223372036854775808 ≤ x ∧ x ≤ 9223372036854775807) :
    Calls Tryd.prog 10 #[.string ⟨ds.toArray⟩, .int .i64 x] w fun r w' => (∃ (a : Nat) (b : Bool), r = .returned (.tuple #[.int .u64 (a : Int), .bool b]) ∧ ReadAns ds x a b) ∧ Below w.heap.size w w' := by
  by_cases h1 : 1 ≤ ds.length
  · by_cases h2 : ds.length ≤ 300
    · by_cases h3 : Dgs ds
      · refine (refRead_good ds x w h1 h2 h3 hx).mono ?_
        rintro r w' ⟨⟨p, hp, rfl⟩, hB⟩
        exact ⟨⟨_, _, rfl, .inr ⟨⟨h1, h2, h3⟩, p, hp, rfl, rfl⟩⟩, hB⟩
      · refine (refRead_bad ds x w h1 h2 h3).mono ?_
        rintro r w' ⟨rfl, hw⟩; subst w'
        exact ⟨⟨0, false, rfl, .inl ⟨fun h => h3 h.2.2, rfl, rfl⟩⟩, Below.refl _ _⟩
    · refine (refRead_len ds x w (.inr ⟨by simp; omega, by simp; omega⟩)).mono ?_
      rintro r w' ⟨rfl, hw⟩; subst w'
      exact ⟨⟨0, false, rfl, .inl ⟨fun h => h2 h.2.1, rfl, rfl⟩⟩, Below.refl _ _⟩
  · refine (refRead_len ds x w (.inl (by simp; omega))).mono ?_
    rintro r w' ⟨rfl, hw⟩; subst w'
    exact ⟨⟨0, false, rfl, .inl ⟨fun h => h1 h.1, rfl, rfl⟩⟩, Below.refl _ _⟩

theorem refParse_ans (s : List UInt8) (w : World) (cL : Hid (∀ w, Calls Tryd.prog 25 #[.string ⟨s.toArray⟩] w fun x w' => x = .returned (.int .i64 (lexD s : Int)) ∧ Below w.heap.size w w')) :
    Calls Tryd.prog 12 #[.string ⟨s.toArray⟩] w fun r w' => (∃ (a : Nat) (e : Int), r = .returned (.tuple #[.int .u64 (a : Int), .int .i64 e]) ∧ ParseAns s a e) ∧ Below w.heap.size w w' := by
  have hlex := lexD_eq s
  by_cases h0 : lexP s = 0
  · rw [hlex, h0] at cL
    refine (parseN_form s w cL).mono ?_
    rintro r w' ⟨rfl, hB⟩
    exact ⟨⟨0, 3, rfl, .inl ⟨h0, rfl, rfl⟩⟩, hB⟩
  · have hk : ((lexD s : Int) == 0) = false := by rw [hlex]; simp only [beq_eq_false_iff_ne]; omega
    by_cases h1 : 300 < s.length
    · refine (parseN_long s _ w hk h1 cL).mono ?_
      rintro r w' ⟨rfl, hB⟩
      exact ⟨⟨0, 10, rfl, .inr (.inl ⟨h0, h1, rfl, rfl⟩)⟩, hB⟩
    · obtain ⟨neg, ip, fp, E, hj⟩ := jn_of h0
      cases neg with
      | true =>
        refine (parseN_neg s _ w hk (by omega) ip fp E hj cL).mono ?_
        rintro r w' ⟨⟨p, hp, rfl⟩, hB⟩
        exact ⟨⟨_, _, rfl, .inr (.inr ⟨h0, by omega, true, ip, fp, E, hj, p, hp, rfl, rfl⟩)⟩, hB⟩
      | false =>
        refine (parseN_pos s _ w hk (by omega) ip fp E hj cL).mono ?_
        rintro r w' ⟨⟨p, hp, rfl⟩, hB⟩
        exact ⟨⟨_, _, rfl, .inr (.inr ⟨h0, by omega, false, ip, fp, E, hj, p, hp, rfl, rfl⟩)⟩, hB⟩

/-! ### The document's two examples -/
theorem vN_word {p r q : Nat} (h : ¬ p < 4503599627370496) (hr : p % 4503599627370496 = r) (hq : p / 4503599627370496 - 1 = q) : vN p = (4503599627370496 + r) * uu q := by
  rw [vN_at h hr hq]; rfl
theorem tenth_near {p : Nat} (h : NearIs (dA [48, 49] 1) (dB [48, 49] 1) p) : p = 4591870180066957722 := by
  have e1 : dA [48, 49] 1 = uu 1074 := by
    unfold dA
    rw [show nd [48, 49] = 1 by decide, show ((1 : Int) - (([48, 49] : List UInt8).length : Int)).toNat = 0 by decide]
    first | done | (generalize uu 1074 = U; simp; done)
  have e2 : dB [48, 49] 1 = 10 := by decide
  rw [e1, e2] at h
  obtain ⟨n, hn⟩ : ∃ n, n = 1074 := ⟨_, rfl⟩
  rw [← hn] at h
  have e3 : uu n = 72057594037927936 * uu 1018 := by
    have : n = 56 + 1018 := by omega
    rw [this, uu_add, show uu 56 = 72057594037927936 by decide]
  refine near_one (by decide) h ?_
  have v1 : vN 4591870180066957721 = (4503599627370496 + 2702159776422297) * uu 1018 := vN_word (by decide) (by decide) (by decide)
  have v2 : vN (4591870180066957721 + 1) = (4503599627370496 + 2702159776422298) * uu 1018 := vN_word (by decide) (by decide) (by decide)
  have hp := uu_pos 1018
  refine near_hi (lo := 4591870180066957721) (by decide) (by decide) (.inr ?_) (.inl ?_)
  · rw [v2, e3]
    generalize uu 1018 = U at *
    omega
  · rw [v1, v2, e3]
    generalize uu 1018 = U at *
    omega
theorem half_near {p : Nat} (h : NearIs (dA [53] 0) (dB [53] 0) p) : p = 4602678819172646912 := by
  have e1 : dA [53] 0 = 5 * uu 1074 := by
    unfold dA
    rw [show nd [53] = 5 by decide, show ((0 : Int) - (([53] : List UInt8).length : Int)).toNat = 0 by decide]
    first | done | (generalize uu 1074 = U; simp; done)
  have e2 : dB [53] 0 = 10 := by decide
  rw [e1, e2] at h
  obtain ⟨n, hn⟩ : ∃ n, n = 1074 := ⟨_, rfl⟩
  rw [← hn] at h
  refine near_one (by decide) h (near_exact (by decide) (by decide) ?_)
  have v1 : vN 4602678819172646912 = (4503599627370496 + 0) * uu 1021 := vN_word (by decide) (by decide) (by decide)
  have e3 : uu n = 9007199254740992 * uu 1021 := by
    have : n = 53 + 1021 := by omega
    rw [this, uu_add, show uu 53 = 9007199254740992 by decide]
  rw [v1, e3]
  generalize uu 1021 = U
  omega
theorem jn_tenth : JN [48, 46, 49] false [48] [49] 0 := ⟨[46, 49], [], rfl, by decide, .inr ⟨rfl, by decide⟩, .inl ⟨rfl, rfl⟩⟩
theorem parse_tenth {a : Nat} {e : Int} (h : ParseAns [48, 46, 49] a e) : a = 4591870180066957722 ∧ e = 0 := by
  rcases h with ⟨h0, _⟩ | ⟨_, h1, _⟩ | ⟨_, _, n, ip, fp, E, hj, p, hp, rfl, rfl⟩
  · exact absurd h0 (by decide)
  · exact absurd h1 (by decide)
  · obtain ⟨rfl, rfl, rfl, rfl⟩ := jn_one hj jn_tenth
    have hp2 : NearIs (dA [48, 49] 1) (dB [48, 49] 1) p := hp
    cases tenth_near hp2
    exact ⟨rfl, rfl⟩
theorem read_half {a : Nat} {b : Bool} (h : ReadAns [53] 0 a b) : a = 4602678819172646912 ∧ b = true := by
  have hd : Dgs [53] := by
    intro c hc
    have : c = 53 := by simpa using hc
    rw [this]
    exact ⟨by decide, by decide⟩
  rcases h with ⟨h0, _⟩ | ⟨_, p, hp, rfl, rfl⟩
  · exact absurd ⟨by decide, by decide, hd⟩ h0
  · cases half_near hp
    exact ⟨rfl, rfl⟩

end Go.Proofs.YtemkllnnemadeaaDoor
