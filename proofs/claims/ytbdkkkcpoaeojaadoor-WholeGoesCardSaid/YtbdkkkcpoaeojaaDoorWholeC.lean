/-
  What the program's Text and Parse do; no condition but that the package-level variables hold what the statement lists, and of Text that the number is one of 64 bits.
-/
import Derived.Test.YtbdkkkcpoaeojaaDoorWholeB
namespace Go.Proofs.YtbdkkkcpoaeojaaDoor
open Go.RowKit
open Go.Lib (itoa)

theorem text_any (v : Int) (h0 : lowest ≤ v) (h1 : v ≤ highest) (w : World) (hL : Laid w) :
    Calls Tryd.prog 8 #[.int .i64 v] w fun e w' => e = .returned (.string ⟨(itoa v).toArray⟩) ∧ Below w.heap.size w w' := by
  have c := Lib.hid (formatInt_any v h0 h1 w hL.pows)
  generalize itoa v = t at c ⊢
  clear h0 h1
  go_enter Tryd.func8, Tryd.ntmps8
  go_wp2_with (go_at_call 15; refine (c.out).mono ?_; rintro e w1 ⟨rfl, hb⟩)
  go_wp2_with fail
  go_ret
  exact ⟨rfl, hb⟩

/-- A number, or none. -/
def parR : Option Int → Value
  | some v => .tuple #[.int .i64 v, .bool true]
  | none => .tuple #[.int .i64 0, .bool false]
theorem parR_some {r : Option Int} {v : Int} (h : r = some v) : Ending.returned (.tuple #[.int .i64 v, .bool true]) = .returned (parR r) := by rw [h]; rfl
theorem parR_none {r : Option Int} (h : r = none) : Ending.returned (.tuple #[.int .i64 0, .bool false]) = .returned (parR r) := by rw [h]; rfl

set_option maxHeartbeats 2000000 in
theorem parse_any (s : List UInt8) (hs : s.length ≤ 1000000000) (w : World) (hL : Laid w) :
    Calls Tryd.prog 9 #[.string ⟨s.toArray⟩] w fun e w' => e = .returned (parR (pOf s)) ∧ Below w.heap.size w w' := by
  obtain ⟨r, hr⟩ : ∃ r, r = pOf s := ⟨_, rfl⟩
  rw [← hr]
  have HR := Lib.hid hr
  clear hr
  by_cases hl : 20 < s.length
  · have d1 : decide (20 < (s.length : Int)) = true := by simp; omega
    have d1n : decide (20 < s.length) = true := by simpa using hl
    have HE : Hid (r = none) := show _ = _ by rw [HR.out, pOf, if_pos hl]
    have hb := Below.refl w.heap.size w
    clear hl
    go_enter Tryd.func9, Tryd.ntmps9
    go_wp2_with fail
    go_ret2
    exact ⟨parR_none HE.out, hb⟩
  · have d1 : decide (20 < (s.length : Int)) = false := by simp; omega
    have d1n : decide (20 < s.length) = false := by simpa using hl
    have h20 : s.length ≤ 20 := by omega
    rcases num_end (Lib.parseIntB 64 s) with ⟨v, hp⟩ | hp
    · have hbd := Lib.parseIntB_bounds hp
      have h63 : ((2 ^ (64 - 1) : Nat) : Int) = 9223372036854775808 := by decide
      rw [h63] at hbd
      have c := Lib.hid (fun w => parse_ok s h20 hp w)
      have c2 := Lib.hid (fun w hw => text_any v (by unfold lowest; omega) (by unfold highest; omega) w hw)
      by_cases he : itoa v = s
      · have HE : Hid (r = some v) := show _ = _ by rw [HR.out, pOf, if_neg hl, hp]; simp [he]
        have de : (itoa v == s) = true := by simpa using he
        have de2 : (itoa v != s) = false := by simp [he]
        rw [he] at c2
        clear hbd h63 hp he hl
        go_enter Tryd.func9, Tryd.ntmps9
        go_wp2_with (go_at_call 16; refine (c.out _).mono ?_; rintro e w1 ⟨rfl, hb⟩)
        have hL1 := hL.after hb
        go_wp2_with (go_at_call 8; refine (c2.out _ hL1).mono ?_; rintro e w2 ⟨rfl, hb2⟩)
        have hb3 : Below w.heap.size w w2 := hb.trans (hb2.mono hb.size)
        go_wp2_with fail
        go_ret2
        exact ⟨parR_some HE.out, hb3⟩
      · have HE : Hid (r = none) := show _ = _ by rw [HR.out, pOf, if_neg hl, hp]; simp [he]
        have de2 : (itoa v != s) = true := by simpa using he
        generalize itoa v = t at c2 de2 he
        have de3 : ¬ (t = s) := he
        have de4 : (!(t == s)) = true := by simpa using he
        clear hbd h63 hp he hl
        go_enter Tryd.func9, Tryd.ntmps9
        go_wp2_with (go_at_call 16; refine (c.out _).mono ?_; rintro e w1 ⟨rfl, hb⟩)
        have hL1 := hL.after hb
        go_wp2_with (go_at_call 8; refine (c2.out _ hL1).mono ?_; rintro e w2 ⟨rfl, hb2⟩)
        have hb3 : Below w.heap.size w w2 := hb.trans (hb2.mono hb.size)
        go_wp2_with fail
        go_ret2
        exact ⟨parR_none HE.out, hb3⟩
    · have HE : Hid (r = none) := show _ = _ by rw [HR.out, pOf_bad hp]
      have c := Lib.hid (parse_bad s h20 hp w hL.syn hL.ran)
      clear hp hl
      go_enter Tryd.func9, Tryd.ntmps9
      go_wp2_with (go_at_call 16; refine (c.out).mono ?_; rintro e w1 ⟨⟨x, N, rfl⟩, hb⟩)
      go_wp2_with fail
      go_ret2
      exact ⟨parR_none HE.out, hb⟩

end Go.Proofs.YtbdkkkcpoaeojaaDoor
