/-
  What the package-level variables hold that near's calls lean on: the library's table of 64 bytes, some number of the library's; no condition beyond what each lemma asks.
  What the program's Lexeme, Text and Parse do; no condition but the texts' lengths, and that the package-level variables hold what the statement lists.
-/
import Derived.Test.YtojpfmlmalmlcaaGreatDoorNDbl
import Derived.Test.YtojpfmlmalmlcaaGreatDoorNLook
namespace Go.Proofs.YtojpfmlmalmlcaaGreatDoor
open Go.RowKit
/-- What whole's calls lean on. -/
structure LaidW (w : World) : Prop where
  most : ∃ m, w.cell? ⟨1, 0, none⟩ = some (.int .i64 m)
  size : 1 < w.heap.size
theorem LaidW.after {w w' : World} (h : LaidW w) (hb : Below w.heap.size w w') : LaidW w' where
  most := by
    obtain ⟨m, hm⟩ := h.most
    exact ⟨m, (hb.cell (p := ⟨1, 0, none⟩) h.size).trans hm⟩
  size := Nat.lt_of_lt_of_le h.size hb.size
end Go.Proofs.YtojpfmlmalmlcaaGreatDoor

namespace Go.Proofs.YtojpfmlmalmlcaaGreatDoor
open Go.RowKit
set_option maxHeartbeats 4000000 in
theorem lexeme_any (s : List UInt8) (hs : s.length ≤ 1000000000) (w : World) (hL : LaidW w) :
    Calls Tryz.prog 29 #[.string ⟨s.toArray⟩] w fun e w' => e = .returned (.int .i64 (lexP s : Int)) ∧ Below w.heap.size w w' := by
  obtain ⟨r, hr⟩ : ∃ r, r = lexP s := ⟨_, rfl⟩
  rw [← hr]
  have hle := plain_le (l := s)
  have cE := Lib.hid (fun w => cutExponent_any s hs w)
  unfold lexP at hr
  generalize cutE s = q at hr hle cE
  obtain ⟨f, x, rs⟩ := q
  simp only at hr hle cE
  have hle2 := cutAt_le 46 f
  have cC := Lib.hid (fun (w : World) (hw : LaidW w) => let ⟨_, hm⟩ := hw.most; cut_any f 46 _ w (by omega) hm)
  generalize cutAt 46 f = q at hr hle2 cC
  obtain ⟨o, t, pt⟩ := q
  simp only at hr hle2 cC
  have cT := Lib.hid (fun (w : World) => trim_any o w)
  have cP := Lib.hid (fun (w : World) => isPlain_any (trim o) (by have := trim_le o; omega) w)
  have cD := Lib.hid (fun (w : World) => isDigits_any t (by omega) w)
  have cS := Lib.hid (fun (w : World) => withoutSign_any x (by omega) w)
  have cX := Lib.hid (fun (w : World) => isDigits_any (unsign x) (by have := unsign_le x; omega) w)
  generalize trim o = o2 at hr cT cP
  generalize unsign x = x2 at hr cS cX
  generalize plain o2 = b1 at hr cP
  generalize digs t = b2 at hr cD
  generalize digs x2 = b3 at hr cX
  have HR := Lib.hid hr
  clear hr hle hle2
  cases b1 with
  | false =>
    go_enter Tryz.func29, Tryz.ntmps29
    go_wp2_with (go_at_call 50; refine (cE.out _).mono ?_; rintro e w1 ⟨rfl, hb⟩)
    have hL1 : LaidW w1 := hL.after hb
    go_wp2_with (go_at_call 51; refine (cC.out _ hL1).mono ?_; rintro e w2 ⟨rfl, nn, hw2⟩)
    have hb2 : Below w.heap.size w (w1.drewN nn) := hb.trans ⟨rfl, rfl, rfl, Nat.le_refl _, fun _ _ => rfl⟩
    generalize w1.drewN nn = w3 at hb2 ⊢
    clear hw2
    go_wp2_with (go_at_call 53; refine (cT.out _).mono ?_; rintro e w4 ⟨rfl, hw4⟩; subst hw4)
    go_wp2_with (go_at_call 52; refine (cP.out _).mono ?_; rintro e w5 ⟨rfl, hw5⟩; subst hw5)
    go_wp2_with fail
    go_ret
    exact ⟨by rw [HR.out]; rfl, hb2⟩
  | true =>
    cases pt with
    | false =>
      cases rs with
      | false =>
        go_enter Tryz.func29, Tryz.ntmps29
        go_wp2_with (go_at_call 50; refine (cE.out _).mono ?_; rintro e w1 ⟨rfl, hb⟩)
        have hL1 : LaidW w1 := hL.after hb
        go_wp2_with (go_at_call 51; refine (cC.out _ hL1).mono ?_; rintro e w2 ⟨rfl, nn, hw2⟩)
        have hb2 : Below w.heap.size w (w1.drewN nn) := hb.trans ⟨rfl, rfl, rfl, Nat.le_refl _, fun _ _ => rfl⟩
        generalize w1.drewN nn = w3 at hb2 ⊢
        clear hw2
        go_wp2_with (go_at_call 53; refine (cT.out _).mono ?_; rintro e w4 ⟨rfl, hw4⟩; subst hw4)
        go_wp2_with (go_at_call 52; refine (cP.out _).mono ?_; rintro e w5 ⟨rfl, hw5⟩; subst hw5)
        go_wp2_with fail
        go_ret
        exact ⟨by rw [HR.out]; rfl, hb2⟩
      | true =>
        cases b3
        all_goals (
          go_enter Tryz.func29, Tryz.ntmps29
          go_wp2_with (go_at_call 50; refine (cE.out _).mono ?_; rintro e w1 ⟨rfl, hb⟩)
          have hL1 : LaidW w1 := hL.after hb
          go_wp2_with (go_at_call 51; refine (cC.out _ hL1).mono ?_; rintro e w2 ⟨rfl, nn, hw2⟩)
          have hb2 : Below w.heap.size w (w1.drewN nn) := hb.trans ⟨rfl, rfl, rfl, Nat.le_refl _, fun _ _ => rfl⟩
          generalize w1.drewN nn = w3 at hb2 ⊢
          clear hw2
          go_wp2_with (go_at_call 53; refine (cT.out _).mono ?_; rintro e w4 ⟨rfl, hw4⟩; subst hw4)
          go_wp2_with (go_at_call 52; refine (cP.out _).mono ?_; rintro e w5 ⟨rfl, hw5⟩; subst hw5)
          go_wp2_with (go_at_call 55; refine (cS.out _).mono ?_; rintro e w7 ⟨rfl, hw7⟩; subst hw7)
          go_wp2_with (go_at_call 54; refine (cX.out _).mono ?_; rintro e w8 ⟨rfl, hw8⟩; subst hw8)
          go_wp2_with fail
          go_ret
          exact ⟨by rw [HR.out]; rfl, hb2⟩)
    | true =>
      cases b2 with
      | false =>
        go_enter Tryz.func29, Tryz.ntmps29
        go_wp2_with (go_at_call 50; refine (cE.out _).mono ?_; rintro e w1 ⟨rfl, hb⟩)
        have hL1 : LaidW w1 := hL.after hb
        go_wp2_with (go_at_call 51; refine (cC.out _ hL1).mono ?_; rintro e w2 ⟨rfl, nn, hw2⟩)
        have hb2 : Below w.heap.size w (w1.drewN nn) := hb.trans ⟨rfl, rfl, rfl, Nat.le_refl _, fun _ _ => rfl⟩
        generalize w1.drewN nn = w3 at hb2 ⊢
        clear hw2
        go_wp2_with (go_at_call 53; refine (cT.out _).mono ?_; rintro e w4 ⟨rfl, hw4⟩; subst hw4)
        go_wp2_with (go_at_call 52; refine (cP.out _).mono ?_; rintro e w5 ⟨rfl, hw5⟩; subst hw5)
        go_wp2_with (go_at_call 54; refine (cD.out _).mono ?_; rintro e w6 ⟨rfl, hw6⟩; subst hw6)
        go_wp2_with fail
        go_ret
        exact ⟨by rw [HR.out]; rfl, hb2⟩
      | true =>
        cases rs with
        | false =>
          go_enter Tryz.func29, Tryz.ntmps29
          go_wp2_with (go_at_call 50; refine (cE.out _).mono ?_; rintro e w1 ⟨rfl, hb⟩)
          have hL1 : LaidW w1 := hL.after hb
          go_wp2_with (go_at_call 51; refine (cC.out _ hL1).mono ?_; rintro e w2 ⟨rfl, nn, hw2⟩)
          have hb2 : Below w.heap.size w (w1.drewN nn) := hb.trans ⟨rfl, rfl, rfl, Nat.le_refl _, fun _ _ => rfl⟩
          generalize w1.drewN nn = w3 at hb2 ⊢
          clear hw2
          go_wp2_with (go_at_call 53; refine (cT.out _).mono ?_; rintro e w4 ⟨rfl, hw4⟩; subst hw4)
          go_wp2_with (go_at_call 52; refine (cP.out _).mono ?_; rintro e w5 ⟨rfl, hw5⟩; subst hw5)
          go_wp2_with (go_at_call 54; refine (cD.out _).mono ?_; rintro e w6 ⟨rfl, hw6⟩; subst hw6)
          go_wp2_with fail
          go_ret
          exact ⟨by rw [HR.out]; rfl, hb2⟩
        | true =>
          cases b3
          all_goals (
            go_enter Tryz.func29, Tryz.ntmps29
            go_wp2_with (go_at_call 50; refine (cE.out _).mono ?_; rintro e w1 ⟨rfl, hb⟩)
            have hL1 : LaidW w1 := hL.after hb
            go_wp2_with (go_at_call 51; refine (cC.out _ hL1).mono ?_; rintro e w2 ⟨rfl, nn, hw2⟩)
            have hb2 : Below w.heap.size w (w1.drewN nn) := hb.trans ⟨rfl, rfl, rfl, Nat.le_refl _, fun _ _ => rfl⟩
            generalize w1.drewN nn = w3 at hb2 ⊢
            clear hw2
            go_wp2_with (go_at_call 53; refine (cT.out _).mono ?_; rintro e w4 ⟨rfl, hw4⟩; subst hw4)
            go_wp2_with (go_at_call 52; refine (cP.out _).mono ?_; rintro e w5 ⟨rfl, hw5⟩; subst hw5)
            go_wp2_with (go_at_call 54; refine (cD.out _).mono ?_; rintro e w6 ⟨rfl, hw6⟩; subst hw6)
            go_wp2_with (go_at_call 55; refine (cS.out _).mono ?_; rintro e w7 ⟨rfl, hw7⟩; subst hw7)
            go_wp2_with (go_at_call 54; refine (cX.out _).mono ?_; rintro e w8 ⟨rfl, hw8⟩; subst hw8)
            go_wp2_with fail
            go_ret
            exact ⟨by rw [HR.out]; rfl, hb2⟩)
end Go.Proofs.YtojpfmlmalmlcaaGreatDoor
