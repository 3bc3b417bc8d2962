/-
  What the document's Parse does with every text (chapter 16).
-/
import Derived.Test.YthkcaogohkgheaaDoorRefQ16
import Derived.Test.YthkcaogohkgheaaDoorWhenI16
namespace Go.Proofs.YthkcaogohkgheaaDoor
set_option maxRecDepth 100000
open Go.RowKit

theorem bne_iff {a : UInt8} {b : Nat} (hb : b < 256) : ((a.toNat : Int) != (b : Int)) = false ↔ a = UInt8.ofNat b := by
  rw [bne_eq_false_iff_eq]
  constructor
  · intro h
    rw [← UInt8.toNat_inj, UInt8.toNat_ofNat']
    omega
  · intro h
    rw [h, UInt8.toNat_ofNat']
    omega
theorem num_lt {l : List UInt8} {n : Nat} (h : l.length = n) (hn : n ≤ 4) : numW l < 10000 := by
  unfold numW
  split
  · rename_i g
    have q := val_lt l g
    have : 10 ^ l.length ≤ 10 ^ 4 := Nat.pow_le_pow_right (by decide) (by omega)
    omega
  · omega
set_option maxHeartbeats 2000000 in
theorem refParse_any16 (s : List UInt8) (w : World) :
    Calls Tryd.prog 11 #[.string ⟨s.toArray⟩] w fun e w' => e = .returned (ansV (pW s)) ∧ Below w.heap.size w w' := by
  cases hF : fracW s with
  | none =>
    have e : pW s = none := by unfold pW; rw [hF]
    rw [e]
    refine (parse16_none s hF w).mono ?_
    rintro e w' ⟨rfl, rfl⟩
    exact ⟨rfl, Below.refl _ _⟩
  | some F =>
    have e : pW s = if goodW s F then some (timeW s F) else none := by unfold pW; rw [hF]
    have hsh : (s.length = 24 ∧ byteW s 19 = 46 ∧ byteW s 23 = 90 ∧ F = numW (fld s 20 23)) ∨ (s.length = 20 ∧ byteW s 19 = 90 ∧ F = 0) := by
      unfold fracW at hF
      split at hF
      · rename_i g
        exact .inl ⟨g.1, g.2.1, g.2.2, (Option.some.inj hF).symm⟩
      · split at hF
        · cases hF
        · rename_i g
          exact .inr ⟨Classical.byContradiction fun n => g (.inl n), Classical.byContradiction fun n => g (.inr n), (Option.some.inj hF).symm⟩
    have h20 : 20 ≤ s.length := by omega
    have lf : ∀ a b : Nat, b ≤ 20 → b - a ≤ 4 → (fld s a b).length ≤ 10 := fun a b h1 h2 => by rw [fld_length (by omega)]; omega
    have by' : numW (fld s 0 4) < 10000 := num_lt (fld_length (by omega)) (by decide)
    have bf : F ≤ 999 := by
      rcases hsh with ⟨g, _, _, rfl⟩ | ⟨_, _, rfl⟩
      · unfold numW
        split
        · rename_i q
          have := val_bound (by omega) q
          omega
        · decide
      · decide
    have cQ : (decide (numW (fld s 0 4) < 1970)) = false → (decide (numW (fld s 5 7) < 1)) = false → (decide (12 < numW (fld s 5 7))) = false → ∀ w, Calls Tryd.prog 17 #[.int .i64 (numW (fld s 0 4)), .int .i64 (numW (fld s 5 7))] w fun e w' => e = .returned (.int .i64 ((mdy (numW (fld s 0 4)).toNat (numW (fld s 5 7)).toNat : Nat) : Int)) ∧ w' = w := by
      intro h1 h2 h3 w
      have h1 := of_decide_eq_false h1
      have h2 := of_decide_eq_false h2
      have h3 := of_decide_eq_false h3
      have := refDays_any (numW (fld s 0 4)).toNat (numW (fld s 5 7)).toNat (by omega) (by omega) w
      rw [show (((numW (fld s 0 4)).toNat : Nat) : Int) = numW (fld s 0 4) by omega, show (((numW (fld s 5 7)).toNat : Nat) : Int) = numW (fld s 5 7) by omega] at this
      exact this
    have G : ∀ b : Bool, b = (((byteW s 4).toNat : Int) != 45 || ((byteW s 7).toNat : Int) != 45 || ((byteW s 10).toNat : Int) != 84 || ((byteW s 13).toNat : Int) != 58 || ((byteW s 16).toNat : Int) != 58 || decide (numW (fld s 0 4) < 1970) || decide (numW (fld s 5 7) < 1) || decide (12 < numW (fld s 5 7)) || decide (numW (fld s 8 10) < 1) || decide (((mdy (numW (fld s 0 4)).toNat (numW (fld s 5 7)).toNat : Nat) : Int) < numW (fld s 8 10)) || decide (numW (fld s 11 13) < 0) || decide (23 < numW (fld s 11 13)) || decide (numW (fld s 14 16) < 0) || decide (59 < numW (fld s 14 16)) || decide (numW (fld s 17 19) < 0) || decide (59 < numW (fld s 17 19)) || decide (F < 0)) → (b = false ↔ goodW s F) := by
      intro b hb
      rw [hb]
      simp only [Bool.or_eq_false_iff, decide_eq_false_iff_not]
      unfold goodW
      have z4 := bne_iff (a := byteW s 4) (b := 45) (by decide)
      have z7 := bne_iff (a := byteW s 7) (b := 45) (by decide)
      have z10 := bne_iff (a := byteW s 10) (b := 84) (by decide)
      have z13 := bne_iff (a := byteW s 13) (b := 58) (by decide)
      have z16 := bne_iff (a := byteW s 16) (b := 58) (by decide)
      constructor
      · rintro ⟨⟨⟨⟨⟨⟨⟨⟨⟨⟨⟨⟨⟨⟨⟨⟨c1, c2⟩, c3⟩, c4⟩, c5⟩, c6⟩, c7⟩, c8⟩, c9⟩, c10⟩, c11⟩, c12⟩, c13⟩, c14⟩, c15⟩, c16⟩, c17⟩
        exact ⟨z4.1 c1, z7.1 c2, z10.1 c3, z13.1 c4, z16.1 c5, by omega, by omega, by omega, by omega, by omega, by omega, by omega, by omega, by omega, by omega, by omega, by omega⟩
      · rintro ⟨c1, c2, c3, c4, c5, c6, c7, c8, c9, c10, c11, c12, c13, c14, c15, c16, c17⟩
        exact ⟨⟨⟨⟨⟨⟨⟨⟨⟨⟨⟨⟨⟨⟨⟨⟨z4.2 c1, z7.2 c2⟩, z10.2 c3⟩, z13.2 c4⟩, z16.2 c5⟩, by omega⟩, by omega⟩, by omega⟩, by omega⟩, by omega⟩, by omega⟩, by omega⟩, by omega⟩, by omega⟩, by omega⟩, by omega⟩, by omega⟩
    obtain ⟨b, hb⟩ : ∃ b : Bool, b = _ := ⟨_, rfl⟩
    have Gb := G b hb
    refine parse16_test s F w h20 _ _ _ _ _ _ _ _ _ _ _ _ _ _ _ _ _ _ _ _ _ _ _ _ _ _ _ _ _ b (ansV (pW s)) ?_ ?_ ?_ ?_ ?_ ?_ rfl rfl rfl rfl rfl rfl rfl rfl rfl rfl rfl rfl rfl rfl rfl rfl rfl rfl rfl rfl rfl rfl (Lib.hid cQ) ?_ (Lib.hid hb) ?_ ?_
    · exact Lib.hid fun w => refNumber_any16 _ (lf 0 4 (by decide) (by decide)) w
    · exact Lib.hid fun w => refNumber_any16 _ (lf 5 7 (by decide) (by decide)) w
    · exact Lib.hid fun w => refNumber_any16 _ (lf 8 10 (by decide) (by decide)) w
    · exact Lib.hid fun w => refNumber_any16 _ (lf 11 13 (by decide) (by decide)) w
    · exact Lib.hid fun w => refNumber_any16 _ (lf 14 16 (by decide) (by decide)) w
    · exact Lib.hid fun w => refNumber_any16 _ (lf 17 19 (by decide) (by decide)) w
    · rcases hsh with ⟨g1, g2, g3, rfl⟩ | ⟨g1, g2, rfl⟩
      · exact .inl ⟨g1, g2, g3, Lib.hid fun w => refNumber_any16 _ (by rw [fld_length (by omega)]; decide) w⟩
      · exact .inr ⟨g1, g2, rfl⟩
    · refine Lib.hid fun h => ?_
      rw [e, if_neg (fun g => by rw [Gb.2 g] at h; cases h)]
      rfl
    · refine Lib.hid fun h => ?_
      have g := Gb.1 h
      rw [e, if_pos g]
      obtain ⟨a1, a2, a3, a4, a5, b1, b2, b3, b4, b5, b6, b7, b8, b9, b10, b11, b12⟩ := g
      unfold timeW
      generalize numW (fld s 0 4) = Y at *
      generalize numW (fld s 5 7) = M at *
      generalize numW (fld s 8 10) = D at *
      generalize numW (fld s 11 13) = H at *
      generalize numW (fld s 14 16) = I at *
      generalize numW (fld s 17 19) = C at *
      refine ⟨Y.toNat - 1970, M.toNat - 1, D.toNat - 1, H.toNat, I.toNat, C.toNat, F.toNat, by omega, by omega, by omega, by omega, by omega, by omega, by omega, ⟨by omega, ?_⟩, by omega, by omega, by omega, by omega, by omega, ?_⟩
      · rw [show 1970 + (Y.toNat - 1970) = Y.toNat by omega, show M.toNat - 1 + 1 = M.toNat by omega]
        omega
      · generalize dnum (Y.toNat - 1970) (M.toNat - 1) (D.toNat - 1) = N
        unfold ansV
        rw [show (((((N * 24 + H.toNat) * 60 + I.toNat) * 60 + C.toNat) * 1000 + F.toNat : Nat) : Int) = ((((N : Nat) : Int) * 24 + H) * 60 + I) * 60000 + C * 1000 + F by omega]
        rfl
end Go.Proofs.YthkcaogohkgheaaDoor
