/-
  What Power does, of the program and of the document. No condition beyond what each contract says.
-/
import Derived.Test.YtcejbkmmiklhbaaUp9
namespace Go.Proofs.Ytcejbkmmiklhbaa
open Go.RowKit

/-- What Power answers. -/
def PowR (b e : Nat) (w : World) (x : Ending) (w' : World) : Prop :=
  Below w.heap.size w w' ∧ ((b ^ e < top ∧ ∃ R k, x = .returned (.tuple #[.slice R (dg (b ^ e)).length k, .bool true]) ∧ Digs w' R (dg (b ^ e)).length (dg (b ^ e))) ∨ (top ≤ b ^ e ∧ x = .returned (.tuple #[.slice none 0 0, .bool false])))
theorem one_top : 1 < top := Nat.lt_trans (by decide) a_top
theorem small_top {b : Nat} (h : b ≤ 65535) : b < top := Nat.lt_trans (show b < 65536 by omega) a_top
theorem pow_up {b m e : Nat} (h : top ≤ b ^ m) (hm : m ≤ e) : top ≤ b ^ e := by
  have hb : 0 < b := by
    rcases Nat.eq_zero_or_pos b with h0 | h0
    · exfalso
      subst h0
      have h1 := one_top
      rcases Nat.eq_zero_or_pos m with h2 | h2
      · subst h2
        simp at h
        omega
      · rw [Nat.zero_pow h2] at h
        omega
    · exact h0
  exact Nat.le_trans h (Nat.pow_le_pow_right hb hm)

theorem inc64 {i e : Nat} (h : i < e) (he : e ≤ 9223372036854775807) : wrap64 ((i : Int) + 1) = (i : Int) + 1 := by unfold wrap64; omega
theorem meas_up {i e : Nat} (h : i < e) : e - ((i : Int) + 1).toNat < e - ((i : Int)).toNat := by omega
def RPowI (w : World) (b e : Nat) (v6 v7 : Value) (wr : World) : Prop :=
  ∃ (i l k : Nat) (R : Option Addr), i ≤ e ∧ v7 = .int .i64 (i : Int) ∧ v6 = .slice R l k ∧ Digs wr R l (dg (b ^ i)) ∧ b ^ i < top ∧ (b ≤ 1 → i = 0) ∧ Below w.heap.size w wr

set_option maxHeartbeats 4000000 in
theorem refPower_any (b e : Nat) (w : World) (hb : b ≤ 65535) (he : e ≤ 9223372036854775807) :
    Calls Try.prog 24 #[.int .i64 (b : Int), .int .i64 (e : Int)] w fun x w' => PowR b e w x w' := by
  have HBT := Lib.hid (small_top hb)
  have HE := Lib.hid he
  have hb64 : b < 18446744073709551616 := by omega
  have hbw : b < 4611686018427387904 := by omega
  have d1 : decide ((b : Int) < 0) = false := by simp
  have d2 : decide ((65535 : Int) < (b : Int)) = false := by simp; omega
  have d2n : decide (65535 < b) = false := by simp; omega
  have d3 : decide ((e : Int) < 0) = false := by simp
  by_cases h0 : b = 0 ∧ 0 < e
  · have d4 : ((b : Int) == 0) = true := beq0_t h0.1
    have d4n : (b == 0) = true := by simp; omega
    have d5 := gt0_t h0.2
    have d5n : decide (0 < e) = true := by simp; omega
    have HZ : Hid (b ^ e = 0) := show _ = _ by rw [h0.1, Nat.zero_pow h0.2]
    clear h0 hb hb64 hbw he
    go_enter Try.func24, Try.ntmps24
    go_wp2_with fail
    go_ret2
    refine ⟨Below.refl _ _, .inl ?_⟩
    rw [HZ.out, dg_zero]
    exact ⟨Nat.lt_trans (by decide) one_top, none, 0, rfl, Digs.none _ _⟩
  · have HZ := Lib.hid h0
    have c1 := Lib.hid (refOf_any 1 (by decide) w)
    have zb := wru64 hb64
    have ZB := Lib.hid zb
    have HB64 := Lib.hid hb64
    have HBW := Lib.hid hbw
    have d45 : ((b : Int) == 0 && decide ((0 : Int) < (e : Int))) = false := by
      by_cases hb0 : b = 0
      · have : e = 0 := by omega
        subst hb0 this
        rfl
      · rw [beq0_f hb0]; rfl
    clear zb hb64 hbw he
    suffices hmain : ∀ (d4b : Bool), ((b : Int) == 0) = d4b → (d4b = true → decide ((0 : Int) < (e : Int)) = false) → Calls Try.prog 24 #[.int .i64 (b : Int), .int .i64 (e : Int)] w fun x w' => PowR b e w x w' by
      refine hmain _ rfl (fun h => ?_)
      rw [h] at d45
      simpa using d45
    intro d4b d4 d5
    clear d45 h0
    cases d4b
    all_goals
      first | (have d5' := d5 rfl; have d5n : decide (0 < e) = false := by simp at d5' ⊢; omega) | skip
      clear d5
      go_enter Try.func24, Try.ntmps24
      go_wp2_with fail
      rw [show ((1 : Nat) : Int) = 1 from rfl] at c1
      refine c1.out.mono ?_
      rintro x w1 ⟨R1, k1, rfl, D1, B1⟩
      have HD1 := Lib.hid D1; have HB1 := Lib.hid B1
      clear D1 B1 c1
      go_wp2_with fail
      go_loopw [6, 7] (fun v6 v7 wr => RPowI w b e v6 v7 wr) (fun _ v _ => e - (intOf v).toNat)
      case atStart => exact ⟨0, _, _, R1, by omega, rfl, rfl, by rw [Nat.pow_zero]; exact HD1.out, by rw [Nat.pow_zero]; exact one_top, fun _ => rfl, HB1.out⟩
      case round =>
        clear HD1 HB1
        obtain ⟨i, l, k, R, hi, rfl, rfl, hD, ht, h1, hB⟩ := hrel
        have HD := Lib.hid hD; have HT := Lib.hid ht; have H1 := Lib.hid h1; have HB := Lib.hid hB
        clear hD ht h1 hB
        by_cases hgo : i < e ∧ 1 < b
        · have d6 := lt_t hgo.1
          have d6n := ltn_t hgo.1
          have d7 : decide ((1 : Int) < (b : Int)) = true := by simp; omega
          have d7n : decide (1 < b) = true := by simp; omega
          have HI : Hid (i < e) := hgo.1
          have HB1b : Hid (1 < b) := hgo.2
          have c2 := Lib.hid (refOf_any b HB64.out wr)
          have zb := ZB.out
          have hl : l ≤ 256 := by have := top_len HT.out; have := HD.out.1; omega
          have HL := Lib.hid hl
          clear hgo hi hl
          go_wp2_with fail
          refine c2.out.mono ?_
          rintro x w2 ⟨R2, k2, rfl, D2, B2⟩
          have c3 := Lib.hid (refMul_any R l k (dg (b ^ i)) R2 (dg b).length k2 (dg b) w2 (HD.out.below B2) D2 (by have := HL.out; omega) (by have := top_len HBT.out; omega) (b ^ (i + 1)) (by rw [nv_dg, nv_dg, Nat.pow_succ]))
          have HB2 := Lib.hid (HB.out.trans (B2.mono HB.out.size))
          clear D2 B2 HD HB c2 HL
          go_wp2_with fail
          refine c3.out.mono ?_
          rintro x w3 ⟨R3, k3, rfl, D3, B3⟩
          have HD3 := Lib.hid D3
          have HB3 := Lib.hid (HB2.out.trans (B3.mono HB2.out.size))
          clear D3 B3 HB2 c3
          obtain ⟨l3, hl3⟩ : ∃ l3, l3 = (dg (b ^ (i + 1))).length := ⟨_, rfl⟩
          have HL3 := Lib.hid hl3
          rw [← hl3] at HD3 ⊢
          clear hl3
          by_cases hnt : b ^ (i + 1) < top
          · have hl256 : l3 ≤ 256 := by rw [HL3.out]; exact top_len hnt
            have d8 : decide ((256 : Int) < (l3 : Int)) = false := by simp; omega
            have d8n : decide (256 < l3) = false := by simp; omega
            have HNT := Lib.hid hnt
            have hiw := inc64 HI.out HE.out
            clear hnt hl256 zb
            go_wp2_with fail
            go_roundw
            case rel =>
              rw [hiw]
              exact ⟨i + 1, l3, k3, R3, HI.out, ret_val (Int.natCast_succ i).symm, rfl, HD3.out, HNT.out, fun h => absurd HB1b.out (by omega), HB3.out⟩
            case measure =>
              rw [hiw]
              exact meas_up HI.out
          · have hl256 : 256 < l3 := by
              rw [HL3.out]
              rcases Nat.lt_or_ge 256 (dg (b ^ (i + 1))).length with h | h
              · exact h
              · exact absurd ((dg_len _ 256).1 h) hnt
            have d8 : decide ((256 : Int) < (l3 : Int)) = true := by simp; omega
            have d8n : decide (256 < l3) = true := by simp; omega
            have HNT : Hid (top ≤ b ^ e) := pow_up (Nat.le_of_not_lt hnt) HI.out
            clear hnt hl256 zb
            go_wp2_with fail
            go_ret2
            exact ⟨HB3.out, .inr ⟨HNT.out, rfl⟩⟩
        · have HV : Hid (b ^ i = b ^ e) := show _ = _ by
            by_cases hb1 : b ≤ 1
            · have hi0 := H1.out hb1
              have hz := HZ.out
              rcases Nat.lt_or_ge 0 b with h | h
              · obtain rfl : b = 1 := by omega
                rw [Nat.one_pow, Nat.one_pow]
              · have he0 : e = 0 := by omega
                rw [hi0, he0]
            · rw [show i = e by omega]
          have hlx : l = (dg (b ^ e)).length := by rw [← HV.out]; exact HD.out.1.symm
          have HLX := Lib.hid hlx
          have fin : Hid (PowR b e w (.returned (.tuple #[.slice R l k, .bool true])) wr) := ⟨HB.out, .inl ⟨by rw [← HV.out]; exact HT.out, R, k, by rw [HLX.out], by rw [← HLX.out, ← HV.out]; exact HD.out⟩⟩
          by_cases hie : i < e
          · have hb1 : b ≤ 1 := by omega
            have d6 := lt_t hie
            have d6n := ltn_t hie
            have d7 : decide ((1 : Int) < (b : Int)) = false := by simp; omega
            have d7n : decide (1 < b) = false := by simp; omega
            clear hgo hi hlx hie hb1
            go_wp2_with fail
            go_ret2
            exact fin.out
          · have d6 := lt_f (Nat.le_of_not_lt hie)
            have d6n := ltn_f (Nat.le_of_not_lt hie)
            clear hgo hi hlx hie
            go_wp2_with fail
            go_ret2
            exact fin.out

end Go.Proofs.Ytcejbkmmiklhbaa
