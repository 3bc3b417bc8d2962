/-
  What divideOnce does: one digit of a quotient. No condition beyond what the contract says.
-/
import Derived.Test.YtcejbkmmiklhbaaDivA
namespace Go.Proofs.Ytcejbkmmiklhbaa
open Go.RowKit

theorem quoN {x y q : Nat} (h : q = x / y) : (x : Int).tdiv (y : Int) = (q : Int) := by rw [h]; simp

set_option maxHeartbeats 8000000 in
theorem once_any (g o cl : Nat) (pre post : List Value) (xs : List Nat) (B : Option Addr) (m cb b : Nat) (w : World)
    (hr : Row w g 45 (pre ++ dc xs ++ post)) (ho : pre.length = o) (hl : xs.length = m + 1) (hx : Dg xs) (hB : ∀ W, Kept (fun k => k = g) w W → Digs W B m (dg b)) (hm : m ≤ 900) (hb0 : b ≠ 0) (hlt : nv xs < 65536 * b) (d : Nat) (hd : d = nv xs / b) (l : Nat) (hlm : l = m + 1) :
    Calls Try.prog 42 #[.slice (some ⟨g, o, none⟩) l cl, .slice B m cb] w fun e w' => e = .returned (.int .u16 (d : Int)) ∧ ∃ zs : List Nat, zs.length = m + 1 ∧ Dg zs ∧
      nv zs = nv xs % b ∧ Row w' g 45 (pre ++ dc zs ++ post) ∧ Kept (fun k => k = g) w w' := by
  have hlx : xs.length = l := by omega
  have hBw := hB w (Kept.refl _ _)
  have hm0 : 0 < m := by have := dg_some hb0; have := hBw.1; omega
  have htop : (dg b).getD (m - 1) 0 ≠ 0 := dg_last b (m - 1) (by have := hBw.1; omega)
  have hy := hBw.2.1
  have hyl := hBw.1
  have hguess := guess_of hx hy hl hyl hm0 htop (by rw [nv_dg]; exact hlt) (d := d) (by rw [nv_dg]; exact hd)
  have htk : nv ((dg b).take l) = b := by rw [List.take_of_length_le (by omega), nv_dg]
  have hbl : b < 65536 ^ l := (dg_len b l).1 (by omega)
  have hd65 : d < 65536 := by rw [hd]; exact (Nat.div_lt_iff_lt_mul (by omega)).2 hlt
  have hW := div_here (W := nv xs) (b := b) hd
  have hmod := Nat.mod_lt (nv xs) (Nat.pos_of_ne_zero hb0)
  obtain ⟨r, hrr⟩ : ∃ r, r = nv xs % b := ⟨_, rfl⟩
  rw [← hrr] at hW hmod ⊢
  have cH := highest_any (some ⟨g, o, none⟩) l cl xs 3 (by omega) w (Row.digs hr hx ho hlx) (by omega)
  have cB := highest_any B m cb (dg b) 2 (by omega) w hBw (by omega)
  rw [show ((3 : Nat) : Int) = 3 from rfl] at cH
  rw [show ((2 : Nat) : Int) = 2 from rfl] at cB
  have h3 := hi_lt hx l 3
  have hb2 := top_digit (xs := dg b) hm0 htop
  have h2 := hi_lt hy m 2
  rw [← hlm] at hguess hl
  obtain ⟨q, hq⟩ : ∃ q, q = hi xs l 3 / hi (dg b) m 2 := ⟨_, rfl⟩
  rw [← hq] at hguess
  have zq := quoN hq
  have e3 : 65536 ^ 3 = 281474976710656 := by decide
  rw [e3] at h3
  generalize hi xs l 3 = H3 at *
  generalize hi (dg b) m 2 = H2 at *
  have zq0 : ¬ H2 = 0 := by omega
  have zq1 : ¬ (H2 : Int) = 0 := by omega
  have bq1 : (q : Int) ≤ 65536 := by omega
  have bq2 : -1 ≤ (q : Int) := by omega
  have bl1 : l ≤ 1000 := by omega
  have bm1 : m ≤ 1000 := by omega
  have hl9 : l ≤ 901 := by omega
  have hm1 : m ≤ 900 := hm
  have bq : q < 4611686018427387904 := by omega
  have bd : d < 4611686018427387904 := by omega
  have bd1 : d + 1 < 4611686018427387904 := by omega
  have wq := wr64 bq
  have wd := wr64 bd
  have wd1 := wr64 bd1
  have w16 := wr16 hd65
  have CH := Lib.hid cH; have CB := Lib.hid cB; have HT := Lib.hid htk; have HBL := Lib.hid hbl; have HW := Lib.hid hW; have HM := Lib.hid hmod; have HB := Lib.hid hB
  have HO := Lib.hid ho; have HLX := Lib.hid hlx
  have Hd := Lib.hid hd65
  have cT := Lib.hid (take_any g o l cl pre post xs B m cb (dg b) (q : Int) w hr ho hlx hx hB bl1 bm1 bq2 bq1)
  have WD := Lib.hid wd; have W16 := Lib.hid w16
  have Hlm := Lib.hid hlm
  have WQ := Lib.hid wq; have ZQ := Lib.hid zq; have WD1 := Lib.hid wd1
  clear wq zq wd1 bq bd bd1 bq1 bq2
  clear cH cB htk hbl hW hmod hB ho hlx hBw htop hy hyl h3 hb2 h2 hd hrr hl hq hlt hx hr hb0 e3 wd w16 hm0 hlm
  rcases hguess with rfl | rfl
  · go_enter Try.func42, Try.ntmps42
    go_wp2_with fail
    refine CH.out.mono ?_
    rintro e v1 ⟨rfl, hw⟩; subst v1
    go_wp2_with fail
    refine CB.out.mono ?_
    rintro e v1 ⟨rfl, hw⟩; subst v1
    have zq := ZQ.out
    have wq := WQ.out
    go_wp2_with fail
    clear zq wq
    refine cT.out.mono ?_
    rintro e w1 ⟨C, zs, rfl, hzl, hz, hv, R1, B1⟩
    rw [HT.out] at hv
    have hlz := nv_lt hz
    rw [hzl] at hlz
    have hT : (nv xs : Int) - (q : Int) * (b : Int) = (r : Int) := by rw [HW.out]; simp; omega
    obtain ⟨hC, hE⟩ := take_end hv hlz (by rw [hT]; omega) (by rw [hT]; have := HM.out; have := HBL.out; omega)
    have hdec : decide (C < 0) = false := by rw [hC]; rfl
    rw [hdec]
    have HE : Hid (nv zs = r) := show _ = _ by rw [hT] at hE; omega
    have HZL := Lib.hid hzl; have HZ := Lib.hid hz; have HR1 := Lib.hid R1; have HB1 := Lib.hid B1
    clear hv hlz hT hE hdec hzl hz R1 B1
    have w16 := W16.out
    go_wp2_with fail
    go_ret
    exact ⟨rfl, zs, by rw [HZL.out, Hlm.out], HZ.out, HE.out, HR1.out, HB1.out⟩
  · go_enter Try.func42, Try.ntmps42
    go_wp2_with fail
    refine CH.out.mono ?_
    rintro e v1 ⟨rfl, hw⟩; subst v1
    go_wp2_with fail
    refine CB.out.mono ?_
    rintro e v1 ⟨rfl, hw⟩; subst v1
    have zq := ZQ.out
    have wq := WQ.out
    go_wp2_with fail
    clear zq wq
    refine cT.out.mono ?_
    rintro e w1 ⟨C, zs, rfl, hzl, hz, hv, R1, B1⟩
    rw [HT.out] at hv
    have hlz := nv_lt hz
    rw [hzl] at hlz
    have hT : (nv xs : Int) - ((d + 1 : Nat) : Int) * (b : Int) = (r : Int) - (b : Int) := by rw [HW.out]; simp [Int.add_mul]; omega
    rw [hT] at hv
    have hv2 : (nv zs : Int) + ((65536 ^ l : Nat) : Int) * (C + 1) = (r : Int) - (b : Int) + ((65536 ^ l : Nat) : Int) := by
      rw [Int.mul_add, Int.mul_one, ← hv]
      omega
    obtain ⟨hC, hE⟩ := take_end hv2 hlz (by have := HM.out; have := HBL.out; omega) (by have := HM.out; omega)
    have hdec : decide (C < 0) = true := by simp; omega
    rw [hdec]
    have HE := Lib.hid hE
    have cU := Lib.hid (take_any g o l cl pre post zs B m cb (dg b) (-1) w1 R1 HO.out hzl hz (fun W BW => HB.out W (B1.trans BW (fun _ _ h => h))) (by omega) (by omega) (by omega) (by omega))
    have HB1 := Lib.hid B1
    have zd : ((d + 1 : Nat) : Int) - 1 = (d : Int) := by omega
    have wd := WD.out
    clear hv hlz hT hE hdec hzl hz R1 B1 hv2
    go_wp2_with fail
    refine cU.out.mono ?_
    rintro e w2 ⟨C2, zs2, rfl, hzl, hz, hv, R1, B1⟩
    rw [HT.out] at hv
    have hlz := nv_lt hz
    rw [hzl] at hlz
    have hv2 : (nv zs2 : Int) + ((65536 ^ l : Nat) : Int) * (C2 - 1) = (r : Int) := by
      have hE := HE.out
      rw [Int.mul_sub, Int.mul_one]
      rw [hE] at hv
      omega
    obtain ⟨_, hE⟩ := take_end hv2 hlz (by omega) (by have := HM.out; have := HBL.out; omega)
    have HE2 : Hid (nv zs2 = r) := show _ = _ by omega
    have HZL := Lib.hid hzl; have HZ := Lib.hid hz; have HR1 := Lib.hid R1; have HB2 := Lib.hid (HB1.out.trans B1 (fun _ _ h => h))
    clear hv hlz hE hzl hz R1 B1 hv2
    have w16 := W16.out
    go_wp2_with fail
    go_ret
    exact ⟨rfl, zs2, by rw [HZL.out, Hlm.out], HZ.out, HE2.out, HR1.out, HB2.out⟩

end Go.Proofs.Ytcejbkmmiklhbaa
