/-
  What highest and takeTimes do. No condition beyond what each contract says.
-/
import Derived.Test.YtcejbkmmiklhbaaDivMath
import Derived.Test.YtcejbkmmiklhbaaRefM9
namespace Go.Proofs.Ytcejbkmmiklhbaa
open Go.RowKit

theorem dgt_digit (xs : List Nat) (n k : Nat) (j : Int) (hj : j = (n : Int) - 1 - (k : Int)) : (if j < 0 then 0 else (xs.getD j.toNat 0 : Nat) : Int) = ((dgt xs n k : Nat) : Int) := by
  unfold dgt
  by_cases h : k + 1 ≤ n
  · rw [if_neg (by omega), if_pos h]
    congr 2
    omega
  · rw [if_pos (by omega), if_neg h]
    rfl

def HighI (w : World) (xs : List Nat) (n q : Nat) (v5 v8 : Value) (wr : World) : Prop :=
  wr = w ∧ ∃ k : Nat, k ≤ q ∧ v8 = .int .i64 (k : Int) ∧ v5 = .int .i64 ((hi xs n k : Nat) : Int)

set_option maxHeartbeats 2000000 in
theorem highest_any (A : Option Addr) (n c : Nat) (xs : List Nat) (q : Nat) (hq : q ≤ 3) (w : World) (h : Digs w A n xs) (hn : n ≤ 1000) :
    Calls Try.prog 55 #[.slice A n c, .int .i64 (q : Int)] w fun e w' => e = .returned (.int .i64 ((hi xs n q : Nat) : Int)) ∧ w' = w := by
  have H := Lib.hid h
  clear h
  go_enter Try.func55, Try.ntmps55
  go_wp2_with fail
  go_loopw [5, 8] (fun v5 v8 wr => HighI w xs n q v5 v8 wr) (fun _ v _ => q - (intOf v).toNat)
  case atStart => exact ⟨rfl, 0, by omega, rfl, rfl⟩
  case round =>
    obtain ⟨rfl, k, hk, rfl, rfl⟩ := hrel
    by_cases hlt : k < q
    · have d1 := lt_t hlt
      have d1n := ltn_t hlt
      obtain ⟨j, hj⟩ : ∃ j : Int, j = (n : Int) - 1 - (k : Int) := ⟨_, rfl⟩
      have cD := digit_any A n c xs j wr H.out (by omega)
      rw [dgt_digit xs n k j hj] at cD
      have hx := dgt_lt H.out.2.1 n k
      have hh : hi xs n k < 140737488355328 := by
        have h1 := hi_lt H.out.2.1 n k
        have h2 : 65536 ^ k ≤ 65536 ^ 2 := Nat.pow_le_pow_right (by omega) (by omega)
        have h3 : 65536 ^ 2 = 4294967296 := by decide
        omega
      have hh2 : hi xs n k < 70368744177664 := by
        have h1 := hi_lt H.out.2.1 n k
        have h2 : 65536 ^ k ≤ 65536 ^ 2 := Nat.pow_le_pow_right (by omega) (by omega)
        have h3 : 65536 ^ 2 = 4294967296 := by decide
        omega
      have hs : hi xs n (k + 1) = hi xs n k * 65536 + dgt xs n k := rfl
      have z2 := i64_join (hi xs n k) (dgt xs n k) hh hx
      rw [← hs] at z2
      have z1 := wr_up16 hh2
      obtain ⟨v', hv'⟩ : ∃ v', v' = hi xs n (k + 1) := ⟨_, rfl⟩
      rw [← hv'] at z2
      have HV := Lib.hid hv'
      clear hs hv'
      generalize hi xs n k = v at *
      generalize dgt xs n k = x at *
      have CD := Lib.hid cD
      have HL := Lib.hid hlt
      have e1 : (n : Int) - 1 - (k : Int) = j := hj.symm
      have e2 : wrap64 j = j := by
        have : -1000 ≤ j ∧ j ≤ 1000 := by omega
        clear z1 z2
        unfold wrap64
        omega
      clear cD hx hh hh2 hj
      go_wp2_with fail
      refine CD.out.mono ?_
      rintro e v1 ⟨rfl, hw⟩; subst v1
      go_wp2_with fail
      go_roundw
      case rel => exact ⟨rfl, k + 1, HL.out, ret_val (by omega), ret_val (by rw [HV.out])⟩
      case measure => simp [intOf]; have := HL.out; omega
    · obtain rfl : k = q := by omega
      have d1 := lt_f (Nat.le_refl k)
      have d1n := ltn_f (Nat.le_refl k)
      go_wp2_with fail
      go_ret
      exact ⟨rfl, rfl⟩

theorem row_at (pre post : List Value) (zs : List Nat) (x : Nat) (r : List Nat) (o i : Nat) (ho : pre.length = o) (hi : zs.length = i) : (pre ++ dc (zs ++ x :: r) ++ post)[o + i]? = some (.int .u16 (x : Int)) := by
  subst ho hi
  rw [List.append_assoc, List.getElem?_append_right (by omega), Nat.add_sub_cancel_left, List.getElem?_append_left (by rw [dc_length]; simp), dc_get _ _ (by simp)]
  simp [List.getD]
theorem row_set (pre post : List Value) (zs : List Nat) (x d : Nat) (r : List Nat) (o i : Nat) (ho : pre.length = o) (hi : zs.length = i) : (pre ++ dc (zs ++ x :: r) ++ post).set (o + i) (.int .u16 (d : Int)) = pre ++ dc ((zs ++ [d]) ++ r) ++ post := by
  subst ho hi
  rw [List.append_assoc, List.set_append_right _ _ (by omega), Nat.add_sub_cancel_left, List.set_append_left _ _ (by rw [dc_length]; simp), dc_set, List.set_append_right _ _ (Nat.le_refl _), Nat.sub_self, List.set_cons_zero]
  simp

/-- n times b taken from i digits. -/
def TakeAt (w : World) (g l : Nat) (pre post : List Value) (xs ys : List Nat) (n : Int) (v7 v11 : Value) (wr : World) : Prop :=
  ∃ (i : Nat) (C : Int) (zs : List Nat), i ≤ l ∧ v11 = .int .i64 (i : Int) ∧ v7 = .int .i64 C ∧ -70000 ≤ C ∧ C ≤ 70000 ∧ zs.length = i ∧ Dg zs ∧
    (nv zs : Int) + ((65536 ^ i : Nat) : Int) * C = (nv (xs.take i) : Int) - n * (nv (ys.take i) : Int) ∧ Row wr g 45 (pre ++ dc (zs ++ xs.drop i) ++ post) ∧ Kept (fun k => k = g) w wr

set_option maxHeartbeats 8000000 in
theorem take_any (g o l cl : Nat) (pre post : List Value) (xs : List Nat) (B : Option Addr) (m cb : Nat) (ys : List Nat) (n : Int) (w : World)
    (hr : Row w g 45 (pre ++ dc xs ++ post)) (ho : pre.length = o) (hl : xs.length = l) (hx : Dg xs) (hB : ∀ W, Kept (fun k => k = g) w W → Digs W B m ys) (hl2 : l ≤ 1000) (hm : m ≤ 1000) (hn1 : -1 ≤ n) (hn2 : n ≤ 65536) :
    Calls Try.prog 56 #[.slice (some ⟨g, o, none⟩) l cl, .slice B m cb, .int .i64 n] w fun e w' => ∃ (C : Int) (zs : List Nat), e = .returned (.bool (decide (C < 0))) ∧ zs.length = l ∧ Dg zs ∧
      (nv zs : Int) + ((65536 ^ l : Nat) : Int) * C = (nv xs : Int) - n * (nv (ys.take l) : Int) ∧ Row w' g 45 (pre ++ dc zs ++ post) ∧ Kept (fun k => k = g) w w' := by
  have HR := Lib.hid hr; have HO := Lib.hid ho; have HL := Lib.hid hl; have HX := Lib.hid hx; have HB := Lib.hid hB
  clear hr ho hl hx hB
  go_enter Try.func56, Try.ntmps56
  go_wp2_with fail
  go_loopw [7, 11] (fun v7 v11 wr => TakeAt w g l pre post xs ys n v7 v11 wr) (fun _ v _ => l - (intOf v).toNat)
  case atStart => exact ⟨0, 0, [], by omega, rfl, rfl, by omega, by omega, rfl, Dg.nil, by simp [nv], by simpa using HR.out, Kept.refl _ _⟩
  case round =>
    obtain ⟨i, C, zs, hi, rfl, rfl, hc1, hc2, hzl, hz, hv, R1, B1⟩ := hrel
    have HZL := Lib.hid hzl; have HZ := Lib.hid hz; have HV := Lib.hid hv; have HR1 := Lib.hid R1; have HB1 := Lib.hid B1
    clear hzl hz hv R1 B1
    by_cases hlt : i < l
    · have d1 := lt_t hlt
      have d1n := ltn_t hlt
      have i0 : (0 : Int) ≤ (i : Int) := by omega
      have iL : (i : Int) < (l : Int) := by omega
      have hD := HB.out wr HB1.out
      have cD : Hid (∀ k, Calls Try.prog 35 #[.slice B m cb, .int .i64 (i : Int)] (wr.drewN k) fun e w' => e = .returned (.int .i64 ((ys.getD i 0 : Nat) : Int)) ∧ w' = wr.drewN k) := fun k => digit_nat B m cb ys i (wr.drewN k) (HB.out _ (HB1.out.drewN k)) (by omega)
      have hxi : i < xs.length := by rw [HL.out]; exact hlt
      have hx := HX.out.get i
      have hy := hD.2.1.get i
      have tx := Lib.hid (take_nv' xs i)
      have ty := Lib.hid (take_nv' ys i)
      have hrow : xs.drop i = xs.getD i 0 :: xs.drop (i + 1) := by rw [List.drop_eq_getElem_cons hxi]; simp [List.getD, hxi]
      have hR := HR1.out
      rw [hrow] at hR
      have x1 : wr.cell? ⟨g, o + i, none⟩ = some (.int .u16 ((xs.getD i 0 : Nat) : Int)) := (hR.cell (o + i)).trans (row_at pre post zs _ _ o i HO.out HZL.out)
      have fl := hR.frozen (o + i)
      have hset := fun d : Nat => hR.set (o + i) (.int .u16 (d : Int))
      generalize xs.getD i 0 = x at *
      generalize ys.getD i 0 = y at *
      obtain ⟨p, hp⟩ : ∃ p : Int, p = n * (y : Int) := ⟨_, rfl⟩
      have hp1 : -65535 ≤ p := by
        have h1 : (-1) * (y : Int) ≤ n * (y : Int) := Int.mul_le_mul_of_nonneg_right hn1 (by omega)
        omega
      have hp2 : p ≤ 4294901760 := by
        have h1 : n * (y : Int) ≤ 65536 * (y : Int) := Int.mul_le_mul_of_nonneg_right hn2 (by omega)
        omega
      obtain ⟨s, hs⟩ : ∃ s : Int, s = (x : Int) - p := ⟨_, rfl⟩
      obtain ⟨v, hv⟩ : ∃ v : Int, v = C + s := ⟨_, rfl⟩
      obtain ⟨d, hd⟩ : ∃ d : Nat, (d : Int) = v % 65536 := ⟨(v % 65536).toNat, by omega⟩
      obtain ⟨e, he⟩ : ∃ e : Int, e = v / 65536 := ⟨_, rfl⟩
      have hst := take_step (Z := (nv zs : Int)) (P := ((65536 ^ i : Nat) : Int)) (c := C) (v := v) (X := (nv (xs.take i) : Int)) (Y := (nv (ys.take i) : Int)) (n := n) (x := (x : Int)) (y := (y : Int)) (d := (d : Int)) (e := e) HV.out (by rw [hv, hs, hp]) hd he
      have HN : Hid ((nv (zs ++ [d]) : Int) + ((65536 ^ (i + 1) : Nat) : Int) * e = (nv (xs.take (i + 1)) : Int) - n * (nv (ys.take (i + 1)) : Int)) := show _ = _ by
        rw [tx.out, ty.out, nv_snoc, HZL.out, Nat.pow_succ]
        simp only [Int.natCast_add, Int.natCast_mul] at hst ⊢
        exact hst
      have HD : Hid (d < 65536) := show _ < _ by clear hst; omega
      have HE : Hid (-70000 ≤ e ∧ e ≤ 70000) := show _ ∧ _ by clear hst; omega
      have R2 := hset d
      rw [row_set pre post zs x d (xs.drop (i + 1)) o i HO.out HZL.out] at R2
      have B2 := HB1.out.setCell (p := ⟨g, o + i, none⟩) (fun _ => rfl) (.int .u16 (d : Int))
      have H2 := Lib.hid R2; have HB2 := Lib.hid B2
      have HZ2 := Lib.hid (HZ.out.append (Dg.one HD.out))
      have HZL2 : Hid ((zs ++ [d]).length = i + 1) := show _ = _ by rw [List.length_append, HZL.out]; rfl
      have HLT := Lib.hid hlt
      have ws : wrap64 s = s := by clear hst hd he; unfold wrap64; omega
      have Ws := Lib.hid ws
      clear ws
      have wv : wrap64 v = v := by clear hst hd he; unfold wrap64; omega
      have Wv := Lib.hid wv
      clear wv
      have wp : wrap64 p = p := by clear hst hd he hs hv; unfold wrap64; omega
      have z2 : IntKind.u16.wrap v = (d : Int) := by rw [hd, IntKind.wrap_u16]
      have Z2 := Lib.hid z2
      have z3 : v / 65536 = e := he.symm
      have Z3 := Lib.hid z3
      have zx := wr64 (Nat.lt_trans hx (by decide))
      have zp : n * (y : Int) = p := hp.symm
      have zs' : (x : Int) - p = s := hs.symm
      have zv : C + s = v := hv.symm
      have ws := Ws.out
      have wv := Wv.out
      clear hst hd he hv hs hp hp1 hp2 hset R2 B2 hrow hR hx hy hD hxi z2 z3 HV HR1 HB1 HZ tx ty
      go_wp2_with fail
      go_quiet (first | (go_at_call 35; exact Calls.quiet_of_same (cD.out _)))
      have H3 : Hid (Row ((wr.drewN nq).setCell ⟨g, o + i, none⟩ (.int .u16 (d : Int))) g 45 (pre ++ dc ((zs ++ [d]) ++ xs.drop (i + 1)) ++ post)) := H2.out
      have HB3 : Hid (Kept (fun k => k = g) w ((wr.drewN nq).setCell ⟨g, o + i, none⟩ (.int .u16 (d : Int)))) := ⟨HB2.out.os, HB2.out.tape, HB2.out.output, HB2.out.size, HB2.out.block⟩
      have x2 : (wr.drewN nq).cell? ⟨g, o + i, none⟩ = some (.int .u16 (x : Int)) := x1
      have fl2 : (wr.drewN nq).frozen? ⟨g, o + i, none⟩ = false := fl
      clear x1 fl H2 HB2 cD
      generalize wr.drewN nq = wd at *
      clear ws zx zp zs' zv
      have z2 := Z2.out
      have z3 := Z3.out
      go_wp2_with fail
      go_roundw
      case rel => exact ⟨i + 1, e, zs ++ [d], HLT.out, ret_val (by have := HLT.out; omega), rfl, HE.out.1, HE.out.2, HZL2.out, HZ2.out, HN.out, H3.out, HB3.out⟩
      case measure => simp [intOf]; have := HLT.out; omega
    · obtain rfl : i = l := by omega
      have d1 := lt_f (Nat.le_refl i)
      have d1n := ltn_f (Nat.le_refl i)
      have hV := HV.out
      rw [List.take_of_length_le (l := xs) (by rw [HL.out]; exact Nat.le_refl _)] at hV
      have hR := HR1.out
      rw [List.drop_eq_nil_of_le (by rw [HL.out]; exact Nat.le_refl _), List.append_nil] at hR
      have H1 := Lib.hid hV; have H2 := Lib.hid hR
      clear hV hR HV HR1
      go_wp2_with fail
      go_ret
      exact ⟨C, zs, rfl, HZL.out, HZ.out, H1.out, H2.out, HB1.out⟩

end Go.Proofs.Ytcejbkmmiklhbaa
