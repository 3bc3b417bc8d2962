/-
  Division by hand: the guess by the highest digits, one digit of a quotient, what is left; pure. No condition beyond what each lemma asks.
  What highest and takeTimes do. No condition beyond what each contract says.
  What divideOnce does: one digit of a quotient. No condition beyond what the contract says.
-/
import Derived.Test.YtemkllnnemadeaaDoorNBigG
namespace Go.Proofs.YtemkllnnemadeaaDoor.G
/-- A digit, noughts below the lowest one. -/
def dgt (xs : List Nat) (n i : Nat) : Nat := if i + 1 ≤ n then xs.getD (n - 1 - i) 0 else 0
/-- The number of the k highest digits of n. -/
def hi (xs : List Nat) (n : Nat) : Nat → Nat
  | 0 => 0
  | k + 1 => hi xs n k * 65536 + dgt xs n k
theorem dgt_lt {xs : List Nat} (h : Dg xs) (n i : Nat) : dgt xs n i < 65536 := by
  unfold dgt
  split
  · exact h.get _
  · omega
theorem hi_lt {xs : List Nat} (h : Dg xs) (n k : Nat) : hi xs n k < 65536 ^ k := by
  induction k with
  | zero => simp [hi]
  | succ k ih =>
    have h1 := dgt_lt h n k
    rw [hi, Nat.pow_succ]
    generalize 65536 ^ k = p at *
    omega
theorem hi_split {xs : List Nat} {n : Nat} (hn : xs.length = n) : ∀ k, k ≤ n → nv xs = nv (xs.take (n - k)) + 65536 ^ (n - k) * hi xs n k := by
  intro k
  induction k with
  | zero =>
    intro _
    rw [Nat.sub_zero, List.take_of_length_le (by omega), hi]
    simp
  | succ k ih =>
    intro hk
    rw [ih (by omega), show n - k = (n - (k + 1)) + 1 by omega, take_nv' xs (n - (k + 1)), hi, Nat.pow_succ]
    have e : dgt xs n k = xs.getD (n - (k + 1)) 0 := by
      unfold dgt
      rw [if_pos (by omega), show n - 1 - k = n - (k + 1) by omega]
    rw [e]
    generalize 65536 ^ (n - (k + 1)) = p
    grind
/-- The guess is the digit or one more. -/
theorem guess_near {W b P w3 b2 wl bl d : Nat} (hW : W = wl + P * w3) (hb : b = bl + P * b2) (hwl : wl < P) (hbl : bl < P) (hb2 : 65536 ≤ b2) (hd : d = W / b) (hlt : W < 65536 * b) : w3 / b2 = d ∨ w3 / b2 = d + 1 := by
  have hP : 0 < P := by omega
  have hbpos : 0 < b := by
    have : P * 65536 ≤ P * b2 := Nat.mul_le_mul_left P hb2
    omega
  have hd1 : d * b ≤ W := by rw [hd]; exact Nat.div_mul_le_self W b
  have hd2 : W < (d + 1) * b := by
    rw [hd]
    have := Nat.div_add_mod W b
    have h3 := Nat.mod_lt W hbpos
    rw [Nat.add_mul, Nat.one_mul, Nat.mul_comm (W / b) b]
    omega
  have hdB : d < 65536 := by
    rw [hd]
    exact (Nat.div_lt_iff_lt_mul hbpos).2 hlt
  have hlow : d ≤ w3 / b2 := by
    rw [Nat.le_div_iff_mul_le (by omega)]
    rcases Nat.lt_or_ge w3 (d * b2) with h | h
    · exfalso
      have h1 : P * (w3 + 1) ≤ P * (d * b2) := Nat.mul_le_mul_left P h
      have h2 : P * (d * b2) ≤ d * b := by
        rw [hb, Nat.mul_add, Nat.mul_left_comm]
        omega
      rw [Nat.mul_add, Nat.mul_one] at h1
      omega
    · exact h
  have hhigh : w3 / b2 ≤ d + 1 := by
    rcases Nat.lt_or_ge (d + 1) (w3 / b2) with h | h
    · exfalso
      have h1 : (d + 2) * b2 ≤ w3 := Nat.le_trans (Nat.mul_le_mul_right b2 h) (Nat.div_mul_le_self w3 b2)
      have h2 : P * ((d + 2) * b2) ≤ P * w3 := Nat.mul_le_mul_left P h1
      have h3 : (d + 1) * b ≤ (d + 1) * (P * (b2 + 1)) := Nat.mul_le_mul_left _ (by rw [hb, Nat.mul_add, Nat.mul_one]; omega)
      have h4 : (d + 1) * (P * (b2 + 1)) = P * ((d + 1) * b2) + P * (d + 1) := by grind
      have h5 : P * ((d + 2) * b2) = P * ((d + 1) * b2) + P * b2 := by grind
      have h6 : P * (d + 1) ≤ P * b2 := Nat.mul_le_mul_left P (by omega)
      omega
    · exact h
  omega
/-- What is left behind one digit. -/
theorem div_here {W b d : Nat} (hd : d = W / b) : W = d * b + W % b := by
  rw [hd, Nat.mul_comm]
  exact (Nat.div_add_mod W b).symm
theorem top_digit {xs : List Nat} {m : Nat} (hm : 0 < m) (ht : xs.getD (m - 1) 0 ≠ 0) : 65536 ≤ hi xs m 2 := by
  unfold hi hi hi
  have e : dgt xs m 0 = xs.getD (m - 1) 0 := by unfold dgt; rw [if_pos (by omega)]; rfl
  rw [e]
  omega
theorem hi_one {xs : List Nat} (hl : xs.length = 1) : hi xs 1 2 = nv xs * 65536 := by
  obtain ⟨x, rfl⟩ := List.length_eq_one_iff.1 hl
  simp [hi, dgt, nv]
theorem hi_two {xs : List Nat} (hl : xs.length = 2) : hi xs 2 3 = nv xs * 65536 := by
  match xs, hl with
  | [x, y], _ =>
    simp [hi, dgt, nv]
    omega
theorem guess_of {xs ys : List Nat} {m : Nat} (hx : Dg xs) (hy : Dg ys) (hxl : xs.length = m + 1) (hyl : ys.length = m) (hm : 0 < m) (ht : ys.getD (m - 1) 0 ≠ 0) (hlt : nv xs < 65536 * nv ys) {d : Nat} (hd : d = nv xs / nv ys) :
    hi xs (m + 1) 3 / hi ys m 2 = d ∨ hi xs (m + 1) 3 / hi ys m 2 = d + 1 := by
  have htop := top_digit hm ht
  by_cases h1 : m = 1
  · subst h1
    left
    rw [hi_one hyl, hi_two hxl, Nat.mul_div_mul_right _ _ (by omega), hd]
  · have e1 := hi_split hxl 3 (by omega)
    have e2 := hi_split hyl 2 (by omega)
    rw [show m + 1 - 3 = m - 2 by omega] at e1
    have l1 := nv_lt (hx.take (m - 2))
    have l2 := nv_lt (hy.take (m - 2))
    rw [List.length_take, Nat.min_eq_left (by omega)] at l1 l2
    exact guess_near e1 e2 l1 l2 htop hd hlt
set_option maxRecDepth 100000 in
/-- A digit of what is left, n times b taken. -/
theorem take_step {Z P c v X Y n x y d e : Int} (h : Z + P * c = X - n * Y) (hv : v = c + (x - n * y)) (hd : d = v % 65536) (he : e = v / 65536) : Z + P * d + P * 65536 * e = (X + P * x) - n * (Y + P * y) := by
  have h1 : v = 65536 * e + d := by omega
  have h2 : P * c + P * x - P * (n * y) = P * (65536 * e) + P * d := by
    rw [← Int.mul_add, ← Int.mul_sub, ← Int.mul_add, ← h1, hv]
    congr 1
    omega
  grind
/-- The digits' numbers behind division. -/
theorem take_end {z : Nat} {C T : Int} {P : Nat} (h : (z : Int) + (P : Int) * C = T) (hz : z < P) (hT : 0 ≤ T) (hT2 : T < P) : C = 0 ∧ (z : Int) = T := by
  have hC : C = 0 := by
    rcases Int.lt_trichotomy C 0 with h1 | h1 | h1
    · exfalso
      have : (P : Int) * C ≤ (P : Int) * (-1) := Int.mul_le_mul_of_nonneg_left (by omega) (by omega)
      omega
    · exact h1
    · exfalso
      have : (P : Int) * 1 ≤ (P : Int) * C := Int.mul_le_mul_of_nonneg_left (by omega) (by omega)
      omega
  subst hC
  exact ⟨rfl, by simpa using h⟩
end Go.Proofs.YtemkllnnemadeaaDoor.G
namespace Go.Proofs.YtemkllnnemadeaaDoor.G
open Go.RowKit
set_option maxRecDepth 100000 in
theorem dgt_digit (xs : List Nat) (n k : Nat) (j : Int) (hj : j = (n : Int) - 1 - (k : Int)) : (if j < 0 then 0 else (xs.getD j.toNat 0 : Nat) : Int) = ((dgt xs n k : Nat) : Int) := by
  unfold dgt
  by_cases h : k + 1 ≤ n
  · rw [if_neg (by omega), if_pos h]
    congr 2
    omega
  · rw [if_pos (by omega), if_neg h]
    rfl
def HighI (w : World) (xs : List Nat) (n q : Nat) (v5 v8 : Value) (wr : World) : Prop :=
  wr = w ∧ ∃ k : Nat, k ≤ q ∧ v8 = .int .i64 (k : Int) ∧ v5 = .int .i64 ((hi xs n k : Nat) : Int)
set_option maxHeartbeats 2000000 in
theorem highest_any (A : Option Addr) (n c : Nat) (xs : List Nat) (q : Nat) (hq : q ≤ 3) (w : World) (h : Digs w A n xs) (hn : n ≤ 1000) :
    Calls Tryd.prog 79 #[.slice A n c, .int .i64 (q : Int)] w fun e w' => e = .returned (.int .i64 ((hi xs n q : Nat) : Int)) ∧ w' = w := by
  have H := Lib.hid h
  clear h
  go_enter Tryd.func79, Tryd.ntmps79
  go_wp2_with fail
  go_loopw [5, 8] (fun v5 v8 wr => HighI w xs n q v5 v8 wr) (fun _ v _ => q - (intOf v).toNat)
  case atStart => exact ⟨rfl, 0, by omega, rfl, rfl⟩
  case round =>
    obtain ⟨rfl, k, hk, rfl, rfl⟩ := hrel
    by_cases hlt : k < q
    · have d1 := lt_t hlt
      have d1n := ltn_t hlt
      obtain ⟨j, hj⟩ : ∃ j : Int, j = (n : Int) - 1 - (k : Int) := ⟨_, rfl⟩
      have cD := digit_any A n c xs j wr H.out (by omega)
      rw [dgt_digit xs n k j hj] at cD
      have hx := dgt_lt H.out.2.1 n k
      have hh : hi xs n k < 140737488355328 := by
        have h1 := hi_lt H.out.2.1 n k
        have h2 : 65536 ^ k ≤ 65536 ^ 2 := Nat.pow_le_pow_right (by omega) (by omega)
        have h3 : 65536 ^ 2 = 4294967296 := by decide
        omega
      have hh2 : hi xs n k < 70368744177664 := by
        have h1 := hi_lt H.out.2.1 n k
        have h2 : 65536 ^ k ≤ 65536 ^ 2 := Nat.pow_le_pow_right (by omega) (by omega)
        have h3 : 65536 ^ 2 = 4294967296 := by decide
        omega
      have hs : hi xs n (k + 1) = hi xs n k * 65536 + dgt xs n k := rfl
      have z2 := i64_join (hi xs n k) (dgt xs n k) hh hx
      rw [← hs] at z2
      have z1 := wr_up16 hh2
      obtain ⟨v', hv'⟩ : ∃ v', v' = hi xs n (k + 1) := ⟨_, rfl⟩
      rw [← hv'] at z2
      have HV := Lib.hid hv'
      clear hs hv'
      generalize hi xs n k = v at *
      generalize dgt xs n k = x at *
      have CD := Lib.hid cD
      have HL := Lib.hid hlt
      have e1 : (n : Int) - 1 - (k : Int) = j := hj.symm
      have e2 : wrap64 j = j := by
        have : -1000 ≤ j ∧ j ≤ 1000 := by omega
        clear z1 z2
        unfold wrap64
        omega
      clear cD hx hh hh2 hj
      go_wp2_with fail
      refine CD.out.mono ?_
      rintro e v1 ⟨rfl, hw⟩; subst v1
      go_wp2_with fail
      go_roundw
      case rel => exact ⟨rfl, k + 1, HL.out, ret_val (by omega), ret_val (by rw [HV.out])⟩
      case measure => simp [intOf]; have := HL.out; omega
    · obtain rfl : k = q := by omega
      have d1 := lt_f (Nat.le_refl k)
      have d1n := ltn_f (Nat.le_refl k)
      go_wp2_with fail
      go_ret
      exact ⟨rfl, rfl⟩
theorem row_at (pre post : List Value) (zs : List Nat) (x : Nat) (r : List Nat) (o i : Nat) (ho : pre.length = o) (hi : zs.length = i) : (pre ++ dc (zs ++ x :: r) ++ post)[o + i]? = some (.int .u16 (x : Int)) := by
  subst ho hi
  rw [List.append_assoc, List.getElem?_append_right (by omega), Nat.add_sub_cancel_left, List.getElem?_append_left (by rw [dc_length]; simp), dc_get _ _ (by simp)]
  simp [List.getD]
theorem row_set (pre post : List Value) (zs : List Nat) (x d : Nat) (r : List Nat) (o i : Nat) (ho : pre.length = o) (hi : zs.length = i) : (pre ++ dc (zs ++ x :: r) ++ post).set (o + i) (.int .u16 (d : Int)) = pre ++ dc ((zs ++ [d]) ++ r) ++ post := by
  subst ho hi
  rw [List.append_assoc, List.set_append_right _ _ (by omega), Nat.add_sub_cancel_left, List.set_append_left _ _ (by rw [dc_length]; simp), dc_set, List.set_append_right _ _ (Nat.le_refl _), Nat.sub_self, List.set_cons_zero]
  simp
/-- n times b taken from i digits. -/
def TakeAt (w : World) (g l : Nat) (pre post : List Value) (xs ys : List Nat) (n : Int) (v7 v11 : Value) (wr : World) : Prop :=
  ∃ (i : Nat) (C : Int) (zs : List Nat), i ≤ l ∧ v11 = .int .i64 (i : Int) ∧ v7 = .int .i64 C ∧ -70000 ≤ C ∧ C ≤ 70000 ∧ zs.length = i ∧ Dg zs ∧
    (nv zs : Int) + ((65536 ^ i : Nat) : Int) * C = (nv (xs.take i) : Int) - n * (nv (ys.take i) : Int) ∧ Row wr g 86 (pre ++ dc (zs ++ xs.drop i) ++ post) ∧ Kept (fun k => k = g) w wr
set_option maxHeartbeats 8000000 in
theorem take_any (g o l cl : Nat) (pre post : List Value) (xs : List Nat) (B : Option Addr) (m cb : Nat) (ys : List Nat) (n : Int) (w : World)
    (hr : Row w g 86 (pre ++ dc xs ++ post)) (ho : pre.length = o) (hl : xs.length = l) (hx : Dg xs) (hB : ∀ W, Kept (fun k => k = g) w W → Digs W B m ys) (hl2 : l ≤ 1000) (hm : m ≤ 1000) (hn1 : -1 ≤ n) (hn2 : n ≤ 65536) :
    Calls Tryd.prog 80 #[.slice (some ⟨g, o, none⟩) l cl, .slice B m cb, .int .i64 n] w fun e w' => ∃ (C : Int) (zs : List Nat), e = .returned (.bool (decide (C < 0))) ∧ zs.length = l ∧ Dg zs ∧
      (nv zs : Int) + ((65536 ^ l : Nat) : Int) * C = (nv xs : Int) - n * (nv (ys.take l) : Int) ∧ Row w' g 86 (pre ++ dc zs ++ post) ∧ Kept (fun k => k = g) w w' := by
  have HR := Lib.hid hr; have HO := Lib.hid ho; have HL := Lib.hid hl; have HX := Lib.hid hx; have HB := Lib.hid hB
  clear hr ho hl hx hB
  go_enter Tryd.func80, Tryd.ntmps80
  go_wp2_with fail
  go_loopw [7, 11] (fun v7 v11 wr => TakeAt w g l pre post xs ys n v7 v11 wr) (fun _ v _ => l - (intOf v).toNat)
  case atStart => exact ⟨0, 0, [], by omega, rfl, rfl, by omega, by omega, rfl, Dg.nil, by simp [nv], by simpa using HR.out, Kept.refl _ _⟩
  case round =>
    obtain ⟨i, C, zs, hi, rfl, rfl, hc1, hc2, hzl, hz, hv, R1, B1⟩ := hrel
    have HZL := Lib.hid hzl; have HZ := Lib.hid hz; have HV := Lib.hid hv; have HR1 := Lib.hid R1; have HB1 := Lib.hid B1
    clear hzl hz hv R1 B1
    by_cases hlt : i < l
    · have d1 := lt_t hlt
      have d1n := ltn_t hlt
      have i0 : (0 : Int) ≤ (i : Int) := by omega
      have iL : (i : Int) < (l : Int) := by omega
      have hD := HB.out wr HB1.out
      have cD : Hid (∀ k, Calls Tryd.prog 94 #[.slice B m cb, .int .i64 (i : Int)] (wr.drewN k) fun e w' => e = .returned (.int .i64 ((ys.getD i 0 : Nat) : Int)) ∧ w' = wr.drewN k) := fun k => digit_nat B m cb ys i (wr.drewN k) (HB.out _ (HB1.out.drewN k)) (by omega)
      have hxi : i < xs.length := by rw [HL.out]; exact hlt
      have hx := HX.out.get i
      have hy := hD.2.1.get i
      have tx := Lib.hid (take_nv' xs i)
      have ty := Lib.hid (take_nv' ys i)
      have hrow : xs.drop i = xs.getD i 0 :: xs.drop (i + 1) := by rw [List.drop_eq_getElem_cons hxi]; simp [List.getD, hxi]
      have hR := HR1.out
      rw [hrow] at hR
      have x1 : wr.cell? ⟨g, o + i, none⟩ = some (.int .u16 ((xs.getD i 0 : Nat) : Int)) := (hR.cell (o + i)).trans (row_at pre post zs _ _ o i HO.out HZL.out)
      have fl := hR.frozen (o + i)
      have hset := fun d : Nat => hR.set (o + i) (.int .u16 (d : Int))
      generalize xs.getD i 0 = x at *
      generalize ys.getD i 0 = y at *
      obtain ⟨p, hp⟩ : ∃ p : Int, p = n * (y : Int) := ⟨_, rfl⟩
      have hp1 : -65535 ≤ p := by
        have h1 : (-1) * (y : Int) ≤ n * (y : Int) := Int.mul_le_mul_of_nonneg_right hn1 (by omega)
        omega
      have hp2 : p ≤ 4294901760 := by
        have h1 : n * (y : Int) ≤ 65536 * (y : Int) := Int.mul_le_mul_of_nonneg_right hn2 (by omega)
        omega
      obtain ⟨s, hs⟩ : ∃ s : Int, s = (x : Int) - p := ⟨_, rfl⟩
      obtain ⟨v, hv⟩ : ∃ v : Int, v = C + s := ⟨_, rfl⟩
      obtain ⟨d, hd⟩ : ∃ d : Nat, (d : Int) = v % 65536 := ⟨(v % 65536).toNat, by omega⟩
      obtain ⟨e, he⟩ : ∃ e : Int, e = v / 65536 := ⟨_, rfl⟩
      have hst := take_step (Z := (nv zs : Int)) (P := ((65536 ^ i : Nat) : Int)) (c := C) (v := v) (X := (nv (xs.take i) : Int)) (Y := (nv (ys.take i) : Int)) (n := n) (x := (x : Int)) (y := (y : Int)) (d := (d : Int)) (e := e) HV.out (by rw [hv, hs, hp]) hd he
      have HN : Hid ((nv (zs ++ [d]) : Int) + ((65536 ^ (i + 1) : Nat) : Int) * e = (nv (xs.take (i + 1)) : Int) - n * (nv (ys.take (i + 1)) : Int)) := show _ = _ by
        rw [tx.out, ty.out, nv_snoc, HZL.out, Nat.pow_succ]
        simp only [Int.natCast_add, Int.natCast_mul] at hst ⊢
        exact hst
      have HD : Hid (d < 65536) := show _ < _ by clear hst; omega
      have HE : Hid (-70000 ≤ e ∧ e ≤ 70000) := show _ ∧ _ by clear hst; omega
      have R2 := hset d
      rw [row_set pre post zs x d (xs.drop (i + 1)) o i HO.out HZL.out] at R2
      have B2 := HB1.out.setCell (p := ⟨g, o + i, none⟩) (fun _ => rfl) (.int .u16 (d : Int))
      have H2 := Lib.hid R2; have HB2 := Lib.hid B2
      have HZ2 := Lib.hid (HZ.out.append (Dg.one HD.out))
      have HZL2 : Hid ((zs ++ [d]).length = i + 1) := show _ = _ by rw [List.length_append, HZL.out]; rfl
      have HLT := Lib.hid hlt
      have ws : wrap64 s = s := by clear hst hd he; unfold wrap64; omega
      have Ws := Lib.hid ws
      clear ws
      have wv : wrap64 v = v := by clear hst hd he; unfold wrap64; omega
      have Wv := Lib.hid wv
      clear wv
      have wp : wrap64 p = p := by clear hst hd he hs hv; unfold wrap64; omega
      have z2 : IntKind.u16.wrap v = (d : Int) := by rw [hd, IntKind.wrap_u16]
      have Z2 := Lib.hid z2
      have z3 : v / 65536 = e := he.symm
      have Z3 := Lib.hid z3
      have zx := wr64 (Nat.lt_trans hx (by decide))
      have zp : n * (y : Int) = p := hp.symm
      have zs' : (x : Int) - p = s := hs.symm
      have zv : C + s = v := hv.symm
      have ws := Ws.out
      have wv := Wv.out
      clear hst hd he hv hs hp hp1 hp2 hset R2 B2 hrow hR hx hy hD hxi z2 z3 HV HR1 HB1 HZ tx ty
      go_wp2_with fail
      go_quiet (first | (go_at_call 94; exact Calls.quiet_of_same (cD.out _)))
      have H3 : Hid (Row ((wr.drewN nq).setCell ⟨g, o + i, none⟩ (.int .u16 (d : Int))) g 86 (pre ++ dc ((zs ++ [d]) ++ xs.drop (i + 1)) ++ post)) := H2.out
      have HB3 : Hid (Kept (fun k => k = g) w ((wr.drewN nq).setCell ⟨g, o + i, none⟩ (.int .u16 (d : Int)))) := ⟨HB2.out.os, HB2.out.tape, HB2.out.output, HB2.out.size, HB2.out.block⟩
      have x2 : (wr.drewN nq).cell? ⟨g, o + i, none⟩ = some (.int .u16 (x : Int)) := x1
      have fl2 : (wr.drewN nq).frozen? ⟨g, o + i, none⟩ = false := fl
      clear x1 fl H2 HB2 cD
      generalize wr.drewN nq = wd at *
      clear ws zx zp zs' zv
      have z2 := Z2.out
      have z3 := Z3.out
      go_wp2_with fail
      go_roundw
      case rel => exact ⟨i + 1, e, zs ++ [d], HLT.out, ret_val (by have := HLT.out; omega), rfl, HE.out.1, HE.out.2, HZL2.out, HZ2.out, HN.out, H3.out, HB3.out⟩
      case measure => simp [intOf]; have := HLT.out; omega
    · obtain rfl : i = l := by omega
      have d1 := lt_f (Nat.le_refl i)
      have d1n := ltn_f (Nat.le_refl i)
      have hV := HV.out
      rw [List.take_of_length_le (l := xs) (by rw [HL.out]; exact Nat.le_refl _)] at hV
      have hR := HR1.out
      rw [List.drop_eq_nil_of_le (by rw [HL.out]; exact Nat.le_refl _), List.append_nil] at hR
      have H1 := Lib.hid hV; have H2 := Lib.hid hR
      clear hV hR HV HR1
      go_wp2_with fail
      go_ret
      exact ⟨C, zs, rfl, HZL.out, HZ.out, H1.out, H2.out, HB1.out⟩
end Go.Proofs.YtemkllnnemadeaaDoor.G
namespace Go.Proofs.YtemkllnnemadeaaDoor.G
open Go.RowKit
theorem quoN {x y q : Nat} (h : q = x / y) : (x : Int).tdiv (y : Int) = (q : Int) := by rw [h]; simp
set_option maxHeartbeats 8000000 in
theorem once_any (g o cl : Nat) (pre post : List Value) (xs : List Nat) (B : Option Addr) (m cb b : Nat) (w : World)
    (hr : Row w g 86 (pre ++ dc xs ++ post)) (ho : pre.length = o) (hl : xs.length = m + 1) (hx : Dg xs) (hB : ∀ W, Kept (fun k => k = g) w W → Digs W B m (dg b)) (hm : m ≤ 900) (hb0 : b ≠ 0) (hlt : nv xs < 65536 * b) (d : Nat) (hd : d = nv xs / b) (l : Nat) (hlm : l = m + 1) :
    Calls Tryd.prog 59 #[.slice (some ⟨g, o, none⟩) l cl, .slice B m cb] w fun e w' => e = .returned (.int .u16 (d : Int)) ∧ ∃ zs : List Nat, zs.length = m + 1 ∧ Dg zs ∧
      nv zs = nv xs % b ∧ Row w' g 86 (pre ++ dc zs ++ post) ∧ Kept (fun k => k = g) w w' := by
  have hlx : xs.length = l := by omega
  have hBw := hB w (Kept.refl _ _)
  have hm0 : 0 < m := by have := dg_some hb0; have := hBw.1; omega
  have htop : (dg b).getD (m - 1) 0 ≠ 0 := dg_last b (m - 1) (by have := hBw.1; omega)
  have hy := hBw.2.1
  have hyl := hBw.1
  have hguess := guess_of hx hy hl hyl hm0 htop (by rw [nv_dg]; exact hlt) (d := d) (by rw [nv_dg]; exact hd)
  have htk : nv ((dg b).take l) = b := by rw [List.take_of_length_le (by omega), nv_dg]
  have hbl : b < 65536 ^ l := (dg_len b l).1 (by omega)
  have hd65 : d < 65536 := by rw [hd]; exact (Nat.div_lt_iff_lt_mul (by omega)).2 hlt
  have hW := div_here (W := nv xs) (b := b) hd
  have hmod := Nat.mod_lt (nv xs) (Nat.pos_of_ne_zero hb0)
  obtain ⟨r, hrr⟩ : ∃ r, r = nv xs % b := ⟨_, rfl⟩
  rw [← hrr] at hW hmod ⊢
  have cH := highest_any (some ⟨g, o, none⟩) l cl xs 3 (by omega) w (Row.digs hr hx ho hlx) (by omega)
  have cB := highest_any B m cb (dg b) 2 (by omega) w hBw (by omega)
  rw [show ((3 : Nat) : Int) = 3 from rfl] at cH
  rw [show ((2 : Nat) : Int) = 2 from rfl] at cB
  have h3 := hi_lt hx l 3
  have hb2 := top_digit (xs := dg b) hm0 htop
  have h2 := hi_lt hy m 2
  rw [← hlm] at hguess hl
  obtain ⟨q, hq⟩ : ∃ q, q = hi xs l 3 / hi (dg b) m 2 := ⟨_, rfl⟩
  rw [← hq] at hguess
  have zq := quoN hq
  have e3 : 65536 ^ 3 = 281474976710656 := by decide
  rw [e3] at h3
  generalize hi xs l 3 = H3 at *
  generalize hi (dg b) m 2 = H2 at *
  have zq0 : ¬ H2 = 0 := by omega
  have zq1 : ¬ (H2 : Int) = 0 := by omega
  have bq1 : (q : Int) ≤ 65536 := by omega
  have bq2 : -1 ≤ (q : Int) := by omega
  have bl1 : l ≤ 1000 := by omega
  have bm1 : m ≤ 1000 := by omega
  have hl9 : l ≤ 901 := by omega
  have hm1 : m ≤ 900 := hm
  have bq : q < 4611686018427387904 := by omega
  have bd : d < 4611686018427387904 := by omega
  have bd1 : d + 1 < 4611686018427387904 := by omega
  have wq := wr64 bq
  have wd := wr64 bd
  have wd1 := wr64 bd1
  have w16 := wr16 hd65
  have CH := Lib.hid cH; have CB := Lib.hid cB; have HT := Lib.hid htk; have HBL := Lib.hid hbl; have HW := Lib.hid hW; have HM := Lib.hid hmod; have HB := Lib.hid hB
  have HO := Lib.hid ho; have HLX := Lib.hid hlx
  have Hd := Lib.hid hd65
  have cT := Lib.hid (take_any g o l cl pre post xs B m cb (dg b) (q : Int) w hr ho hlx hx hB bl1 bm1 bq2 bq1)
  have WD := Lib.hid wd; have W16 := Lib.hid w16
  have Hlm := Lib.hid hlm
  have WQ := Lib.hid wq; have ZQ := Lib.hid zq; have WD1 := Lib.hid wd1
  clear wq zq wd1 bq bd bd1 bq1 bq2
  clear cH cB htk hbl hW hmod hB ho hlx hBw htop hy hyl h3 hb2 h2 hd hrr hl hq hlt hx hr hb0 e3 wd w16 hm0 hlm
  rcases hguess with rfl | rfl
  · go_enter Tryd.func59, Tryd.ntmps59
    go_wp2_with fail
    refine CH.out.mono ?_
    rintro e v1 ⟨rfl, hw⟩; subst v1
    go_wp2_with fail
    refine CB.out.mono ?_
    rintro e v1 ⟨rfl, hw⟩; subst v1
    have zq := ZQ.out
    have wq := WQ.out
    go_wp2_with fail
    clear zq wq
    refine cT.out.mono ?_
    rintro e w1 ⟨C, zs, rfl, hzl, hz, hv, R1, B1⟩
    rw [HT.out] at hv
    have hlz := nv_lt hz
    rw [hzl] at hlz
    have hT : (nv xs : Int) - (q : Int) * (b : Int) = (r : Int) := by rw [HW.out]; simp; omega
    obtain ⟨hC, hE⟩ := take_end hv hlz (by rw [hT]; omega) (by rw [hT]; have := HM.out; have := HBL.out; omega)
    have hdec : decide (C < 0) = false := by rw [hC]; rfl
    rw [hdec]
    have HE : Hid (nv zs = r) := show _ = _ by rw [hT] at hE; omega
    have HZL := Lib.hid hzl; have HZ := Lib.hid hz; have HR1 := Lib.hid R1; have HB1 := Lib.hid B1
    clear hv hlz hT hE hdec hzl hz R1 B1
    have w16 := W16.out
    go_wp2_with fail
    go_ret
    exact ⟨rfl, zs, by rw [HZL.out, Hlm.out], HZ.out, HE.out, HR1.out, HB1.out⟩
  · go_enter Tryd.func59, Tryd.ntmps59
    go_wp2_with fail
    refine CH.out.mono ?_
    rintro e v1 ⟨rfl, hw⟩; subst v1
    go_wp2_with fail
    refine CB.out.mono ?_
    rintro e v1 ⟨rfl, hw⟩; subst v1
    have zq := ZQ.out
    have wq := WQ.out
    go_wp2_with fail
    clear zq wq
    refine cT.out.mono ?_
    rintro e w1 ⟨C, zs, rfl, hzl, hz, hv, R1, B1⟩
    rw [HT.out] at hv
    have hlz := nv_lt hz
    rw [hzl] at hlz
    have hT : (nv xs : Int) - ((d + 1 : Nat) : Int) * (b : Int) = (r : Int) - (b : Int) := by rw [HW.out]; simp [Int.add_mul]; omega
    rw [hT] at hv
    have hv2 : (nv zs : Int) + ((65536 ^ l : Nat) : Int) * (C + 1) = (r : Int) - (b : Int) + ((65536 ^ l : Nat) : Int) := by
      rw [Int.mul_add, Int.mul_one, ← hv]
      omega
    obtain ⟨hC, hE⟩ := take_end hv2 hlz (by have := HM.out; have := HBL.out; omega) (by have := HM.out; omega)
    have hdec : decide (C < 0) = true := by simp; omega
    rw [hdec]
    have HE := Lib.hid hE
    have cU := Lib.hid (take_any g o l cl pre post zs B m cb (dg b) (-1) w1 R1 HO.out hzl hz (fun W BW => HB.out W (B1.trans BW (fun _ _ h => h))) (by omega) (by omega) (by omega) (by omega))
    have HB1 := Lib.hid B1
    have zd : ((d + 1 : Nat) : Int) - 1 = (d : Int) := by omega
    have wd := WD.out
    clear hv hlz hT hE hdec hzl hz R1 B1 hv2
    go_wp2_with fail
    refine cU.out.mono ?_
    rintro e w2 ⟨C2, zs2, rfl, hzl, hz, hv, R1, B1⟩
    rw [HT.out] at hv
    have hlz := nv_lt hz
    rw [hzl] at hlz
    have hv2 : (nv zs2 : Int) + ((65536 ^ l : Nat) : Int) * (C2 - 1) = (r : Int) := by
      have hE := HE.out
      rw [Int.mul_sub, Int.mul_one]
      rw [hE] at hv
      omega
    obtain ⟨_, hE⟩ := take_end hv2 hlz (by omega) (by have := HM.out; have := HBL.out; omega)
    have HE2 : Hid (nv zs2 = r) := show _ = _ by omega
    have HZL := Lib.hid hzl; have HZ := Lib.hid hz; have HR1 := Lib.hid R1; have HB2 := Lib.hid (HB1.out.trans B1 (fun _ _ h => h))
    clear hv hlz hE hzl hz R1 B1 hv2
    have w16 := W16.out
    go_wp2_with fail
    go_ret
    exact ⟨rfl, zs2, by rw [HZL.out, Hlm.out], HZ.out, HE2.out, HR1.out, HB2.out⟩
end Go.Proofs.YtemkllnnemadeaaDoor.G
