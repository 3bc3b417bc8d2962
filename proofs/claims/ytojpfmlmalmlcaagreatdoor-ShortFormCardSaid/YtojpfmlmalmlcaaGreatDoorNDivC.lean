/-
  Division by hand: the guess by the highest digits, one digit of a quotient, what is left; pure. No condition beyond what each lemma asks.
  What highest and takeTimes do. No condition beyond what each contract says.
  What divideOnce does: one digit of a quotient. No condition beyond what the contract says.
  What Div does. No condition beyond what each contract says.
-/
import Derived.Test.YtojpfmlmalmlcaaGreatDoorNBigG
namespace Go.Proofs.YtojpfmlmalmlcaaGreatDoor.G
/-- A digit, noughts below the lowest one. -/
def dgt (xs : List Nat) (n i : Nat) : Nat := if i + 1 ≤ n then xs.getD (n - 1 - i) 0 else 0
/-- The number of the k highest digits of n. -/
def hi (xs : List Nat) (n : Nat) : Nat → Nat
  | 0 => 0
  | k + 1 => hi xs n k * 65536 + dgt xs n k
theorem dgt_lt {xs : List Nat} (h : Dg xs) (n i : Nat) : dgt xs n i < 65536 := by
  unfold dgt
  split
  · exact h.get _
  · omega
theorem hi_lt {xs : List Nat} (h : Dg xs) (n k : Nat) : hi xs n k < 65536 ^ k := by
  induction k with
  | zero => simp [hi]
  | succ k ih =>
    have h1 := dgt_lt h n k
    rw [hi, Nat.pow_succ]
    generalize 65536 ^ k = p at *
    omega
theorem hi_split {xs : List Nat} {n : Nat} (hn : xs.length = n) : ∀ k, k ≤ n → nv xs = nv (xs.take (n - k)) + 65536 ^ (n - k) * hi xs n k := by
  intro k
  induction k with
  | zero =>
    intro _
    rw [Nat.sub_zero, List.take_of_length_le (by omega), hi]
    simp
  | succ k ih =>
    intro hk
    rw [ih (by omega), show n - k = (n - (k + 1)) + 1 by omega, take_nv' xs (n - (k + 1)), hi, Nat.pow_succ]
    have e : dgt xs n k = xs.getD (n - (k + 1)) 0 := by
      unfold dgt
      rw [if_pos (by omega), show n - 1 - k = n - (k + 1) by omega]
    rw [e]
    generalize 65536 ^ (n - (k + 1)) = p
    grind
/-- The guess is the digit or one more. -/
theorem guess_near {W b P w3 b2 wl bl d : Nat} (hW : W = wl + P * w3) (hb : b = bl + P * b2) (hwl : wl < P) (hbl : bl < P) (hb2 : 65536 ≤ b2) (hd : d = W / b) (hlt : W < 65536 * b) : w3 / b2 = d ∨ w3 / b2 = d + 1 := by
  have hP : 0 < P := by omega
  have hbpos : 0 < b := by
    have : P * 65536 ≤ P * b2 := Nat.mul_le_mul_left P hb2
    omega
  have hd1 : d * b ≤ W := by rw [hd]; exact Nat.div_mul_le_self W b
  have hd2 : W < (d + 1) * b := by
    rw [hd]
    have := Nat.div_add_mod W b
    have h3 := Nat.mod_lt W hbpos
    rw [Nat.add_mul, Nat.one_mul, Nat.mul_comm (W / b) b]
    omega
  have hdB : d < 65536 := by
    rw [hd]
    exact (Nat.div_lt_iff_lt_mul hbpos).2 hlt
  have hlow : d ≤ w3 / b2 := by
    rw [Nat.le_div_iff_mul_le (by omega)]
    rcases Nat.lt_or_ge w3 (d * b2) with h | h
    · exfalso
      have h1 : P * (w3 + 1) ≤ P * (d * b2) := Nat.mul_le_mul_left P h
      have h2 : P * (d * b2) ≤ d * b := by
        rw [hb, Nat.mul_add, Nat.mul_left_comm]
        omega
      rw [Nat.mul_add, Nat.mul_one] at h1
      omega
    · exact h
  have hhigh : w3 / b2 ≤ d + 1 := by
    rcases Nat.lt_or_ge (d + 1) (w3 / b2) with h | h
    · exfalso
      have h1 : (d + 2) * b2 ≤ w3 := Nat.le_trans (Nat.mul_le_mul_right b2 h) (Nat.div_mul_le_self w3 b2)
      have h2 : P * ((d + 2) * b2) ≤ P * w3 := Nat.mul_le_mul_left P h1
      have h3 : (d + 1) * b ≤ (d + 1) * (P * (b2 + 1)) := Nat.mul_le_mul_left _ (by rw [hb, Nat.mul_add, Nat.mul_one]; omega)
      have h4 : (d + 1) * (P * (b2 + 1)) = P * ((d + 1) * b2) + P * (d + 1) := by grind
      have h5 : P * ((d + 2) * b2) = P * ((d + 1) * b2) + P * b2 := by grind
      have h6 : P * (d + 1) ≤ P * b2 := Nat.mul_le_mul_left P (by omega)
      omega
    · exact h
  omega
/-- What is left behind one digit. -/
theorem div_here {W b d : Nat} (hd : d = W / b) : W = d * b + W % b := by
  rw [hd, Nat.mul_comm]
  exact (Nat.div_add_mod W b).symm
theorem top_digit {xs : List Nat} {m : Nat} (hm : 0 < m) (ht : xs.getD (m - 1) 0 ≠ 0) : 65536 ≤ hi xs m 2 := by
  unfold hi hi hi
  have e : dgt xs m 0 = xs.getD (m - 1) 0 := by unfold dgt; rw [if_pos (by omega)]; rfl
  rw [e]
  omega
theorem hi_one {xs : List Nat} (hl : xs.length = 1) : hi xs 1 2 = nv xs * 65536 := by
  obtain ⟨x, rfl⟩ := List.length_eq_one_iff.1 hl
  simp [hi, dgt, nv]
theorem hi_two {xs : List Nat} (hl : xs.length = 2) : hi xs 2 3 = nv xs * 65536 := by
  match xs, hl with
  | [x, y], _ =>
    simp [hi, dgt, nv]
    omega
theorem guess_of {xs ys : List Nat} {m : Nat} (hx : Dg xs) (hy : Dg ys) (hxl : xs.length = m + 1) (hyl : ys.length = m) (hm : 0 < m) (ht : ys.getD (m - 1) 0 ≠ 0) (hlt : nv xs < 65536 * nv ys) {d : Nat} (hd : d = nv xs / nv ys) :
    hi xs (m + 1) 3 / hi ys m 2 = d ∨ hi xs (m + 1) 3 / hi ys m 2 = d + 1 := by
  have htop := top_digit hm ht
  by_cases h1 : m = 1
  · subst h1
    left
    rw [hi_one hyl, hi_two hxl, Nat.mul_div_mul_right _ _ (by omega), hd]
  · have e1 := hi_split hxl 3 (by omega)
    have e2 := hi_split hyl 2 (by omega)
    rw [show m + 1 - 3 = m - 2 by omega] at e1
    have l1 := nv_lt (hx.take (m - 2))
    have l2 := nv_lt (hy.take (m - 2))
    rw [List.length_take, Nat.min_eq_left (by omega)] at l1 l2
    exact guess_near e1 e2 l1 l2 htop hd hlt
set_option maxRecDepth 100000 in
/-- A digit of what is left, n times b taken. -/
theorem take_step {Z P c v X Y n x y d e : Int} (h : Z + P * c = X - n * Y) (hv : v = c + (x - n * y)) (hd : d = v % 65536) (he : e = v / 65536) : Z + P * d + P * 65536 * e = (X + P * x) - n * (Y + P * y) := by
  have h1 : v = 65536 * e + d := by omega
  have h2 : P * c + P * x - P * (n * y) = P * (65536 * e) + P * d := by
    rw [← Int.mul_add, ← Int.mul_sub, ← Int.mul_add, ← h1, hv]
    congr 1
    omega
  grind
/-- The digits' numbers behind division. -/
theorem take_end {z : Nat} {C T : Int} {P : Nat} (h : (z : Int) + (P : Int) * C = T) (hz : z < P) (hT : 0 ≤ T) (hT2 : T < P) : C = 0 ∧ (z : Int) = T := by
  have hC : C = 0 := by
    rcases Int.lt_trichotomy C 0 with h1 | h1 | h1
    · exfalso
      have : (P : Int) * C ≤ (P : Int) * (-1) := Int.mul_le_mul_of_nonneg_left (by omega) (by omega)
      omega
    · exact h1
    · exfalso
      have : (P : Int) * 1 ≤ (P : Int) * C := Int.mul_le_mul_of_nonneg_left (by omega) (by omega)
      omega
  subst hC
  exact ⟨rfl, by simpa using h⟩
end Go.Proofs.YtojpfmlmalmlcaaGreatDoor.G
namespace Go.Proofs.YtojpfmlmalmlcaaGreatDoor.G
open Go.RowKit
set_option maxRecDepth 100000 in
theorem dgt_digit (xs : List Nat) (n k : Nat) (j : Int) (hj : j = (n : Int) - 1 - (k : Int)) : (if j < 0 then 0 else (xs.getD j.toNat 0 : Nat) : Int) = ((dgt xs n k : Nat) : Int) := by
  unfold dgt
  by_cases h : k + 1 ≤ n
  · rw [if_neg (by omega), if_pos h]
    congr 2
    omega
  · rw [if_pos (by omega), if_neg h]
    rfl
def HighI (w : World) (xs : List Nat) (n q : Nat) (v5 v8 : Value) (wr : World) : Prop :=
  wr = w ∧ ∃ k : Nat, k ≤ q ∧ v8 = .int .i64 (k : Int) ∧ v5 = .int .i64 ((hi xs n k : Nat) : Int)
set_option maxHeartbeats 2000000 in
theorem highest_any (A : Option Addr) (n c : Nat) (xs : List Nat) (q : Nat) (hq : q ≤ 3) (w : World) (h : Digs w A n xs) (hn : n ≤ 1000) :
    Calls Tryz.prog 122 #[.slice A n c, .int .i64 (q : Int)] w fun e w' => e = .returned (.int .i64 ((hi xs n q : Nat) : Int)) ∧ w' = w := by
  have H := Lib.hid h
  clear h
  go_enter Tryz.func122, Tryz.ntmps122
  go_wp2_with fail
  go_loopw [5, 8] (fun v5 v8 wr => HighI w xs n q v5 v8 wr) (fun _ v _ => q - (intOf v).toNat)
  case atStart => exact ⟨rfl, 0, by omega, rfl, rfl⟩
  case round =>
    obtain ⟨rfl, k, hk, rfl, rfl⟩ := hrel
    by_cases hlt : k < q
    · have d1 := lt_t hlt
      have d1n := ltn_t hlt
      obtain ⟨j, hj⟩ : ∃ j : Int, j = (n : Int) - 1 - (k : Int) := ⟨_, rfl⟩
      have cD := digit_any A n c xs j wr H.out (by omega)
      rw [dgt_digit xs n k j hj] at cD
      have hx := dgt_lt H.out.2.1 n k
      have hh : hi xs n k < 140737488355328 := by
        have h1 := hi_lt H.out.2.1 n k
        have h2 : 65536 ^ k ≤ 65536 ^ 2 := Nat.pow_le_pow_right (by omega) (by omega)
        have h3 : 65536 ^ 2 = 4294967296 := by decide
        omega
      have hh2 : hi xs n k < 70368744177664 := by
        have h1 := hi_lt H.out.2.1 n k
        have h2 : 65536 ^ k ≤ 65536 ^ 2 := Nat.pow_le_pow_right (by omega) (by omega)
        have h3 : 65536 ^ 2 = 4294967296 := by decide
        omega
      have hs : hi xs n (k + 1) = hi xs n k * 65536 + dgt xs n k := rfl
      have z2 := i64_join (hi xs n k) (dgt xs n k) hh hx
      rw [← hs] at z2
      have z1 := wr_up16 hh2
      obtain ⟨v', hv'⟩ : ∃ v', v' = hi xs n (k + 1) := ⟨_, rfl⟩
      rw [← hv'] at z2
      have HV := Lib.hid hv'
      clear hs hv'
      generalize hi xs n k = v at *
      generalize dgt xs n k = x at *
      have CD := Lib.hid cD
      have HL := Lib.hid hlt
      have e1 : (n : Int) - 1 - (k : Int) = j := hj.symm
      have e2 : wrap64 j = j := by
        have : -1000 ≤ j ∧ j ≤ 1000 := by omega
        clear z1 z2
        unfold wrap64
        omega
      clear cD hx hh hh2 hj
      go_wp2_with fail
      refine CD.out.mono ?_
      rintro e v1 ⟨rfl, hw⟩; subst v1
      go_wp2_with fail
      go_roundw
      case rel => exact ⟨rfl, k + 1, HL.out, ret_val (by omega), ret_val (by rw [HV.out])⟩
      case measure => simp [intOf]; have := HL.out; omega
    · obtain rfl : k = q := by omega
      have d1 := lt_f (Nat.le_refl k)
      have d1n := ltn_f (Nat.le_refl k)
      go_wp2_with fail
      go_ret
      exact ⟨rfl, rfl⟩
theorem row_at (pre post : List Value) (zs : List Nat) (x : Nat) (r : List Nat) (o i : Nat) (ho : pre.length = o) (hi : zs.length = i) : (pre ++ dc (zs ++ x :: r) ++ post)[o + i]? = some (.int .u16 (x : Int)) := by
  subst ho hi
  rw [List.append_assoc, List.getElem?_append_right (by omega), Nat.add_sub_cancel_left, List.getElem?_append_left (by rw [dc_length]; simp), dc_get _ _ (by simp)]
  simp [List.getD]
theorem row_set (pre post : List Value) (zs : List Nat) (x d : Nat) (r : List Nat) (o i : Nat) (ho : pre.length = o) (hi : zs.length = i) : (pre ++ dc (zs ++ x :: r) ++ post).set (o + i) (.int .u16 (d : Int)) = pre ++ dc ((zs ++ [d]) ++ r) ++ post := by
  subst ho hi
  rw [List.append_assoc, List.set_append_right _ _ (by omega), Nat.add_sub_cancel_left, List.set_append_left _ _ (by rw [dc_length]; simp), dc_set, List.set_append_right _ _ (Nat.le_refl _), Nat.sub_self, List.set_cons_zero]
  simp
/-- n times b taken from i digits. -/
def TakeAt (w : World) (g l : Nat) (pre post : List Value) (xs ys : List Nat) (n : Int) (v7 v11 : Value) (wr : World) : Prop :=
  ∃ (i : Nat) (C : Int) (zs : List Nat), i ≤ l ∧ v11 = .int .i64 (i : Int) ∧ v7 = .int .i64 C ∧ -70000 ≤ C ∧ C ≤ 70000 ∧ zs.length = i ∧ Dg zs ∧
    (nv zs : Int) + ((65536 ^ i : Nat) : Int) * C = (nv (xs.take i) : Int) - n * (nv (ys.take i) : Int) ∧ Row wr g 95 (pre ++ dc (zs ++ xs.drop i) ++ post) ∧ Kept (fun k => k = g) w wr
set_option maxHeartbeats 8000000 in
theorem take_any (g o l cl : Nat) (pre post : List Value) (xs : List Nat) (B : Option Addr) (m cb : Nat) (ys : List Nat) (n : Int) (w : World)
    (hr : Row w g 95 (pre ++ dc xs ++ post)) (ho : pre.length = o) (hl : xs.length = l) (hx : Dg xs) (hB : ∀ W, Kept (fun k => k = g) w W → Digs W B m ys) (hl2 : l ≤ 1000) (hm : m ≤ 1000) (hn1 : -1 ≤ n) (hn2 : n ≤ 65536) :
    Calls Tryz.prog 123 #[.slice (some ⟨g, o, none⟩) l cl, .slice B m cb, .int .i64 n] w fun e w' => ∃ (C : Int) (zs : List Nat), e = .returned (.bool (decide (C < 0))) ∧ zs.length = l ∧ Dg zs ∧
      (nv zs : Int) + ((65536 ^ l : Nat) : Int) * C = (nv xs : Int) - n * (nv (ys.take l) : Int) ∧ Row w' g 95 (pre ++ dc zs ++ post) ∧ Kept (fun k => k = g) w w' := by
  have HR := Lib.hid hr; have HO := Lib.hid ho; have HL := Lib.hid hl; have HX := Lib.hid hx; have HB := Lib.hid hB
  clear hr ho hl hx hB
  go_enter Tryz.func123, Tryz.ntmps123
  go_wp2_with fail
  go_loopw [7, 11] (fun v7 v11 wr => TakeAt w g l pre post xs ys n v7 v11 wr) (fun _ v _ => l - (intOf v).toNat)
  case atStart => exact ⟨0, 0, [], by omega, rfl, rfl, by omega, by omega, rfl, Dg.nil, by simp [nv], by simpa using HR.out, Kept.refl _ _⟩
  case round =>
    obtain ⟨i, C, zs, hi, rfl, rfl, hc1, hc2, hzl, hz, hv, R1, B1⟩ := hrel
    have HZL := Lib.hid hzl; have HZ := Lib.hid hz; have HV := Lib.hid hv; have HR1 := Lib.hid R1; have HB1 := Lib.hid B1
    clear hzl hz hv R1 B1
    by_cases hlt : i < l
    · have d1 := lt_t hlt
      have d1n := ltn_t hlt
      have i0 : (0 : Int) ≤ (i : Int) := by omega
      have iL : (i : Int) < (l : Int) := by omega
      have hD := HB.out wr HB1.out
      have cD : Hid (∀ k, Calls Tryz.prog 140 #[.slice B m cb, .int .i64 (i : Int)] (wr.drewN k) fun e w' => e = .returned (.int .i64 ((ys.getD i 0 : Nat) : Int)) ∧ w' = wr.drewN k) := fun k => digit_nat B m cb ys i (wr.drewN k) (HB.out _ (HB1.out.drewN k)) (by omega)
      have hxi : i < xs.length := by rw [HL.out]; exact hlt
      have hx := HX.out.get i
      have hy := hD.2.1.get i
      have tx := Lib.hid (take_nv' xs i)
      have ty := Lib.hid (take_nv' ys i)
      have hrow : xs.drop i = xs.getD i 0 :: xs.drop (i + 1) := by rw [List.drop_eq_getElem_cons hxi]; simp [List.getD, hxi]
      have hR := HR1.out
      rw [hrow] at hR
      have x1 : wr.cell? ⟨g, o + i, none⟩ = some (.int .u16 ((xs.getD i 0 : Nat) : Int)) := (hR.cell (o + i)).trans (row_at pre post zs _ _ o i HO.out HZL.out)
      have fl := hR.frozen (o + i)
      have hset := fun d : Nat => hR.set (o + i) (.int .u16 (d : Int))
      generalize xs.getD i 0 = x at *
      generalize ys.getD i 0 = y at *
      obtain ⟨p, hp⟩ : ∃ p : Int, p = n * (y : Int) := ⟨_, rfl⟩
      have hp1 : -65535 ≤ p := by
        have h1 : (-1) * (y : Int) ≤ n * (y : Int) := Int.mul_le_mul_of_nonneg_right hn1 (by omega)
        omega
      have hp2 : p ≤ 4294901760 := by
        have h1 : n * (y : Int) ≤ 65536 * (y : Int) := Int.mul_le_mul_of_nonneg_right hn2 (by omega)
        omega
      obtain ⟨s, hs⟩ : ∃ s : Int, s = (x : Int) - p := ⟨_, rfl⟩
      obtain ⟨v, hv⟩ : ∃ v : Int, v = C + s := ⟨_, rfl⟩
      obtain ⟨d, hd⟩ : ∃ d : Nat, (d : Int) = v % 65536 := ⟨(v % 65536).toNat, by omega⟩
      obtain ⟨e, he⟩ : ∃ e : Int, e = v / 65536 := ⟨_, rfl⟩
      have hst := take_step (Z := (nv zs : Int)) (P := ((65536 ^ i : Nat) : Int)) (c := C) (v := v) (X := (nv (xs.take i) : Int)) (Y := (nv (ys.take i) : Int)) (n := n) (x := (x : Int)) (y := (y : Int)) (d := (d : Int)) (e := e) HV.out (by rw [hv, hs, hp]) hd he
      have HN : Hid ((nv (zs ++ [d]) : Int) + ((65536 ^ (i + 1) : Nat) : Int) * e = (nv (xs.take (i + 1)) : Int) - n * (nv (ys.take (i + 1)) : Int)) := show _ = _ by
        rw [tx.out, ty.out, nv_snoc, HZL.out, Nat.pow_succ]
        simp only [Int.natCast_add, Int.natCast_mul] at hst ⊢
        exact hst
      have HD : Hid (d < 65536) := show _ < _ by clear hst; omega
      have HE : Hid (-70000 ≤ e ∧ e ≤ 70000) := show _ ∧ _ by clear hst; omega
      have R2 := hset d
      rw [row_set pre post zs x d (xs.drop (i + 1)) o i HO.out HZL.out] at R2
      have B2 := HB1.out.setCell (p := ⟨g, o + i, none⟩) (fun _ => rfl) (.int .u16 (d : Int))
      have H2 := Lib.hid R2; have HB2 := Lib.hid B2
      have HZ2 := Lib.hid (HZ.out.append (Dg.one HD.out))
      have HZL2 : Hid ((zs ++ [d]).length = i + 1) := show _ = _ by rw [List.length_append, HZL.out]; rfl
      have HLT := Lib.hid hlt
      have ws : wrap64 s = s := by clear hst hd he; unfold wrap64; omega
      have Ws := Lib.hid ws
      clear ws
      have wv : wrap64 v = v := by clear hst hd he; unfold wrap64; omega
      have Wv := Lib.hid wv
      clear wv
      have wp : wrap64 p = p := by clear hst hd he hs hv; unfold wrap64; omega
      have z2 : IntKind.u16.wrap v = (d : Int) := by rw [hd, IntKind.wrap_u16]
      have Z2 := Lib.hid z2
      have z3 : v / 65536 = e := he.symm
      have Z3 := Lib.hid z3
      have zx := wr64 (Nat.lt_trans hx (by decide))
      have zp : n * (y : Int) = p := hp.symm
      have zs' : (x : Int) - p = s := hs.symm
      have zv : C + s = v := hv.symm
      have ws := Ws.out
      have wv := Wv.out
      clear hst hd he hv hs hp hp1 hp2 hset R2 B2 hrow hR hx hy hD hxi z2 z3 HV HR1 HB1 HZ tx ty
      go_wp2_with fail
      go_quiet (first | (go_at_call 140; exact Calls.quiet_of_same (cD.out _)))
      have H3 : Hid (Row ((wr.drewN nq).setCell ⟨g, o + i, none⟩ (.int .u16 (d : Int))) g 95 (pre ++ dc ((zs ++ [d]) ++ xs.drop (i + 1)) ++ post)) := H2.out
      have HB3 : Hid (Kept (fun k => k = g) w ((wr.drewN nq).setCell ⟨g, o + i, none⟩ (.int .u16 (d : Int)))) := ⟨HB2.out.os, HB2.out.tape, HB2.out.output, HB2.out.size, HB2.out.block⟩
      have x2 : (wr.drewN nq).cell? ⟨g, o + i, none⟩ = some (.int .u16 (x : Int)) := x1
      have fl2 : (wr.drewN nq).frozen? ⟨g, o + i, none⟩ = false := fl
      clear x1 fl H2 HB2 cD
      generalize wr.drewN nq = wd at *
      clear ws zx zp zs' zv
      have z2 := Z2.out
      have z3 := Z3.out
      go_wp2_with fail
      go_roundw
      case rel => exact ⟨i + 1, e, zs ++ [d], HLT.out, ret_val (by have := HLT.out; omega), rfl, HE.out.1, HE.out.2, HZL2.out, HZ2.out, HN.out, H3.out, HB3.out⟩
      case measure => simp [intOf]; have := HLT.out; omega
    · obtain rfl : i = l := by omega
      have d1 := lt_f (Nat.le_refl i)
      have d1n := ltn_f (Nat.le_refl i)
      have hV := HV.out
      rw [List.take_of_length_le (l := xs) (by rw [HL.out]; exact Nat.le_refl _)] at hV
      have hR := HR1.out
      rw [List.drop_eq_nil_of_le (by rw [HL.out]; exact Nat.le_refl _), List.append_nil] at hR
      have H1 := Lib.hid hV; have H2 := Lib.hid hR
      clear hV hR HV HR1
      go_wp2_with fail
      go_ret
      exact ⟨C, zs, rfl, HZL.out, HZ.out, H1.out, H2.out, HB1.out⟩
end Go.Proofs.YtojpfmlmalmlcaaGreatDoor.G
namespace Go.Proofs.YtojpfmlmalmlcaaGreatDoor.G
open Go.RowKit
theorem quoN {x y q : Nat} (h : q = x / y) : (x : Int).tdiv (y : Int) = (q : Int) := by rw [h]; simp
set_option maxHeartbeats 8000000 in
theorem once_any (g o cl : Nat) (pre post : List Value) (xs : List Nat) (B : Option Addr) (m cb b : Nat) (w : World)
    (hr : Row w g 95 (pre ++ dc xs ++ post)) (ho : pre.length = o) (hl : xs.length = m + 1) (hx : Dg xs) (hB : ∀ W, Kept (fun k => k = g) w W → Digs W B m (dg b)) (hm : m ≤ 900) (hb0 : b ≠ 0) (hlt : nv xs < 65536 * b) (d : Nat) (hd : d = nv xs / b) (l : Nat) (hlm : l = m + 1) :
    Calls Tryz.prog 91 #[.slice (some ⟨g, o, none⟩) l cl, .slice B m cb] w fun e w' => e = .returned (.int .u16 (d : Int)) ∧ ∃ zs : List Nat, zs.length = m + 1 ∧ Dg zs ∧
      nv zs = nv xs % b ∧ Row w' g 95 (pre ++ dc zs ++ post) ∧ Kept (fun k => k = g) w w' := by
  have hlx : xs.length = l := by omega
  have hBw := hB w (Kept.refl _ _)
  have hm0 : 0 < m := by have := dg_some hb0; have := hBw.1; omega
  have htop : (dg b).getD (m - 1) 0 ≠ 0 := dg_last b (m - 1) (by have := hBw.1; omega)
  have hy := hBw.2.1
  have hyl := hBw.1
  have hguess := guess_of hx hy hl hyl hm0 htop (by rw [nv_dg]; exact hlt) (d := d) (by rw [nv_dg]; exact hd)
  have htk : nv ((dg b).take l) = b := by rw [List.take_of_length_le (by omega), nv_dg]
  have hbl : b < 65536 ^ l := (dg_len b l).1 (by omega)
  have hd65 : d < 65536 := by rw [hd]; exact (Nat.div_lt_iff_lt_mul (by omega)).2 hlt
  have hW := div_here (W := nv xs) (b := b) hd
  have hmod := Nat.mod_lt (nv xs) (Nat.pos_of_ne_zero hb0)
  obtain ⟨r, hrr⟩ : ∃ r, r = nv xs % b := ⟨_, rfl⟩
  rw [← hrr] at hW hmod ⊢
  have cH := highest_any (some ⟨g, o, none⟩) l cl xs 3 (by omega) w (Row.digs hr hx ho hlx) (by omega)
  have cB := highest_any B m cb (dg b) 2 (by omega) w hBw (by omega)
  rw [show ((3 : Nat) : Int) = 3 from rfl] at cH
  rw [show ((2 : Nat) : Int) = 2 from rfl] at cB
  have h3 := hi_lt hx l 3
  have hb2 := top_digit (xs := dg b) hm0 htop
  have h2 := hi_lt hy m 2
  rw [← hlm] at hguess hl
  obtain ⟨q, hq⟩ : ∃ q, q = hi xs l 3 / hi (dg b) m 2 := ⟨_, rfl⟩
  rw [← hq] at hguess
  have zq := quoN hq
  have e3 : 65536 ^ 3 = 281474976710656 := by decide
  rw [e3] at h3
  generalize hi xs l 3 = H3 at *
  generalize hi (dg b) m 2 = H2 at *
  have zq0 : ¬ H2 = 0 := by omega
  have zq1 : ¬ (H2 : Int) = 0 := by omega
  have bq1 : (q : Int) ≤ 65536 := by omega
  have bq2 : -1 ≤ (q : Int) := by omega
  have bl1 : l ≤ 1000 := by omega
  have bm1 : m ≤ 1000 := by omega
  have hl9 : l ≤ 901 := by omega
  have hm1 : m ≤ 900 := hm
  have bq : q < 4611686018427387904 := by omega
  have bd : d < 4611686018427387904 := by omega
  have bd1 : d + 1 < 4611686018427387904 := by omega
  have wq := wr64 bq
  have wd := wr64 bd
  have wd1 := wr64 bd1
  have w16 := wr16 hd65
  have CH := Lib.hid cH; have CB := Lib.hid cB; have HT := Lib.hid htk; have HBL := Lib.hid hbl; have HW := Lib.hid hW; have HM := Lib.hid hmod; have HB := Lib.hid hB
  have HO := Lib.hid ho; have HLX := Lib.hid hlx
  have Hd := Lib.hid hd65
  have cT := Lib.hid (take_any g o l cl pre post xs B m cb (dg b) (q : Int) w hr ho hlx hx hB bl1 bm1 bq2 bq1)
  have WD := Lib.hid wd; have W16 := Lib.hid w16
  have Hlm := Lib.hid hlm
  have WQ := Lib.hid wq; have ZQ := Lib.hid zq; have WD1 := Lib.hid wd1
  clear wq zq wd1 bq bd bd1 bq1 bq2
  clear cH cB htk hbl hW hmod hB ho hlx hBw htop hy hyl h3 hb2 h2 hd hrr hl hq hlt hx hr hb0 e3 wd w16 hm0 hlm
  rcases hguess with rfl | rfl
  · go_enter Tryz.func91, Tryz.ntmps91
    go_wp2_with fail
    refine CH.out.mono ?_
    rintro e v1 ⟨rfl, hw⟩; subst v1
    go_wp2_with fail
    refine CB.out.mono ?_
    rintro e v1 ⟨rfl, hw⟩; subst v1
    have zq := ZQ.out
    have wq := WQ.out
    go_wp2_with fail
    clear zq wq
    refine cT.out.mono ?_
    rintro e w1 ⟨C, zs, rfl, hzl, hz, hv, R1, B1⟩
    rw [HT.out] at hv
    have hlz := nv_lt hz
    rw [hzl] at hlz
    have hT : (nv xs : Int) - (q : Int) * (b : Int) = (r : Int) := by rw [HW.out]; simp; omega
    obtain ⟨hC, hE⟩ := take_end hv hlz (by rw [hT]; omega) (by rw [hT]; have := HM.out; have := HBL.out; omega)
    have hdec : decide (C < 0) = false := by rw [hC]; rfl
    rw [hdec]
    have HE : Hid (nv zs = r) := show _ = _ by rw [hT] at hE; omega
    have HZL := Lib.hid hzl; have HZ := Lib.hid hz; have HR1 := Lib.hid R1; have HB1 := Lib.hid B1
    clear hv hlz hT hE hdec hzl hz R1 B1
    have w16 := W16.out
    go_wp2_with fail
    go_ret
    exact ⟨rfl, zs, by rw [HZL.out, Hlm.out], HZ.out, HE.out, HR1.out, HB1.out⟩
  · go_enter Tryz.func91, Tryz.ntmps91
    go_wp2_with fail
    refine CH.out.mono ?_
    rintro e v1 ⟨rfl, hw⟩; subst v1
    go_wp2_with fail
    refine CB.out.mono ?_
    rintro e v1 ⟨rfl, hw⟩; subst v1
    have zq := ZQ.out
    have wq := WQ.out
    go_wp2_with fail
    clear zq wq
    refine cT.out.mono ?_
    rintro e w1 ⟨C, zs, rfl, hzl, hz, hv, R1, B1⟩
    rw [HT.out] at hv
    have hlz := nv_lt hz
    rw [hzl] at hlz
    have hT : (nv xs : Int) - ((d + 1 : Nat) : Int) * (b : Int) = (r : Int) - (b : Int) := by rw [HW.out]; simp [Int.add_mul]; omega
    rw [hT] at hv
    have hv2 : (nv zs : Int) + ((65536 ^ l : Nat) : Int) * (C + 1) = (r : Int) - (b : Int) + ((65536 ^ l : Nat) : Int) := by
      rw [Int.mul_add, Int.mul_one, ← hv]
      omega
    obtain ⟨hC, hE⟩ := take_end hv2 hlz (by have := HM.out; have := HBL.out; omega) (by have := HM.out; omega)
    have hdec : decide (C < 0) = true := by simp; omega
    rw [hdec]
    have HE := Lib.hid hE
    have cU := Lib.hid (take_any g o l cl pre post zs B m cb (dg b) (-1) w1 R1 HO.out hzl hz (fun W BW => HB.out W (B1.trans BW (fun _ _ h => h))) (by omega) (by omega) (by omega) (by omega))
    have HB1 := Lib.hid B1
    have zd : ((d + 1 : Nat) : Int) - 1 = (d : Int) := by omega
    have wd := WD.out
    clear hv hlz hT hE hdec hzl hz R1 B1 hv2
    go_wp2_with fail
    refine cU.out.mono ?_
    rintro e w2 ⟨C2, zs2, rfl, hzl, hz, hv, R1, B1⟩
    rw [HT.out] at hv
    have hlz := nv_lt hz
    rw [hzl] at hlz
    have hv2 : (nv zs2 : Int) + ((65536 ^ l : Nat) : Int) * (C2 - 1) = (r : Int) := by
      have hE := HE.out
      rw [Int.mul_sub, Int.mul_one]
      rw [hE] at hv
      omega
    obtain ⟨_, hE⟩ := take_end hv2 hlz (by omega) (by have := HM.out; have := HBL.out; omega)
    have HE2 : Hid (nv zs2 = r) := show _ = _ by omega
    have HZL := Lib.hid hzl; have HZ := Lib.hid hz; have HR1 := Lib.hid R1; have HB2 := Lib.hid (HB1.out.trans B1 (fun _ _ h => h))
    clear hv hlz hE hzl hz R1 B1 hv2
    have w16 := W16.out
    go_wp2_with fail
    go_ret
    exact ⟨rfl, zs2, by rw [HZL.out, Hlm.out], HZ.out, HE2.out, HR1.out, HB2.out⟩
end Go.Proofs.YtojpfmlmalmlcaaGreatDoor.G

namespace Go.Proofs.YtojpfmlmalmlcaaGreatDoor.G
open Go.RowKit
set_option maxRecDepth 100000 in
theorem make_nats (n : Nat) (hn : n ≤ 1000000) (L : List Value) (hL : L = dc (List.replicate n 0)) (w : World) : (Instr.makeSlice 58 (.int .i64 (n : Int)) (.int .i64 (n : Int))).run Tryz.prog w = .ok (.slice (some ⟨w.heap.size, 0, none⟩) n n) (w.alloc (.cells L.toArray 95)) := by
  subst hL
  obtain ⟨i, hi, hz, hs, hb⟩ := info_parts (P := Tryz.prog) (e := 95) (z := .int .u16 0) (size := 1) (bytes := 2) (by kernel_rfl)
  have h := run_makeSlice (P := Tryz.prog) w 58 95 i _ Tryz.underlying58 hi hz .i64 .i64 (n : Int) (n : Int) (by omega) (by omega) (by rw [hs]; simp; omega) (by rw [hb]; omega) (by omega)
  rw [h, hs]
  congr 3
  rw [Int.toNat_natCast]
  apply Array.ext
  · simp [madeCells, dc]
  · intro c c1 c2
    simp only [madeCells, Array.getElem_map, Array.getElem_range, Value.cells]
    rw [show (#[.int .u16 0] : Array Value).size = 1 from rfl, Nat.mod_one]
    simp [dc]
/-- A window of a row, and what lies above it, which is worth nothing. -/
theorem window {ls : List Nat} {j m b N : Nat} (hd : Dg ls) (hl : ls.length = N) (hj : j + m + 1 ≤ N) (hb : b < 65536 ^ m) (hlt : nv ls < 65536 ^ (j + 1) * b) :
    ∃ xs : List Nat, xs = (ls.drop j).take (m + 1) ∧ xs.length = m + 1 ∧ Dg xs ∧ ls = ls.take j ++ xs ++ ls.drop (j + m + 1) ∧ nv ls = nv (ls.take j) + 65536 ^ j * nv xs ∧ nv xs < 65536 * b ∧ nv (ls.drop (j + m + 1)) = 0 := by
  refine ⟨_, rfl, by rw [List.length_take, List.length_drop]; omega, (hd.drop j).take _, ?_, ?_⟩
  · rw [List.append_assoc, show ls.drop (j + m + 1) = (ls.drop j).drop (m + 1) by rw [List.drop_drop]; congr 1, List.take_append_drop, List.take_append_drop]
  · have e1 := take_drop_nv ls j (by omega)
    have e2 := take_drop_nv (ls.drop j) (m + 1) (by rw [List.length_drop]; omega)
    rw [List.drop_drop, show j + (m + 1) = j + m + 1 by omega] at e2
    have hz : nv (ls.drop (j + m + 1)) = 0 := by
      rcases Nat.eq_zero_or_pos (nv (ls.drop (j + m + 1))) with h | h
      · exact h
      · exfalso
        have h1 : 65536 ^ (m + 1) * 1 ≤ 65536 ^ (m + 1) * nv (ls.drop (j + m + 1)) := Nat.mul_le_mul_left _ h
        have h2 : 65536 ^ j * 65536 ^ (m + 1) ≤ 65536 ^ j * nv (ls.drop j) := Nat.mul_le_mul_left _ (by omega)
        have h3 : 65536 ^ (j + 1) * b ≤ 65536 ^ (j + 1) * 65536 ^ m := Nat.mul_le_mul_left _ (Nat.le_of_lt hb)
        rw [← Nat.pow_add] at h2 h3
        rw [show j + 1 + m = j + (m + 1) by omega] at h3
        omega
    rw [hz, Nat.mul_zero, Nat.add_zero] at e2
    refine ⟨by rw [e1, e2], ?_, hz⟩
    have h5 : 65536 ^ j * nv ((ls.drop j).take (m + 1)) < 65536 ^ j * (65536 * b) := by
      rw [← e2]
      rw [Nat.pow_succ, Nat.mul_assoc] at hlt
      omega
    exact Nat.lt_of_mul_lt_mul_left h5
/-- One digit more of the quotient. -/
theorem digit_more {ls xs zs qs : List Nat} {j b d a : Nat} {post : List Nat} (hpre : (ls.take j).length = j) (hdl : Dg ls) (hls : nv ls = nv (ls.take j) + 65536 ^ j * nv xs) (hp : nv post = 0) (hz : nv zs = nv xs % b) (hd : d = nv xs / b) (hb : b ≠ 0)
    (hq : nv (qs.set j d) = nv qs + 65536 ^ j * d) (ha : a = nv qs * b + nv ls) :
    a = nv (qs.set j d) * b + nv (ls.take j ++ zs ++ post) ∧ nv (ls.take j ++ zs ++ post) < 65536 ^ j * b := by
  have e1 : nv (ls.take j ++ zs ++ post) = nv (ls.take j) + 65536 ^ j * (nv xs % b) := by
    rw [nv_append, nv_append, hp, hpre, hz, Nat.mul_zero, Nat.add_zero]
  have e2 := div_here (W := nv xs) (b := b) hd
  refine ⟨?_, ?_⟩
  · rw [e1, hq, ha, hls]
    generalize nv xs % b = r at *
    rw [e2]
    grind
  · rw [e1]
    have h1 : nv (ls.take j) < 65536 ^ j := by
      have := nv_lt (hdl.take j)
      rwa [hpre] at this
    have h2 := Nat.mod_lt (nv xs) (Nat.pos_of_ne_zero hb)
    have h3 : 65536 ^ j * (nv xs % b + 1) ≤ 65536 ^ j * b := Nat.mul_le_mul_left _ h2
    rw [Nat.mul_add, Nat.mul_one] at h3
    omega
theorem meas_lt (j : Nat) : ((j : Int) - 1 + 1).toNat < ((j : Int) + 1).toNat := by omega
/-- What holds at the head of Div's loop. -/
def DivI (w : World) (gl gq a b n k0 : Nat) (v8 : Value) (wr : World) : Prop :=
  ∃ (i : Nat) (qs ls : List Nat), i ≤ k0 ∧ v8 = .int .i64 ((i : Int) - 1) ∧ Row wr gq 95 (dc qs) ∧ qs.length = k0 ∧ Dg qs ∧ nv (qs.take i) = 0 ∧ Row wr gl 95 (dc ls) ∧ ls.length = n + 1 ∧ Dg ls ∧
    a = nv qs * b + nv ls ∧ nv ls < 65536 ^ i * b ∧ Below w.heap.size w wr
theorem zero_at {qs : List Nat} {j : Nat} (h : nv (qs.take (j + 1)) = 0) : nv (qs.take j) = 0 ∧ qs.getD j 0 = 0 := by
  rw [take_nv'] at h
  have h1 : nv (qs.take j) = 0 := by omega
  have h2 : 65536 ^ j * qs.getD j 0 = 0 := by omega
  have h3 := pow_posB j
  refine ⟨h1, ?_⟩
  rcases Nat.mul_eq_zero.1 h2 with h | h
  · omega
  · exact h
set_option maxHeartbeats 8000000 in
theorem div_some (A : Option Addr) (n c : Nat) (a : Nat) (B : Option Addr) (m d0 : Nat) (b : Nat) (w : World) (h1 : Digs w A n (dg a)) (h2 : Digs w B m (dg b)) (ha : a < top) (hb : b < top) (hb0 : b ≠ 0) (k0 : Nat) (hk : (m ≤ n + 1 ∧ k0 = n + 1 - m) ∨ (n + 1 < m ∧ k0 = 0)) :
    Calls Tryz.prog 64 #[.slice A n c, .slice B m d0] w fun e w' => ∃ Q R kq kr, e = .returned (.tuple #[.slice Q (dg (a / b)).length kq, .slice R (dg (a % b)).length kr, .bool true]) ∧
      Digs w' Q (dg (a / b)).length (dg (a / b)) ∧ Digs w' R (dg (a % b)).length (dg (a % b)) ∧ Below w.heap.size w w' := by
  have c1 := Lib.hid (is_yes A n c a w h1 ha)
  have c2 := Lib.hid (is_yes B m d0 b w h2 hb)
  have hn : n ≤ 256 := by have := top_len ha; have := h1.1; omega
  have hm : m ≤ 256 := by have := top_len hb; have := h2.1; omega
  have hm0 : 0 < m := by have := dg_some hb0; have := h2.1; omega
  have hbm : b < 65536 ^ m := (dg_len b m).1 (by have := h2.1; omega)
  have hstart : a < 65536 ^ k0 * b := by
    have h3 : 65536 ^ (m - 1) ≤ b := nv_dg_ge (by have := h2.1; omega)
    have h4 : a < 65536 ^ n := (dg_len a n).1 (by have := h1.1; omega)
    rcases hk with ⟨h5, h6⟩ | ⟨h5, h6⟩
    · have h7 : 65536 ^ n ≤ 65536 ^ k0 * 65536 ^ (m - 1) := by
        rw [← Nat.pow_add]
        exact Nat.pow_le_pow_right (by omega) (by omega)
      have h8 : 65536 ^ k0 * 65536 ^ (m - 1) ≤ 65536 ^ k0 * b := Nat.mul_le_mul_left _ h3
      omega
    · have h7 : 65536 ^ n ≤ 65536 ^ (m - 1) := Nat.pow_le_pow_right (by omega) (by omega)
      rw [h6, Nat.pow_zero, Nat.one_mul]
      omega
  have hk1 : k0 ≤ 257 := by omega
  have hkm : k0 = 0 ∨ k0 + m = n + 1 := by omega
  obtain ⟨N, hN⟩ : ∃ N, N = n + 1 := ⟨_, rfl⟩
  obtain ⟨L, hL⟩ : ∃ L, L = dc (List.replicate N 0) := ⟨_, rfl⟩
  obtain ⟨M, hM⟩ : ∃ M, M = dc (List.replicate k0 0) := ⟨_, rfl⟩
  have mk := make_nats N (by omega) L hL w
  have MK : Hid (∀ W : World, (Instr.makeSlice 58 (.int .i64 (k0 : Int)) (.int .i64 (k0 : Int))).run Tryz.prog W = .ok (.slice (some ⟨W.heap.size, 0, none⟩) k0 k0) (W.alloc (.cells M.toArray 95))) := fun W => make_nats k0 (by omega) M hM W
  have H1 := Lib.hid h1; have H2 := Lib.hid h2; have HL := Lib.hid hL; have HM := Lib.hid hM; have HN := Lib.hid hN; have HK := Lib.hid hk; have HKM := Lib.hid hkm; have HS := Lib.hid hstart; have HBM := Lib.hid hbm; have HB0 := Lib.hid hb0
  have hm00 : ((m : Int) == 0) = false := beq0_f (by omega)
  have hm00n : (m == 0) = false := by simp; omega
  have eN : (n : Int) + 1 = (N : Int) := by omega
  have eNn : N ≤ 257 := by omega
  have hxl : (dc (dg a)).length = Nat.min n N := by
    rw [dc_length, h1.1, hN]
    exact (Nat.min_eq_left (by omega)).symm
  have HXL := Lib.hid hxl
  have ONE := Lib.hid (dc_one (dg a))
  have hM0 := Lib.hid hm0
  have hsz := Lib.hid (show (Tryz.prog.info? 95).map (·.size) = some 1 by kernel_rfl)
  clear h1 h2 ha hb hbm hstart hb0 hk hkm hL hM hxl hN
  go_enter Tryz.func64, Tryz.ntmps64
  go_wp2_with fail
  refine c1.out.mono ?_
  rintro e v1 ⟨rfl, hw⟩; subst v1
  go_wp2_with fail
  refine c2.out.mono ?_
  rintro e v1 ⟨rfl, hw⟩; subst v1
  have R0 : Row (w.alloc (.cells L.toArray 95)) w.heap.size 95 L := Row.new w _ _
  have B0 : Below w.heap.size w (w.alloc (.cells L.toArray 95)) := (Below.refl _ _).alloc (Nat.le_refl _) _
  have HR0 := Lib.hid R0; have HB0' := Lib.hid B0
  have HPOS : Hid (0 < (dc (dg a)).length → ∃ ad, A = some ad ∧ ∀ j v, (dc (dg a))[j]? = some v → (w.alloc (.cells L.toArray 95)).cell? (ad.add j) = some v) := fun hp => by
    have hx := H1.out.1
    rw [dc_length] at hp
    obtain ⟨b1, o1, e, hb1, hc⟩ := H1.out.2.2 (by omega)
    refine ⟨_, e, fun j v hj => ?_⟩
    have hj' : j < (dg a).length := by
      have := (List.getElem?_eq_some_iff.1 hj).1
      rwa [dc_length] at this
    rw [Addr.add_lit, (B0.cell (p := ⟨b1, o1 + j, none⟩) hb1).trans (hc j (by omega))]
    rw [dc_get _ j hj'] at hj
    exact hj
  have hfit : Hid (0 + (dc (dg a)).length ≤ L.length) := show _ ≤ _ by
    rw [HL.out, dc_length, dc_length, List.length_replicate, H1.out.1]
    have := HN.out
    omega
  clear R0 B0 c1 c2
  go_wp2_with (first | (refine wpList_copy_splice rfl (.tmp 26) (.tmp 27) 58 58 rfl 95 Tryz.underlying58 hsz.out (some ⟨w.heap.size, 0, none⟩) A N N n c rfl rfl w.heap.size 0 L 95 HR0.out (dc (dg a)) HXL.out (fun h => ⟨rfl, HPOS.out h⟩) hfit.out ONE.out w.heap.size w HB0'.out (Nat.le_refl _) ?_))
  intro W1 hg1 B1
  have hsp : splice L 0 (dc (dg a)) = dc (dg a ++ [0]) := by
    have hx := H1.out.1
    rw [HL.out, dc_append]
    simp [splice, dc, hx, HN.out]
  rw [hsp] at hg1
  obtain ⟨gl, hgl⟩ : ∃ gl, gl = w.heap.size := ⟨_, rfl⟩
  rw [← hgl] at hg1 ⊢
  have RL : Row W1 gl 95 (dc (dg a ++ [0])) := hg1.out
  have HRL := Lib.hid RL; have HB1 := Lib.hid B1; have HGL := Lib.hid hgl
  have MK1 := MK.out W1
  clear hg1 B1 hsp RL hgl HR0 HB0' HPOS hfit ONE HXL HL mk MK hsz
  rcases HK.out with hcase | hcase
  · have e2 : (N : Int) - (m : Int) = (k0 : Int) := by have := HN.out; omega
    have hnn : ¬ (k0 : Int) < 0 := by omega
    clear hcase
    go_wp2_with fail
    have RQ : Row (W1.alloc (.cells M.toArray 95)) W1.heap.size 95 M := Row.new W1 _ _
    have RL : Row (W1.alloc (.cells M.toArray 95)) gl 95 (dc (dg a ++ [0])) := HRL.out.past _
    have B2 := HB1.out.alloc HB1.out.size (.cells M.toArray 95)
    have hlq : gl < W1.heap.size := HRL.out.lt
    obtain ⟨gq, hgq⟩ : ∃ gq, gq = W1.heap.size := ⟨_, rfl⟩
    rw [← hgq] at RQ hlq ⊢
    have hgq2 : w.heap.size ≤ gq := by have := HB1.out.size; omega
    have hne : gq ≠ gl := by omega
    rw [HM.out] at RQ RL B2 ⊢
    generalize W1.alloc (.cells (dc (List.replicate k0 0)).toArray 95) = W2 at *
    have HRQ := Lib.hid RQ; have HRL2 := Lib.hid RL; have HB2 := Lib.hid B2; have HGQ := Lib.hid hgq2; have HNE := Lib.hid hne
    clear RQ RL B2 hgq2 hne hlq hgq MK1 HRL HB1 e2 hnn
    go_loopw [8] (fun v wr => DivI w gl gq a b n k0 v wr) (fun v _ => (intOf v + 1).toNat)
    case atStart =>
      refine ⟨k0, List.replicate k0 0, dg a ++ [0], Nat.le_refl _, rfl, HRQ.out, List.length_replicate, Dg.noughts k0, by rw [List.take_replicate]; exact nv_noughts _, HRL2.out, by rw [List.length_append, H1.out.1]; rfl, (dg_dg a).append (Dg.one (by decide)), ?_, ?_, HB2.out⟩
      · rw [nv_noughts, nv_snoc, nv_dg]; omega
      · rw [nv_snoc, nv_dg]
        have := HS.out
        simpa using this
    case round =>
      clear HRQ HRL2 HB2
      obtain ⟨i, qs, ls, hi, rfl, R1, hql, hq, hqz, R2, hll, hl, hv, hlt, B1⟩ := hrel
      cases i with
      | zero =>
        have e0 : (((0 : Nat) : Int) - 1) = -1 := by decide
        rw [e0]
        rw [Nat.pow_zero, Nat.one_mul] at hlt
        have hquo : a / b = nv qs := by
          rw [hv, Nat.mul_comm, Nat.add_comm, Nat.add_mul_div_left _ _ (Nat.pos_of_ne_zero HB0.out), Nat.div_eq_of_lt hlt, Nat.zero_add]
        have hrem : a % b = nv ls := by
          rw [hv, Nat.mul_comm, Nat.add_comm, Nat.add_mul_mod_self_left, Nat.mod_eq_of_lt hlt]
        have cQ := Lib.hid (trimmed_any (some ⟨gq, 0, none⟩) k0 k0 qs wr (row_digs R1 hq hql) (by omega) (Nat.le_refl _) (by omega))
        have cR := Lib.hid (trimmed_any (some ⟨gl, 0, none⟩) N N ls wr (row_digs R2 hl (by rw [hll, HN.out])) (by omega) (Nat.le_refl _) (by omega))
        rw [← hquo] at cQ
        rw [← hrem] at cR
        have HB := Lib.hid B1
        clear R1 R2 hql hq hqz hll hl hv hlt B1 hquo hrem
        go_wp2_with fail
        refine cQ.out.mono ?_
        rintro e v1 ⟨rfl, hD, _, hw⟩; subst v1
        have HDQ := Lib.hid hD
        clear hD
        go_wp2_with fail
        refine cR.out.mono ?_
        rintro e v1 ⟨rfl, hD, _, hw⟩; subst v1
        have HDR := Lib.hid hD
        clear hD
        go_wp2_with fail
        go_ret3
        exact ⟨_, _, _, _, rfl, HDQ.out, HDR.out, HB.out⟩
      | succ j =>
        have e0 : (((j + 1 : Nat) : Int) - 1) = (j : Int) := by omega
        rw [e0]
        have hroom : j + m + 1 ≤ n + 1 := by have := HKM.out; omega
        obtain ⟨xs, hxs, hxl, hx, hparts, hval, hxb, hzero⟩ := window hl hll hroom HBM.out hlt
        have hpl : (ls.take j).length = j := by rw [List.length_take]; omega
        have d1 : decide ((0 : Int) ≤ (j : Int)) = true := by simp
        have j0 : (0 : Int) ≤ (j : Int) := by omega
        have jk : (j : Int) < (k0 : Int) := by omega
        obtain ⟨h, hh⟩ : ∃ h, h = j + m := ⟨_, rfl⟩
        obtain ⟨t, ht⟩ : ∃ t, t = h + 1 := ⟨_, rfl⟩
        have zh : (j : Int) + (m : Int) = (h : Int) := by omega
        have zt : (h : Int) + 1 = (t : Int) := by omega
        have jt : (j : Int) ≤ (t : Int) := by omega
        have jtn : j ≤ t := by omega
        have tN : (t : Int) ≤ (N : Int) := by have := HN.out; omega
        have tNn : t ≤ N := by have := HN.out; omega
        have jN : ¬ N = j := by have := HN.out; omega
        have hR2 := R2
        rw [hparts, dc_append, dc_append] at hR2
        obtain ⟨d, hd⟩ : ∃ d, d = nv xs / b := ⟨_, rfl⟩
        have cO := Lib.hid (once_any gl j (N - j) (dc (ls.take j)) (dc (ls.drop (j + m + 1))) xs B m d0 b wr hR2 (by rw [dc_length, hpl]) hxl hx (fun W BW => H2.out.below (B1.trans (BW.below B1.size (fun k hk e => by have := HGL.out; omega)))) (by omega) HB0.out hxb d hd (t - j) (by omega))
        have hz := zero_at hqz
        have hset := nv_set qs j d (by omega)
        rw [hz.2, Nat.mul_zero, Nat.add_zero] at hset
        have hd65 : d < 65536 := by rw [hd]; exact (Nat.div_lt_iff_lt_mul (Nat.pos_of_ne_zero HB0.out)).2 hxb
        have HMORE : Hid (∀ zs : List Nat, zs.length = m + 1 → nv zs = nv xs % b → a = nv (qs.set j d) * b + nv (ls.take j ++ zs ++ ls.drop (j + m + 1)) ∧ nv (ls.take j ++ zs ++ ls.drop (j + m + 1)) < 65536 ^ j * b) :=
          fun zs _ hzz => digit_more hpl hl hval hzero hzz hd HB0.out hset hv
        have HQ2 : Hid (nv ((qs.set j d).take j) = 0) := show _ = _ by rw [List.take_set_of_le (Nat.le_refl j)]; exact hz.1
        have HR1 := Lib.hid R1; have HB := Lib.hid B1
        have HDQ : Hid (Dg (qs.set j d)) := hq.set hd65
        have HQL : Hid ((qs.set j d).length = k0) := show _ = _ by rw [List.length_set, hql]
        have HQL0 := Lib.hid hql
        have HLD : Hid (Dg (ls.take j) ∧ Dg (ls.drop (j + m + 1))) := ⟨hl.take _, hl.drop _⟩
        have HLL : Hid (∀ zs : List Nat, zs.length = m + 1 → (ls.take j ++ zs ++ ls.drop (j + m + 1)).length = n + 1) := fun zs hzz => by
          rw [List.length_append, List.length_append, hpl, hzz, List.length_drop, hll]
          omega
        have HI : Hid (j ≤ k0) := show _ ≤ _ by omega
        clear R1 R2 hR2 B1 hxs hxl hx hparts hval hxb hzero hpl hh ht hd hz hset hd65 hql hq hqz hll hl hv hlt hroom hi e0
        go_wp2_with fail
        refine cO.out.mono ?_
        rintro e w3 ⟨rfl, zs, hzl, hz, hzv, R3, B3⟩
        have hm3 := HMORE.out zs hzl hzv
        have hl3 := HLL.out zs hzl
        have RQ := HR1.out
        have RQ3 : Row w3 gq 95 (dc qs) := (B3.block gq RQ.lt HNE.out).trans RQ
        have B4 := HB.out.trans (B3.below HB.out.size (fun k hk e => by have := HGL.out; omega))
        rw [← dc_append, ← dc_append] at R3
        have x1 : w3.cell? ⟨gq, j, none⟩ = some (.int .u16 ((qs.getD j 0 : Nat) : Int)) := (RQ3.cell j).trans (dc_get qs j (by have := HQL0.out; omega))
        have fl := RQ3.frozen j
        have RQ4 := RQ3.set j (.int .u16 (d : Int))
        rw [dc_set] at RQ4
        have RL4 := R3.other (a := ⟨gq, j, none⟩) (fun h => HNE.out h.symm) (.int .u16 (d : Int))
        have B5 := B4.setCell (p := ⟨gq, j, none⟩) HGQ.out (.int .u16 (d : Int))
        have H4 := Lib.hid RQ4; have H5 := Lib.hid RL4; have H6 := Lib.hid B5; have H7 := Lib.hid hm3; have H8 := Lib.hid hl3
        have H9 : Hid (Dg (ls.take j ++ zs ++ ls.drop (j + m + 1))) := (HLD.out.1.append hz).append HLD.out.2
        generalize qs.getD j 0 = x at x1
        clear hm3 hl3 RQ RQ3 B4 R3 RQ4 RL4 B5 B3 hzl hz hzv HR1 HB HMORE HLL zh zt jt jtn tN tNn jN cO
        go_wp2_with fail
        go_roundw
        case rel => exact ⟨j, qs.set j d, ls.take j ++ zs ++ ls.drop (j + m + 1), HI.out, ret_val (by omega), H4.out, HQL.out, HDQ.out, HQ2.out, H5.out, H8.out, H9.out, H7.out.1, H7.out.2, H6.out⟩
        case measure => exact meas_lt j
  · obtain ⟨z, hz⟩ : ∃ z : Int, z = (N : Int) - (m : Int) := ⟨_, rfl⟩
    have zneg : z < 0 := by have := HN.out; omega
    have e2 : (N : Int) - (m : Int) = z := hz.symm
    have ez : wrap64 z = z := by unfold wrap64; omega
    obtain rfl : k0 = 0 := hcase.2
    rw [show ((0 : Nat) : Int) = 0 from rfl] at MK1
    clear hcase hz
    go_wp2_with fail
    have RQ : Row (W1.alloc (.cells M.toArray 95)) W1.heap.size 95 M := Row.new W1 _ _
    have RL : Row (W1.alloc (.cells M.toArray 95)) gl 95 (dc (dg a ++ [0])) := HRL.out.past _
    have B2 := HB1.out.alloc HB1.out.size (.cells M.toArray 95)
    have hlq : gl < W1.heap.size := HRL.out.lt
    obtain ⟨gq, hgq⟩ : ∃ gq, gq = W1.heap.size := ⟨_, rfl⟩
    rw [← hgq] at RQ hlq ⊢
    have hgq2 : w.heap.size ≤ gq := by have := HB1.out.size; omega
    have hne : gq ≠ gl := by omega
    rw [HM.out] at RQ RL B2 ⊢
    generalize W1.alloc (.cells (dc (List.replicate 0 0)).toArray 95) = W2 at *
    have HRQ := Lib.hid RQ; have HRL2 := Lib.hid RL; have HB2 := Lib.hid B2; have HGQ := Lib.hid hgq2; have HNE := Lib.hid hne
    clear RQ RL B2 hgq2 hne hlq hgq MK1 HRL HB1 e2 zneg ez
    go_loopw [8] (fun v wr => DivI w gl gq a b n 0 v wr) (fun v _ => (intOf v + 1).toNat)
    case atStart =>
      refine ⟨0, List.replicate 0 0, dg a ++ [0], Nat.le_refl _, rfl, HRQ.out, List.length_replicate, Dg.noughts 0, by rw [List.take_replicate]; exact nv_noughts _, HRL2.out, by rw [List.length_append, H1.out.1]; rfl, (dg_dg a).append (Dg.one (by decide)), ?_, ?_, HB2.out⟩
      · rw [nv_noughts, nv_snoc, nv_dg]; omega
      · rw [nv_snoc, nv_dg]
        have := HS.out
        simpa using this
    case round =>
      clear HRQ HRL2 HB2
      obtain ⟨i, qs, ls, hi, rfl, R1, hql, hq, hqz, R2, hll, hl, hv, hlt, B1⟩ := hrel
      cases i with
      | zero =>
        have e0 : (((0 : Nat) : Int) - 1) = -1 := by decide
        rw [e0]
        rw [Nat.pow_zero, Nat.one_mul] at hlt
        have hquo : a / b = nv qs := by
          rw [hv, Nat.mul_comm, Nat.add_comm, Nat.add_mul_div_left _ _ (Nat.pos_of_ne_zero HB0.out), Nat.div_eq_of_lt hlt, Nat.zero_add]
        have hrem : a % b = nv ls := by
          rw [hv, Nat.mul_comm, Nat.add_comm, Nat.add_mul_mod_self_left, Nat.mod_eq_of_lt hlt]
        have cQ := Lib.hid (trimmed_any (some ⟨gq, 0, none⟩) 0 0 qs wr (row_digs R1 hq hql) (by omega) (Nat.le_refl _) (by omega))
        have cR := Lib.hid (trimmed_any (some ⟨gl, 0, none⟩) N N ls wr (row_digs R2 hl (by rw [hll, HN.out])) (by omega) (Nat.le_refl _) (by omega))
        rw [← hquo] at cQ
        rw [← hrem] at cR
        have HB := Lib.hid B1
        clear R1 R2 hql hq hqz hll hl hv hlt B1 hquo hrem
        go_wp2_with fail
        refine cQ.out.mono ?_
        rintro e v1 ⟨rfl, hD, _, hw⟩; subst v1
        have HDQ := Lib.hid hD
        clear hD
        go_wp2_with fail
        refine cR.out.mono ?_
        rintro e v1 ⟨rfl, hD, _, hw⟩; subst v1
        have HDR := Lib.hid hD
        clear hD
        go_wp2_with fail
        go_ret3
        exact ⟨_, _, _, _, rfl, HDQ.out, HDR.out, HB.out⟩
      | succ j => exact absurd hi (by omega)
theorem div_yes (A : Option Addr) (n c : Nat) (a : Nat) (B : Option Addr) (m d0 : Nat) (b : Nat) (w : World) (h1 : Digs w A n (dg a)) (h2 : Digs w B m (dg b)) (ha : a < top) (hb : b < top) (hb0 : b ≠ 0) :
    Calls Tryz.prog 64 #[.slice A n c, .slice B m d0] w fun e w' => ∃ Q R kq kr, e = .returned (.tuple #[.slice Q (dg (a / b)).length kq, .slice R (dg (a % b)).length kr, .bool true]) ∧
      Digs w' Q (dg (a / b)).length (dg (a / b)) ∧ Digs w' R (dg (a % b)).length (dg (a % b)) ∧ Below w.heap.size w w' := by
  rcases Nat.lt_or_ge (n + 1) m with h | h
  · exact div_some A n c a B m d0 b w h1 h2 ha hb hb0 0 (.inr ⟨h, rfl⟩)
  · exact div_some A n c a B m d0 b w h1 h2 ha hb hb0 _ (.inl ⟨h, rfl⟩)
set_option maxHeartbeats 1000000 in
theorem div_no (A : Option Addr) (n c : Nat) (xs : List Nat) (B : Option Addr) (m d : Nat) (ys : List Nat) (w : World) (h1 : Digs w A n xs) (h2 : Digs w B m ys) (hn : n ≤ 1000000000) (hm : m ≤ 1000000000) (hi : isN xs = false ∨ isN ys = false ∨ m = 0) :
    Calls Tryz.prog 64 #[.slice A n c, .slice B m d] w fun e w' => e = .returned (.tuple #[.slice none 0 0, .slice none 0 0, .bool false]) ∧ w' = w := by
  have c1 := Lib.hid (is_any A n c xs w h1 (by omega))
  have c2 := Lib.hid (is_any B m d ys w h2 (by omega))
  by_cases hx : isN xs = false
  · rw [hx] at c1
    clear hi hx c2
    go_enter Tryz.func64, Tryz.ntmps64
    go_wp2_with fail
    refine c1.out.mono ?_
    rintro e v1 ⟨rfl, hw⟩; subst v1
    go_wp2_with fail
    go_ret3
    exact ⟨rfl, rfl⟩
  · rw [eq_true_of_ne_false hx] at c1
    by_cases hy : isN ys = false
    · rw [hy] at c2
      clear hi hx hy
      go_enter Tryz.func64, Tryz.ntmps64
      go_wp2_with fail
      refine c1.out.mono ?_
      rintro e v1 ⟨rfl, hw⟩; subst v1
      go_wp2_with fail
      refine c2.out.mono ?_
      rintro e v1 ⟨rfl, hw⟩; subst v1
      go_wp2_with fail
      go_ret3
      exact ⟨rfl, rfl⟩
    · obtain rfl : m = 0 := by
        rcases hi with h | h | h
        · exact absurd h hx
        · exact absurd h hy
        · exact h
      rw [eq_true_of_ne_false hy] at c2
      clear hi hx hy
      go_enter Tryz.func64, Tryz.ntmps64
      go_wp2_with fail
      refine c1.out.mono ?_
      rintro e v1 ⟨rfl, hw⟩; subst v1
      go_wp2_with fail
      refine c2.out.mono ?_
      rintro e v1 ⟨rfl, hw⟩; subst v1
      go_wp2_with fail
      go_ret3
      exact ⟨rfl, rfl⟩
end Go.Proofs.YtojpfmlmalmlcaaGreatDoor.G
