/-
  Rows of digits that the call itself may write; what tenth does, and a copy of a row. No condition beyond what each contract says.
  Decimal digits of a number, and the number that digits tell, however great; pure. No condition beyond what each lemma asks.
  What a copy of a row and Text do. No condition beyond what each contract says.
  The law's first question is answered true. No condition.
  What the document's Add and Sub do. No condition beyond what each contract says.
  What the document's Mul does. No condition beyond what the contract says.
-/
import Derived.Test.YtojpfmlmalmlcaaGreatDoorNBigE
import Derived.Laws.BitsLemmas
import Derived.Lib.SliceRun
import Derived.Deep.Cut
namespace Go.Proofs.YtojpfmlmalmlcaaGreatDoor.G
open Go.RowKit
/-- A slice of digits over a row of the call's own. -/
def Own (w : World) (base : Nat) (A : Option Addr) (n c : Nat) (xs : List Nat) : Prop :=
  xs.length = n ∧ Dg xs ∧ n ≤ c ∧ c ≤ 9223372036854775807 ∧ (0 < n → ∃ g post, A = some ⟨g, 0, none⟩ ∧ base ≤ g ∧ Row w g 95 (dc xs ++ post))
theorem Own.digs {w : World} {base : Nat} {A : Option Addr} {n c : Nat} {xs : List Nat} (h : Own w base A n c xs) : Digs w A n xs :=
  ⟨h.1, h.2.1, fun hn => by
    obtain ⟨g, post, e, hb, hr⟩ := h.2.2.2.2 hn
    refine ⟨g, 0, e, hr.lt, fun i hi => ?_⟩
    rw [Nat.zero_add, hr.cell i, List.getElem?_append_left (by rw [dc_length, h.1]; exact hi)]
    exact dc_get xs i (by rw [h.1]; exact hi)⟩
theorem Own.take {w : World} {base : Nat} {A : Option Addr} {n c : Nat} {xs : List Nat} (h : Own w base A n c xs) {k : Nat} (hk : k ≤ n) : Own w base A k c (xs.take k) :=
  ⟨by rw [List.length_take, h.1]; omega, h.2.1.take k, by have := h.2.2.1; omega, h.2.2.2.1, fun hn => by
    obtain ⟨g, post, e, hb, hr⟩ := h.2.2.2.2 (by omega)
    refine ⟨g, dc (xs.drop k) ++ post, e, hb, ?_⟩
    rw [← List.append_assoc, ← dc_append, List.take_append_drop]
    exact hr⟩
theorem Own.keep {w w' : World} {base : Nat} {A : Option Addr} {n c : Nat} {xs : List Nat} (h : Own w base A n c xs) (B : Below w.heap.size w w') : Own w' base A n c xs :=
  ⟨h.1, h.2.1, h.2.2.1, h.2.2.2.1, fun hn => by
    obtain ⟨g, post, e, hb, hr⟩ := h.2.2.2.2 hn
    exact ⟨g, post, e, hb, hr.keep B⟩⟩
theorem own_own {w : World} {base n c : Nat} {A : Option Addr} {xs : List Nat} (h : w.ownsRow base 95 1 (.slice A n c) n (dc xs)) (hx : Dg xs) : Own w base A n c xs := by
  have hl : xs.length = n := by have := h.1; rw [dc_length] at this; omega
  have hcp := own_cap h
  refine ⟨hl, hx, hcp.1, hcp.2, fun hn => ?_⟩
  rcases h.2 with ⟨_, e⟩ | ⟨g, cap, cur, e, hb, hg, hnc, hm, hs, ht⟩
  · omega
  · injection e with e1 e2 e3
    refine ⟨g, cur.toList.drop n, e1, hb, ?_⟩
    have ht' : dc xs = cur.toList.take n := by simpa using ht.symm
    rw [ht', List.take_append_drop]
    exact hg
theorem wr64 {x : Nat} (h : x < 4611686018427387904) : wrap64 (x : Int) = (x : Int) := by unfold wrap64; omega
theorem wr16 {x : Nat} (h : x < 65536) : IntKind.u16.wrap (x : Int) = (x : Int) := by rw [IntKind.wrap_u16]; omega
theorem wr8 {x : Nat} (h : x < 256) : IntKind.u8.wrap (x : Int) = (x : Int) := by rw [IntKind.wrap_u8]; omega
theorem wr_up16 {x : Nat} (h : x < 70368744177664) : wrap64 ((x : Int) * 65536) = (x : Int) * 65536 := by unfold wrap64; omega
theorem quo10 {t q : Nat} (h : q = t / 10) : (t : Int).tdiv 10 = (q : Int) := by rw [h]; simp
theorem rem10 {t r : Nat} (h : r = t % 10) : (t : Int).tmod 10 = (r : Int) := by rw [Int.tmod_eq_emod_of_nonneg (by omega)]; omega
theorem i64_join (p x : Nat) (hp : p < 140737488355328) (hx : x < 65536) : bits .or .i64 ((p : Int) * 65536) (x : Int) = ((p * 65536 + x : Nat) : Int) := by
  rw [bits_join .i64 63 (by decide) (fun n h0 h1 => by rw [IntKind.wrap_i64]; omega) 16 ((p : Int) * 65536) (x : Int) (by omega) (by omega) (by omega) (by omega) (by omega) (by omega)]
  omega
theorem split_at (xs : List Nat) (k : Nat) (h : k < xs.length) : xs = xs.take k ++ xs.getD k 0 :: xs.drop (k + 1) := by
  have e : xs.getD k 0 :: xs.drop (k + 1) = xs.drop k := by rw [List.drop_eq_getElem_cons h]; simp [List.getD, h]
  rw [e, List.take_append_drop]
theorem set_at (pre : List Nat) (x d : Nat) (post : List Nat) (rest : List Value) (k : Nat) (h : pre.length = k) : (dc (pre ++ x :: post) ++ rest).set k (.int .u16 (d : Int)) = dc (pre ++ d :: post) ++ rest := by
  subst h
  rw [List.set_append_left _ _ (by rw [dc_length]; simp), dc_set]
  rw [List.set_append_right _ _ (Nat.le_refl _), Nat.sub_self, List.set_cons_zero]
/-- Divided from the highest digit on: k digits are left. -/
def TenAt (w : World) (base g n : Nat) (post : List Value) (xs : List Nat) (v3 v4 : Value) (wr : World) : Prop :=
  ∃ (k r : Nat) (qs : List Nat), k ≤ n ∧ v4 = .int .i64 ((k : Int) - 1) ∧ v3 = .int .i64 (r : Int) ∧ r < 10 ∧ k + qs.length = n ∧ Dg qs ∧ nv (xs.drop k) = 10 * nv qs + r ∧
    Row wr g 95 (dc (xs.take k ++ qs) ++ post) ∧ Below base w wr
end Go.Proofs.YtojpfmlmalmlcaaGreatDoor.G
namespace Go.Proofs.YtojpfmlmalmlcaaGreatDoor.G
/-- The digits of a number, none of 0. -/
def ds (n : Nat) : List UInt8 := if _h : n = 0 then [] else ds (n / 10) ++ [UInt8.ofNat (48 + n % 10)]
theorem ds_zero : ds 0 = [] := by unfold ds; rfl
theorem ds_pos {n : Nat} (h : n ≠ 0) : ds n = ds (n / 10) ++ [UInt8.ofNat (48 + n % 10)] := by rw [ds, dif_neg h]
/-- The decimal digits of a number. -/
def dec (n : Nat) : List UInt8 := if n = 0 then [48] else ds n
theorem dec_zero : dec 0 = [48] := rfl
theorem dec_pos {n : Nat} (h : n ≠ 0) : dec n = ds n := if_neg h
theorem dec_step (n : Nat) : dec n = ds (n / 10) ++ [UInt8.ofNat (48 + n % 10)] := by
  by_cases h : n = 0
  · subst h; simp [dec, ds_zero]
  · rw [dec_pos h, ds_pos h]
theorem ds_nil {n : Nat} (h : ds n = []) : n = 0 := by
  by_cases h0 : n = 0
  · exact h0
  · rw [ds_pos h0] at h; simp at h
/-- A digit's byte. -/
theorem dig_toNat {k : Nat} (h : k < 10) : (UInt8.ofNat (48 + k)).toNat = 48 + k := by
  rw [UInt8.toNat_ofNat']; omega
/-- The number that digits tell, from v on; none at a byte that is no digit. -/
def rd (v : Nat) : List UInt8 → Option Nat
  | [] => some v
  | c :: l => if c.toNat < 48 ∨ 57 < c.toNat then none else rd (v * 10 + (c.toNat - 48)) l
theorem rd_append (l m : List UInt8) : ∀ v, rd v (l ++ m) = (rd v l).bind fun x => rd x m := by
  induction l with
  | nil => intro v; rfl
  | cons c l ih =>
    intro v
    simp only [List.cons_append, rd]
    split
    · rfl
    · exact ih _
set_option maxRecDepth 100000 in
theorem rd_ds (n : Nat) : rd 0 (ds n) = some n := by
  induction n using Nat.strongRecOn with
  | ind n ih =>
    by_cases h0 : n = 0
    · subst h0; rw [ds_zero]; rfl
    · rw [ds_pos h0, rd_append, ih (n / 10) (by omega)]
      show rd (n / 10) [_] = _
      rw [rd, dig_toNat (by omega), if_neg (by omega), rd]
      congr 1
      omega
theorem rd_dec (n : Nat) : rd 0 (dec n) = some n := by
  by_cases h0 : n = 0
  · subst h0; decide
  · rw [dec_pos h0]; exact rd_ds n
theorem rd_ge (l : List UInt8) : ∀ v x, rd v l = some x → v * 10 ^ l.length ≤ x := by
  induction l with
  | nil => intro v x h; simp only [rd, Option.some.injEq] at h; simp; omega
  | cons c l ih =>
    intro v x h
    simp only [rd] at h
    split at h
    · cases h
    · have h1 := ih _ x h
      rw [List.length_cons, Nat.pow_succ]
      refine Nat.le_trans ?_ h1
      rw [Nat.mul_comm (10 ^ l.length) 10, ← Nat.mul_assoc]
      exact Nat.mul_le_mul_right _ (by omega)
theorem ds_front (n : Nat) : n ≠ 0 → (ds n).getD 0 0 ≠ 48 := by
  induction n using Nat.strongRecOn with
  | ind n ih =>
    intro h0
    rw [ds_pos h0]
    by_cases h1 : n / 10 = 0
    · rw [h1, ds_zero]
      intro h
      simp only [List.nil_append, List.getD_cons_zero] at h
      have := congrArg UInt8.toNat h
      rw [dig_toNat (by omega)] at this
      have e : (48 : UInt8).toNat = 48 := rfl
      omega
    · have h2 := ih _ (by omega) h1
      have h3 : ds (n / 10) ≠ [] := fun h => h1 (ds_nil h)
      cases hd : ds (n / 10) with
      | nil => exact absurd hd h3
      | cons x r => rw [hd] at h2; simpa using h2
end Go.Proofs.YtojpfmlmalmlcaaGreatDoor.G
namespace Go.Proofs.YtojpfmlmalmlcaaGreatDoor.G
open Go.RowKit
theorem eq_nil (A : Option Addr) (n c : Nat) (w : World) : (binOp .eql 58 (.slice A n c) (.slice none 0 0)).run Tryz.prog w = .ok (.bool A.isNone) w := Lib.run_eql_slice_nil w _ _ A n c 0 0 Tryz.underlying58
theorem Own.other {w : World} {base : Nat} {A : Option Addr} {n c : Nat} {xs : List Nat} (h : Own w base A n c xs) {a : Addr} (ha : a.block < base) (v : Value) : Own (w.setCell a v) base A n c xs :=
  ⟨h.1, h.2.1, h.2.2.1, h.2.2.2.1, fun hn => by
    obtain ⟨g, post, e, hb, hr⟩ := h.2.2.2.2 hn
    exact ⟨g, post, e, hb, hr.other (by omega) v⟩⟩
theorem Digs.same {w : World} {A : Option Addr} {n : Nat} {xs ys : List Nat} (h : Digs w A n xs) (k : Digs w A n ys) : xs = ys := by
  have l1 := h.1; have l2 := k.1
  apply List.ext_getElem (by omega)
  intro i h1 h2
  obtain ⟨b, o, e, _, hc⟩ := h.2.2 (by omega)
  obtain ⟨b', o', e', _, hc'⟩ := k.2.2 (by omega)
  rw [e] at e'
  injection e' with e'
  injection e' with e1 e2 e3
  subst e1 e2
  have := (hc i (by omega)).symm.trans (hc' i (by omega))
  injection this with this
  injection this with _ this
  simp only [List.getD, List.getElem?_eq_getElem h1, List.getElem?_eq_getElem h2, Option.getD_some] at this
  omega
theorem trimmed_own {w : World} {base : Nat} {A : Option Addr} {n c : Nat} {xs : List Nat} (h : Own w base A n c xs) (hn : n ≤ 1000000000) :
    Calls Tryz.prog 92 #[.slice A n c] w fun e w' => e = .returned (.slice A (dg (nv xs)).length c) ∧ Own w base A (dg (nv xs)).length c (dg (nv xs)) ∧ w' = w := by
  refine (trimmed_any A n c xs w h.digs hn h.2.2.1 h.2.2.2.1).mono fun e w' hh => ?_
  obtain ⟨e1, hD, hle, hw⟩ := hh
  have ho := h.take hle
  have hs := Digs.same ho.digs hD
  rw [hs] at ho
  exact ⟨e1, ho, hw⟩
theorem top_ten : top ≤ 10 ^ 1234 := by unfold top; exact Nat.le_of_ble_eq_true (by decide +kernel)
theorem dg_none {m : Nat} (h : (dg m).length = 0) : m = 0 := by
  have e := nv_dg m
  rw [List.eq_nil_of_length_eq_zero h] at e
  exact e.symm
theorem dg_some {m : Nat} (h : m ≠ 0) : 0 < (dg m).length := by
  rcases Nat.eq_zero_or_pos (dg m).length with h1 | h1
  · exact absurd (dg_none h1) h
  · exact h1
theorem dg_small {m k : Nat} (h : m ≤ k) : (dg m).length ≤ (dg k).length := by
  rcases Nat.lt_or_ge (dg k).length (dg m).length with h1 | h1
  · have := cmp_len h1
    omega
  · exact h1
end Go.Proofs.YtojpfmlmalmlcaaGreatDoor.G
namespace Go.Proofs.YtojpfmlmalmlcaaGreatDoor.G
open Go.RowKit
theorem dg_a : dg 65536 = [0, 1] := dg_nv (xs := [0, 1]) (fun x hx => by
  simp only [List.mem_cons, List.not_mem_nil, or_false] at hx
  rcases hx with rfl | rfl <;> omega) (.inr (by decide))
theorem dg_aa : dg (65536 * 65536) = [0, 0, 1] := dg_nv (xs := [0, 0, 1]) (fun x hx => by
  simp only [List.mem_cons, List.not_mem_nil, or_false] at hx
  rcases hx with rfl | rfl | rfl <;> omega) (.inr (by decide))
theorem dec_a : dec 65536 = [54, 53, 53, 51, 54] := by
  rw [dec_pos (by decide), ds_pos (by decide), ds_pos (by decide), ds_pos (by decide), ds_pos (by decide), ds_pos (by decide), show 65536 / 10 / 10 / 10 / 10 / 10 = 0 by decide, ds_zero]
  decide
theorem a_top : 65536 < top := by unfold top; exact Nat.lt_of_lt_of_le (show 65536 < 65536 ^ 2 by decide) (Nat.pow_le_pow_right (by decide) (by decide))
theorem row_digs {w : World} {g : Nat} {t : TypeId} {xs : List Nat} (h : Row w g t (dc xs)) (hx : Dg xs) {n : Nat} (hn : xs.length = n) : Digs w (some ⟨g, 0, none⟩) n xs :=
  Row.digs (pre := []) (post := []) (by simpa using h) hx rfl hn
end Go.Proofs.YtojpfmlmalmlcaaGreatDoor.G
namespace Go.Proofs.YtojpfmlmalmlcaaGreatDoor.G
open Go.RowKit
theorem quoB {t q : Nat} (h : q = t / 65536) : (t : Int).tdiv 65536 = (q : Int) := by rw [h]; simp
theorem remB {t r : Nat} (h : r = t % 65536) : (t : Int).tmod 65536 = (r : Int) := by rw [Int.tmod_eq_emod_of_nonneg (by omega)]; omega
theorem gt0_t {x : Nat} (h : 0 < x) : decide ((0 : Int) < (x : Int)) = true := by simp; omega
theorem gt0_f {x : Nat} (h : x = 0) : decide ((0 : Int) < (x : Int)) = false := by subst h; rfl
theorem len_room (i n : Nat) (h : i < n) (hn : n ≤ 1000) : i + 1 ≤ maxLen := by unfold maxLen; omega
theorem add_step {Z c s v X Y p x y : Nat} (h : Z + p * c = X + Y) (hs : s = c + x) (hv : v = s + y) : Z + p * (v % 65536) + p * 65536 * (v / 65536) = (X + p * x) + (Y + p * y) := by
  have h1 : v = 65536 * (v / 65536) + v % 65536 := (Nat.div_add_mod v 65536).symm
  generalize v / 65536 = q at *
  generalize v % 65536 = r at *
  have h2 : p * c + p * x + p * y = p * (65536 * q + r) := by rw [← h1, hv, hs]; grind
  grind
/-- What holds at the head of the document's Add. -/
def AddI (w : World) (a b : Nat) (v5 v6 v7 : Value) (wr : World) : Prop :=
  ∃ (i c k : Nat) (R : Option Addr) (zs : List Nat), v5 = .slice R i k ∧ v6 = .int .i64 (c : Int) ∧ v7 = .int .i64 (i : Int) ∧ c ≤ 1 ∧ i ≤ 1001 ∧ wr.ownsRow w.heap.size 95 1 (.slice R i k) i (dc zs) ∧ Dg zs ∧
    nv zs + 65536 ^ i * c = nv ((dg a).take i) + nv ((dg b).take i) ∧ (i = 0 ∨ 65536 ^ (i - 1) ≤ a + b) ∧ Below w.heap.size w wr
theorem add_room {a b c i n m Z : Nat} (h1 : (dg a).length = n) (h2 : (dg b).length = m) (hZ : Z + 65536 ^ i * c = nv ((dg a).take i) + nv ((dg b).take i)) (h : i < n ∨ i < m ∨ 0 < c) : 65536 ^ i ≤ a + b ∧ (n ≤ i → m ≤ i → n ≤ 1000 → m ≤ 1000 → i ≤ 1000) := by
  have key : 65536 ^ i ≤ a + b := by
    rcases Nat.lt_or_ge i n with h3 | h3
    · exact Nat.le_trans (nv_dg_ge (n := a) (by omega)) (by omega)
    · rcases Nat.lt_or_ge i m with h4 | h4
      · exact Nat.le_trans (nv_dg_ge (n := b) (by omega)) (by omega)
      · have hc : 0 < c := by omega
        rw [List.take_of_length_le (by omega), List.take_of_length_le (by omega), nv_dg, nv_dg] at hZ
        have : 65536 ^ i * 1 ≤ 65536 ^ i * c := Nat.mul_le_mul_left _ hc
        omega
  refine ⟨key, fun hn hm n1 m1 => ?_⟩
  rcases Nat.lt_or_ge 1000 i with hi | hi
  · exfalso
    have la := (dg_len a n).1 (by omega)
    have lb := (dg_len b m).1 (by omega)
    obtain ⟨K, hK⟩ : ∃ K, K = 1000 := ⟨_, rfl⟩
    have pa : 65536 ^ n ≤ 65536 ^ K := Nat.pow_le_pow_right (by omega) (by omega)
    have pb : 65536 ^ m ≤ 65536 ^ K := Nat.pow_le_pow_right (by omega) (by omega)
    have pc : 65536 ^ (K + 1) ≤ 65536 ^ i := Nat.pow_le_pow_right (by omega) (by omega)
    rw [Nat.pow_succ] at pc
    generalize 65536 ^ K = P at *
    omega
  · exact hi
/-- What holds at the head of the document's Sub. -/
def SubI (w : World) (a b n : Nat) (v5 v6 v7 : Value) (wr : World) : Prop :=
  ∃ (i c k : Nat) (R : Option Addr) (zs : List Nat), v5 = .slice R i k ∧ v6 = .int .i64 (c : Int) ∧ v7 = .int .i64 (i : Int) ∧ c ≤ 1 ∧ i ≤ n ∧ wr.ownsRow w.heap.size 95 1 (.slice R i k) i (dc zs) ∧ Dg zs ∧
    nv zs + nv ((dg b).take i) = nv ((dg a).take i) + 65536 ^ i * c ∧ Below w.heap.size w wr
theorem sub_step {Z c X Y p x y d e : Nat} (h : Z + Y = X + p * c) (hv : d + y + c = x + 65536 * e) : Z + p * d + (Y + p * y) = (X + p * x) + p * 65536 * e := by
  have h2 : p * d + p * y + p * c = p * x + p * (65536 * e) := by rw [← Nat.mul_add, ← Nat.mul_add, ← Nat.mul_add, hv]
  grind
end Go.Proofs.YtojpfmlmalmlcaaGreatDoor.G
namespace Go.Proofs.YtojpfmlmalmlcaaGreatDoor.G
open Go.RowKit
theorem wru64 {x : Nat} (h : x < 18446744073709551616) : IntKind.u64.wrap (x : Int) = (x : Int) := by rw [IntKind.wrap_u64]; omega
set_option maxRecDepth 100000 in
theorem make_u16 (n : Nat) (hn : n ≤ 1000000) (L : List Value) (hL : L = dc (List.replicate n 0)) (w : World) : (Instr.makeSlice 57 (.int .i64 (n : Int)) (.int .i64 (n : Int))).run Tryz.prog w = .ok (.slice (some ⟨w.heap.size, 0, none⟩) n n) (w.alloc (.cells L.toArray 95)) := by
  subst hL
  obtain ⟨i, hi, hz, hs, hb⟩ := info_parts (P := Tryz.prog) (e := 95) (z := .int .u16 0) (size := 1) (bytes := 2) (by kernel_rfl)
  have h := run_makeSlice (P := Tryz.prog) w 57 95 i _ Tryz.underlying57 hi hz .i64 .i64 (n : Int) (n : Int) (by omega) (by omega) (by rw [hs]; simp; omega) (by rw [hb]; omega) (by omega)
  rw [h, hs]
  congr 3
  rw [Int.toNat_natCast]
  apply Array.ext
  · simp [madeCells, dc]
  · intro c c1 c2
    simp only [madeCells, Array.getElem_map, Array.getElem_range, Value.cells]
    rw [show (#[.int .u16 0] : Array Value).size = 1 from rfl, Nat.mod_one]
    simp [dc]
theorem mul_room {xs ys : List Nat} {n m i k c Z Y : Nat} (hx : Dg xs) (hy : Dg ys) (hxl : xs.length = n) (hyl : ys.length = m) (hY : Y = nv ys) (hi : i < n) (hk : m ≤ k) (hc : 0 < c)
    (h : Z + 65536 ^ (i + k) * c = nv (xs.take i) * Y + 65536 ^ i * xs.getD i 0 * nv (ys.take k)) : i + k < n + m := by
  rw [List.take_of_length_le (l := ys) (by omega), ← hY, ← Nat.add_mul, ← take_nv' xs i] at h
  have h1 : nv (xs.take (i + 1)) < 65536 ^ (i + 1) := by
    have := nv_lt (hx.take (i + 1))
    rwa [List.length_take, Nat.min_eq_left (by omega)] at this
  have h2 : Y < 65536 ^ m := by
    have := nv_lt hy
    rwa [hyl, ← hY] at this
  have h3 : nv (xs.take (i + 1)) * Y < 65536 ^ (i + 1 + m) := by
    rw [Nat.pow_add]
    exact Nat.mul_lt_mul'' h1 h2
  have h4 : 65536 ^ (i + k) * 1 ≤ 65536 ^ (i + k) * c := Nat.mul_le_mul_left _ hc
  rcases Nat.lt_or_ge (i + k) (i + 1 + m) with h5 | h5
  · omega
  · exfalso
    have h6 : 65536 ^ (i + 1 + m) ≤ 65536 ^ (i + k) := Nat.pow_le_pow_right (by omega) h5
    omega
theorem mul_step {Z Z' z c p v d e P E : Nat} (h : Z + P * c = E) (hs : Z' + P * z = Z + P * d) (hv : v = z + c + p) (hd : d = v % 65536) (he : e = v / 65536) : Z' + P * 65536 * e = E + P * p := by
  have h1 : v = 65536 * e + d := by omega
  have h2 : P * z + P * c + P * p = P * 65536 * e + P * d := by
    rw [Nat.mul_assoc, ← Nat.mul_add, ← Nat.mul_add, ← Nat.mul_add, ← h1, hv]
  omega
theorem mul_next {T i k x y Y' : Nat} {Z : Nat} (h : Z = T + 65536 ^ i * x * Y' + 65536 ^ (i + k) * (x * y)) : Z = T + 65536 ^ i * x * (Y' + 65536 ^ k * y) := by
  rw [h, Nat.pow_add]
  grind
theorem below_drawn {B : Nat} {w w' : World} {a : Addr} {v : Value} (h : Below B w (w'.setCell a v)) (m : Nat) : Below B w ((w'.drewN m).setCell a v) := ⟨h.os, h.tape, h.output, h.size, h.block⟩
/-- The two loops. -/
def MulI (w : World) (g n m : Nat) (xs : List Nat) (Y : Nat) (v6 : Value) (wr : World) : Prop :=
  ∃ (i : Nat) (zs : List Nat), i ≤ n ∧ v6 = .int .i64 (i : Int) ∧ zs.length = n + m ∧ Dg zs ∧ nv zs = nv (xs.take i) * Y ∧ Row wr g 95 (dc zs) ∧ Below w.heap.size w wr
def MulK (w : World) (g n m i : Nat) (xs ys : List Nat) (Y : Nat) (v7 v8 : Value) (wr : World) : Prop :=
  ∃ (k c : Nat) (zs : List Nat), k ≤ n + m ∧ v7 = .int .u64 (c : Int) ∧ v8 = .int .i64 (k : Int) ∧ c < 65536 ∧ zs.length = n + m ∧ Dg zs ∧
    nv zs + 65536 ^ (i + k) * c = nv (xs.take i) * Y + 65536 ^ i * xs.getD i 0 * nv (ys.take k) ∧ Row wr g 95 (dc zs) ∧ Below w.heap.size w wr
end Go.Proofs.YtojpfmlmalmlcaaGreatDoor.G
