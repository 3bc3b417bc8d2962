/-
  What math/bits' Len64 and TrailingZeros64 do; the latter where its table reads as it is laid (Laid). No condition beyond what each contract asks.
  The program's small calls of layer 11: signed, odd, packed, most. No condition beyond what each contract asks.
  The program's Join: the pattern of a number, if there is one. No condition but the table (Laid) and the arguments' own bounds.
-/
import Derived.Test.YtojpfmlmalmlcaaGreatDoorNearPure
import Derived.Test.YtojpfmlmalmlcaaGreatDoorDecMath
import Derived.StillTailTactics
namespace Go.Proofs.YtojpfmlmalmlcaaGreatDoor
open Go.RowKit
theorem tab_at (m : Nat) (h : m < Lib.len8tab.size) (hb : m < 256) : ((Lib.len8tab[m]'h).toNat : Int) = (Lib.bitLen m : Int) := by
  have e := Lib.len8_eq ⟨m, hb⟩
  rw [← e]
  unfold Lib.len8
  generalize Lib.len8tab = T at *
  rw [Int.toNat_natCast, ByteArray.getElem?_lt' _ _ h, Option.getD_some]
theorem len_sum {c : Int} {k L M r : Nat} (hc : c = (k : Int)) (hr : r = L) (e : L = k + M) (l : M ≤ 8) (hk6 : k ≤ 56) : wrap64 (c + wrap64 (M : Int)) = (r : Int) := by
  subst hc hr e
  unfold wrap64
  omega
theorem len_step {k x m p : Nat} (hx : x < 18446744073709551616) (hp : p = 2 ^ k) (hd : m = x / p) (hk : k = 0 ∨ p ≤ x) : Lib.bitLen x = k + Lib.bitLen m := by
  subst hp hd
  rcases hk with h | h
  · subst h
    rw [Nat.pow_zero, Nat.div_one, Nat.zero_add]
  · exact Lib.bitLen_shift k x h hx
theorem len_fin (k : Nat) {x d c : Int} {r : Nat} (p : Nat) (hc : c = (k : Int)) (hr : r = Lib.bitLen x.toNat) (h1 : x.toNat < 18446744073709551616) (hp : p = 2 ^ k) (hd : d.toNat = x.toNat / p) (hb : d.toNat < 256) (hk : k = 0 ∨ p ≤ x.toNat) (hk6 : k ≤ 56) :
    wrap64 (c + wrap64 (Lib.bitLen d.toNat : Int)) = (r : Int) :=
  len_sum hc hr (len_step h1 hp hd hk) (Lib.bitLen_le8 ⟨d.toNat, hb⟩) hk6
set_option maxHeartbeats 4000000 in
set_option maxRecDepth 100000 in
theorem len64_int (x : Int) (r : Nat) (h0 : 0 ≤ x) (h1 : x ≤ 18446744073709551615) (HR : Hid (r = Lib.bitLen x.toNat)) (w : World) :
    Calls Tryz.prog 98 #[.int .u64 x] w fun e w' => e = .returned (.int .i64 (r : Int)) ∧ w = w' := by
  go_enter Tryz.func98, Tryz.ntmps98
  go_wp2
  all_goals first
    | (exfalso; rename_i hz; rw [Lib.len8tab_size] at hz; omega)
    | (go_ret; refine ⟨congrArg Ending.returned (congrArg (Value.int IntKind.i64) ?_), rfl⟩
       rw [tab_at _ _ (by omega)]
       first
         | exact len_fin 56 72057594037927936 rfl HR.out (by omega) rfl (by omega) (by omega) (.inr (by omega)) (by omega)
         | exact len_fin 48 281474976710656 rfl HR.out (by omega) rfl (by omega) (by omega) (.inr (by omega)) (by omega)
         | exact len_fin 40 1099511627776 rfl HR.out (by omega) rfl (by omega) (by omega) (.inr (by omega)) (by omega)
         | exact len_fin 32 4294967296 rfl HR.out (by omega) rfl (by omega) (by omega) (.inr (by omega)) (by omega)
         | exact len_fin 24 16777216 rfl HR.out (by omega) rfl (by omega) (by omega) (.inr (by omega)) (by omega)
         | exact len_fin 16 65536 rfl HR.out (by omega) rfl (by omega) (by omega) (.inr (by omega)) (by omega)
         | exact len_fin 8 256 rfl HR.out (by omega) rfl (by omega) (by omega) (.inr (by omega)) (by omega)
         | (have h := len_fin 0 (d := x) 1 rfl HR.out (by omega) rfl (by omega) (by omega) (.inl rfl) (by omega)
            simpa using h))
theorem len64_any (x : Nat) (hx : x < 18446744073709551616) (w : World) :
    Calls Tryz.prog 98 #[.int .u64 (x : Int)] w fun e w' => e = .returned (.int .i64 (Lib.bitLen x : Int)) ∧ w = w' :=
  len64_int (x : Int) _ (by omega) (by omega) (show _ = _ by rw [Int.toNat_natCast]) w
/-- What the calls of this layer lean on: the library's table. -/
structure Laid (w : World) : Prop where
  tab : ∀ j, j < 64 → w.cell? ⟨4, j, none⟩ = some (.int .u8 ((Lib.deBruijn64tab.getD j 0 : Nat) : Int))
  size : 4 < w.heap.size
theorem Laid.after {w w' : World} (h : Laid w) (hb : Below w.heap.size w w') : Laid w' where
  tab := fun j hj => (hb.cell (p := ⟨4, j, none⟩) h.size).trans (h.tab j hj)
  size := Nat.lt_of_lt_of_le h.size hb.size
theorem tz_key (x a : Nat) (hx : x < 18446744073709551616) (hx0 : x ≠ 0) (hlow : x &&& (18446744073709551616 - x) = a) :
    IntKind.u64.wrap (bits BinOp.and IntKind.u64 (x : Int) (IntKind.u64.wrap (-(x : Int))) * 285870213051353865) / 288230376151711744 = ((a * 285870213051353865 % 18446744073709551616 / 288230376151711744 : Nat) : Int) := by
  have e1 : IntKind.u64.wrap (-(x : Int)) = ((18446744073709551616 - x : Nat) : Int) := by rw [IntKind.wrap_u64]; omega
  rw [e1, bits_and_u64_nat x _ hx (by omega), hlow, IntKind.wrap_u64]
  omega
set_option maxHeartbeats 1000000 in
theorem tz_core (x k idx : Nat) (w : World) (hx0 : ((x : Int) == 0) = false)
    (key : IntKind.u64.wrap (bits BinOp.and IntKind.u64 (x : Int) (IntKind.u64.wrap (-(x : Int))) * 285870213051353865) / 288230376151711744 = (idx : Int))
    (hi : idx < 64) (hk : k < 64) (hcell : w.cell? ⟨4, idx, none⟩ = some (.int .u8 (k : Int))) :
    Calls Tryz.prog 126 #[.int .u64 (x : Int)] w fun e w' => e = .returned (.int .i64 (k : Int)) ∧ w' = w := by
  go_enter Tryz.func126, Tryz.ntmps126
  go_wp2_with (simp only [key])
  go_ret
  exact ⟨rfl, rfl⟩
/-- math/bits.TrailingZeros64 of a number that is not 0. -/
theorem tz_any (x : Nat) (h0 : 0 < x) (hx : x < 18446744073709551616) (w : World) (hL : Laid w) :
    Calls Tryz.prog 126 #[.int .u64 (x : Int)] w fun e w' => e = .returned (.int .i64 ((tOf x : Nat) : Int)) ∧ w' = w := by
  obtain ⟨hlow, hk⟩ := Lib.lowest_bit 64 x (by omega) hx
  obtain ⟨hi, htab⟩ := Lib.deBruijn64_at _ hk
  have hcell := hL.tab _ hi
  rw [htab] at hcell
  exact tz_core x _ _ w (by simp; omega) (tz_key x _ hx (by omega) hlow) hi hk hcell
end Go.Proofs.YtojpfmlmalmlcaaGreatDoor
namespace Go.Proofs.YtojpfmlmalmlcaaGreatDoor
open Go.RowKit
theorem or_top (r : Nat) (hr : r < 9223372036854775808) : bits .or .u64 (r : Int) 9223372036854775808 = ((pat true r : Nat) : Int) := by
  have h := bits_or_u64_nat r 9223372036854775808 (by omega) (by decide)
  have e : r ||| 9223372036854775808 = pat true r := by
    have := Nat.two_pow_add_eq_or_of_lt (i := 63) (b := r) (by omega) 1
    rw [Nat.mul_one] at this
    have h63 : (2 : Nat) ^ 63 = 9223372036854775808 := by decide
    rw [h63] at this
    rw [Nat.or_comm, ← this]
    simp [pat]
  rw [e] at h
  exact h
set_option maxHeartbeats 400000 in
theorem signed_any (s : Bool) (r : Nat) (hr : r < 9223372036854775808) (w : World) :
    Calls Tryz.prog 96 #[.bool s, .int .u64 (r : Int)] w fun e w' => e = .returned (.int .u64 ((pat s r : Nat) : Int)) ∧ w' = w := by
  have h := or_top r hr
  cases s
  · have h0 : pat false r = r := by simp [pat]
    rw [h0]
    clear h hr
    go_enter Tryz.func96, Tryz.ntmps96
    go_wp2_with fail
    go_ret
    exact ⟨rfl, rfl⟩
  · generalize pat true r = p at *
    clear hr
    go_enter Tryz.func96, Tryz.ntmps96
    go_wp2_with fail
    go_ret
    exact ⟨by first | rfl | rw [h], rfl⟩
def mostOf (s : Bool) : Nat := if s then 9223372036854775808 else 9223372036854775807
set_option maxHeartbeats 400000 in
theorem packed_any (M q : Nat) (u : Int) (p : Nat) (w : World) (hu : Hid (u = (q : Int) - 1074)) (hq : Hid (q ≤ 2045)) (hM : Hid (M < 9007199254740992)) (hp : Hid (p = M + q * 4503599627370496)) :
    Calls Tryz.prog 99 #[.int .u64 (M : Int), .int .i64 u] w fun e w' => e = .returned (.int .u64 (p : Int)) ∧ w' = w := by
  have e1 : wrap64 (u - (-1074)) = (q : Int) := by have := hu.out; have := hq.out; unfold wrap64; omega
  have e1' : wrap64 (u + 1074) = (q : Int) := by have := hu.out; have := hq.out; unfold wrap64; omega
  have e2 : IntKind.u64.wrap (q : Int) = (q : Int) := by have := hq.out; rw [IntKind.wrap_u64]; omega
  have e3 : IntKind.u64.wrap ((q : Int) * 4503599627370496) = ((q * 4503599627370496 : Nat) : Int) := by have := hq.out; rw [IntKind.wrap_u64]; omega
  obtain ⟨y, hy⟩ : ∃ y, y = q * 4503599627370496 := ⟨_, rfl⟩
  rw [← hy] at e3
  have e4 : IntKind.u64.wrap ((y : Int) + (M : Int)) = (p : Int) := by have := hq.out; have := hM.out; have := hp.out; rw [IntKind.wrap_u64]; omega
  clear hy
  go_enter Tryz.func99, Tryz.ntmps99
  go_wp2_with fail
  go_ret
  exact ⟨by first | rfl | rw [e4], rfl⟩
/-- A shift by less than 64 places, as the walk spells it. -/
theorem shr_min {m t o : Nat} (ht : t < 64) (ho : m / 2 ^ t = o) : (m : Int) / 2 ^ min t 64 = (o : Int) := by
  rw [Nat.min_eq_left (by omega), ← ho]
  simp
set_option maxHeartbeats 400000 in
theorem odd_walk (m t o : Nat) (e e2 : Int) (w : World) (ho : (m : Int) / 2 ^ min t 64 = (o : Int)) (he : wrap64 (e + (t : Int)) = e2)
    (cT : Hid (∀ w, Laid w → Calls Tryz.prog 126 #[.int .u64 (m : Int)] w fun e w' => e = .returned (.int .i64 (t : Int)) ∧ w' = w)) (hL : Hid (Laid w)) :
    Calls Tryz.prog 97 #[.int .u64 (m : Int), .int .i64 e] w fun r w' => r = .returned (.tuple #[.int .u64 (o : Int), .int .i64 e2]) ∧ w' = w := by
  have t0 : ¬ ((t : Int) < 0) := by omega
  go_enter Tryz.func97, Tryz.ntmps97
  go_wp2_with fail
  refine (cT.out _ hL.out).mono ?_
  rintro r w1 ⟨rfl, hw⟩; subst w1
  go_wp2_with fail
  go_ret2
  exact ⟨by simp [ho, he], rfl⟩
/-- The same number with an odd m. -/
theorem odd_any (m : Nat) (e : Int) (h0 : 0 < m) (h : m < 18446744073709551616) (he : -9223372036854775808 ≤ e ∧ e ≤ 9223372036854775743) (w : World) (hL : Laid w) :
    Calls Tryz.prog 97 #[.int .u64 (m : Int), .int .i64 e] w fun r w' => r = .returned (.tuple #[.int .u64 ((oOf m : Nat) : Int), .int .i64 (e + ((tOf m : Nat) : Int))]) ∧ w' = w := by
  have ho := odd_of h0 h
  have h1 := ho.fit
  have h2 := ho.pos
  exact odd_walk m (tOf m) (oOf m) e _ w (shr_min (by omega) rfl) (in64 (by omega)) (Lib.hid fun w hL => tz_any m h0 h w hL) (Lib.hid hL)
end Go.Proofs.YtojpfmlmalmlcaaGreatDoor
namespace Go.Proofs.YtojpfmlmalmlcaaGreatDoor
open Go.RowKit
set_option maxHeartbeats 400000 in
theorem join_nil (s : Bool) (e : Int) (p : Nat) (w : World) (cG : Hid (∀ w, Calls Tryz.prog 96 #[.bool s, .int .u64 0] w fun e w' => e = .returned (.int .u64 (p : Int)) ∧ w' = w)) :
    Calls Tryz.prog 68 #[.bool s, .int .u64 0, .int .i64 e] w fun r w' => r = .returned (.tuple #[.int .u64 (p : Int), .bool true]) ∧ w' = w := by
  go_enter Tryz.func68, Tryz.ntmps68
  go_wp2_with fail
  refine (cG.out _).mono ?_
  rintro r w1 ⟨rfl, hw⟩; subst w1
  go_wp2_with fail
  go_ret2
  exact ⟨rfl, rfl⟩
set_option maxHeartbeats 400000 in
theorem join_away (s : Bool) (m e : Int) (w : World) (m0 : (m == 0) = false) (d : decide (e < -1137) = true ∨ (decide (e < -1137) = false ∧ decide (1023 < e) = true)) :
    Calls Tryz.prog 68 #[.bool s, .int .u64 m, .int .i64 e] w fun r w' => r = .returned (.tuple #[.int .u64 0, .bool false]) ∧ w' = w := by
  rcases d with d | ⟨d, d2⟩
  · go_enter Tryz.func68, Tryz.ntmps68
    go_wp2_with fail
    go_ret2
    exact ⟨rfl, rfl⟩
  · go_enter Tryz.func68, Tryz.ntmps68
    go_wp2_with fail
    go_ret2
    exact ⟨rfl, rfl⟩
set_option maxHeartbeats 1000000 in
theorem join_low_no (s : Bool) (m e e2 L x1 x2 x3 : Int) (o : Nat) (w : World) (m0 : (m == 0) = false) (d1 : decide (e < -1137) = false) (d2 : decide (1023 < e) = false)
    (h1 : wrap64 (e2 + L) = x1) (h2 : wrap64 (x1 - 1) = x2) (h3 : wrap64 (x2 - 52) = x3) (c1 : x3 < -1074) (c2 : decide (e2 < -1074) = true)
    (cO : Hid (∀ w, Laid w → Calls Tryz.prog 97 #[.int .u64 m, .int .i64 e] w fun e w' => e = .returned (.tuple #[.int .u64 (o : Int), .int .i64 e2]) ∧ w' = w)) (hL : Hid (Laid w))
    (cL : Hid (∀ w, Calls Tryz.prog 98 #[.int .u64 (o : Int)] w fun e w' => e = .returned (.int .i64 L) ∧ w = w')) :
    Calls Tryz.prog 68 #[.bool s, .int .u64 m, .int .i64 e] w fun r w' => r = .returned (.tuple #[.int .u64 0, .bool false]) ∧ w' = w := by
  go_enter Tryz.func68, Tryz.ntmps68
  go_wp2_with fail
  refine (cO.out _ hL.out).mono ?_
  rintro r w1 ⟨rfl, hw⟩; subst w1
  go_wp2_with fail
  refine (cL.out _).mono ?_
  rintro r w1 ⟨rfl, hw⟩; subst w1
  go_wp2_with fail
  go_ret2
  exact ⟨rfl, rfl⟩
set_option maxHeartbeats 1000000 in
theorem join_high_no (s : Bool) (m e e2 L x1 x2 x3 : Int) (o : Nat) (w : World) (m0 : (m == 0) = false) (d1 : decide (e < -1137) = false) (d2 : decide (1023 < e) = false)
    (h1 : wrap64 (e2 + L) = x1) (h2 : wrap64 (x1 - 1) = x2) (h3 : wrap64 (x2 - 52) = x3) (c1 : -1074 ≤ x3) (c2 : decide (e2 < x3) = true)
    (cO : Hid (∀ w, Laid w → Calls Tryz.prog 97 #[.int .u64 m, .int .i64 e] w fun e w' => e = .returned (.tuple #[.int .u64 (o : Int), .int .i64 e2]) ∧ w' = w)) (hL : Hid (Laid w))
    (cL : Hid (∀ w, Calls Tryz.prog 98 #[.int .u64 (o : Int)] w fun e w' => e = .returned (.int .i64 L) ∧ w = w')) :
    Calls Tryz.prog 68 #[.bool s, .int .u64 m, .int .i64 e] w fun r w' => r = .returned (.tuple #[.int .u64 0, .bool false]) ∧ w' = w := by
  go_enter Tryz.func68, Tryz.ntmps68
  go_wp2_with fail
  refine (cO.out _ hL.out).mono ?_
  rintro r w1 ⟨rfl, hw⟩; subst w1
  go_wp2_with fail
  refine (cL.out _).mono ?_
  rintro r w1 ⟨rfl, hw⟩; subst w1
  go_wp2_with fail
  go_ret2
  exact ⟨rfl, rfl⟩
set_option maxHeartbeats 1000000 in
theorem join_high_far (s : Bool) (m e e2 L x1 x2 x3 : Int) (o : Nat) (w : World) (m0 : (m == 0) = false) (d1 : decide (e < -1137) = false) (d2 : decide (1023 < e) = false)
    (h1 : wrap64 (e2 + L) = x1) (h2 : wrap64 (x1 - 1) = x2) (h3 : wrap64 (x2 - 52) = x3) (c1 : -1074 ≤ x3) (c2 : decide (e2 < x3) = false) (c3 : decide (971 < x3) = true)
    (cO : Hid (∀ w, Laid w → Calls Tryz.prog 97 #[.int .u64 m, .int .i64 e] w fun e w' => e = .returned (.tuple #[.int .u64 (o : Int), .int .i64 e2]) ∧ w' = w)) (hL : Hid (Laid w))
    (cL : Hid (∀ w, Calls Tryz.prog 98 #[.int .u64 (o : Int)] w fun e w' => e = .returned (.int .i64 L) ∧ w = w')) :
    Calls Tryz.prog 68 #[.bool s, .int .u64 m, .int .i64 e] w fun r w' => r = .returned (.tuple #[.int .u64 0, .bool false]) ∧ w' = w := by
  go_enter Tryz.func68, Tryz.ntmps68
  go_wp2_with fail
  refine (cO.out _ hL.out).mono ?_
  rintro r w1 ⟨rfl, hw⟩; subst w1
  go_wp2_with fail
  refine (cL.out _).mono ?_
  rintro r w1 ⟨rfl, hw⟩; subst w1
  go_wp2_with fail
  go_ret2
  exact ⟨rfl, rfl⟩
set_option maxHeartbeats 1000000 in
theorem join_low_yes (s : Bool) (m e e2 L x1 x2 x3 : Int) (o : Nat) (j M p q : Nat) (w : World) (m0 : (m == 0) = false) (d1 : decide (e < -1137) = false) (d2 : decide (1023 < e) = false)
    (h1 : wrap64 (e2 + L) = x1) (h2 : wrap64 (x1 - 1) = x2) (h3 : wrap64 (x2 - 52) = x3) (c1 : x3 < -1074) (c2 : decide (e2 < -1074) = false) (y1 : wrap64 (e2 + 1074) = (j : Int)) (y2 : IntKind.u64.wrap ((o : Int) * 2 ^ min j 64) = (M : Int))
    (cO : Hid (∀ w, Laid w → Calls Tryz.prog 97 #[.int .u64 m, .int .i64 e] w fun e w' => e = .returned (.tuple #[.int .u64 (o : Int), .int .i64 e2]) ∧ w' = w)) (hL : Hid (Laid w))
    (cL : Hid (∀ w, Calls Tryz.prog 98 #[.int .u64 (o : Int)] w fun e w' => e = .returned (.int .i64 L) ∧ w = w')) 
    (cP : Hid (∀ w, Calls Tryz.prog 99 #[.int .u64 (M : Int), .int .i64 (-1074)] w fun e w' => e = .returned (.int .u64 (p : Int)) ∧ w' = w))
    (cG : Hid (∀ w, Calls Tryz.prog 96 #[.bool s, .int .u64 (p : Int)] w fun e w' => e = .returned (.int .u64 (q : Int)) ∧ w' = w)) :
    Calls Tryz.prog 68 #[.bool s, .int .u64 m, .int .i64 e] w fun r w' => r = .returned (.tuple #[.int .u64 (q : Int), .bool true]) ∧ w' = w := by
  go_enter Tryz.func68, Tryz.ntmps68
  go_wp2_with fail
  refine (cO.out _ hL.out).mono ?_
  rintro r w1 ⟨rfl, hw⟩; subst w1
  go_wp2_with fail
  refine (cL.out _).mono ?_
  rintro r w1 ⟨rfl, hw⟩; subst w1
  go_wp2_with fail
  refine (cP.out _).mono ?_
  rintro r w1 ⟨rfl, hw⟩; subst w1
  go_wp2_with fail
  refine (cG.out _).mono ?_
  rintro r w1 ⟨rfl, hw⟩; subst w1
  go_wp2_with fail
  go_ret2
  exact ⟨rfl, rfl⟩
set_option maxHeartbeats 1000000 in
theorem join_high_yes (s : Bool) (m e e2 L x1 x2 x3 : Int) (o : Nat) (j M p q : Nat) (w : World) (m0 : (m == 0) = false) (d1 : decide (e < -1137) = false) (d2 : decide (1023 < e) = false)
    (h1 : wrap64 (e2 + L) = x1) (h2 : wrap64 (x1 - 1) = x2) (h3 : wrap64 (x2 - 52) = x3) (c1 : -1074 ≤ x3) (c2 : decide (e2 < x3) = false) (c3 : decide (971 < x3) = false) (y1 : wrap64 (e2 - x3) = (j : Int)) (y2 : IntKind.u64.wrap ((o : Int) * 2 ^ min j 64) = (M : Int))
    (cO : Hid (∀ w, Laid w → Calls Tryz.prog 97 #[.int .u64 m, .int .i64 e] w fun e w' => e = .returned (.tuple #[.int .u64 (o : Int), .int .i64 e2]) ∧ w' = w)) (hL : Hid (Laid w))
    (cL : Hid (∀ w, Calls Tryz.prog 98 #[.int .u64 (o : Int)] w fun e w' => e = .returned (.int .i64 L) ∧ w = w')) 
    (cP : Hid (∀ w, Calls Tryz.prog 99 #[.int .u64 (M : Int), .int .i64 x3] w fun e w' => e = .returned (.int .u64 (p : Int)) ∧ w' = w))
    (cG : Hid (∀ w, Calls Tryz.prog 96 #[.bool s, .int .u64 (p : Int)] w fun e w' => e = .returned (.int .u64 (q : Int)) ∧ w' = w)) :
    Calls Tryz.prog 68 #[.bool s, .int .u64 m, .int .i64 e] w fun r w' => r = .returned (.tuple #[.int .u64 (q : Int), .bool true]) ∧ w' = w := by
  go_enter Tryz.func68, Tryz.ntmps68
  go_wp2_with fail
  refine (cO.out _ hL.out).mono ?_
  rintro r w1 ⟨rfl, hw⟩; subst w1
  go_wp2_with fail
  refine (cL.out _).mono ?_
  rintro r w1 ⟨rfl, hw⟩; subst w1
  go_wp2_with fail
  refine (cP.out _).mono ?_
  rintro r w1 ⟨rfl, hw⟩; subst w1
  go_wp2_with fail
  refine (cG.out _).mono ?_
  rintro r w1 ⟨rfl, hw⟩; subst w1
  go_wp2_with fail
  go_ret2
  exact ⟨rfl, rfl⟩
theorem shl_min {o j M : Nat} (hj : j ≤ 64) (hM : o * 2 ^ j = M) (hb : M < 18446744073709551616) : IntKind.u64.wrap ((o : Int) * 2 ^ min j 64) = (M : Int) := by
  rw [Nat.min_eq_left hj]
  have e : (o : Int) * 2 ^ j = ((o * 2 ^ j : Nat) : Int) := by simp
  rw [e, hM, IntKind.wrap_u64]
  omega
/-- The program's Join. -/
theorem join_any (s : Bool) (m : Nat) (e : Int) (hm : m < 18446744073709551616) (w : World) (hL : Laid w) :
    Calls Tryz.prog 68 #[.bool s, .int .u64 (m : Int), .int .i64 e] w fun r w' => r = .returned (.tuple #[.int .u64 ((jPat s (joinP m e) : Nat) : Int), .bool (joinP m e).isSome]) ∧ w' = w := by
  by_cases m0 : m = 0
  · subst m0
    exact join_nil s e _ w (Lib.hid fun w => signed_any s 0 (by decide) w)
  have m1 : ((m : Int) == 0) = false := by simp only [beq_eq_false_iff_ne]; omega
  by_cases c : e < -1137 ∨ 1023 < e
  · rw [join_far (by omega) hm c]
    refine join_away s (m : Int) e w m1 ?_
    by_cases d : e < -1137
    · exact .inl (by simpa using d)
    · exact .inr ⟨by simpa using d, by have : 1023 < e := by omega
                                       simpa using this⟩
  have d1 : decide (e < -1137) = false := by simp; omega
  have d2 : decide (1023 < e) = false := by simp; omega
  have ho := odd_of (m := m) (by omega) hm
  have cO := Lib.hid fun w hL => odd_any m e (by omega) hm (by omega) w hL
  have hol : oOf m < 18446744073709551616 := Nat.lt_of_le_of_lt (Nat.div_le_self _ _) hm
  have cL := Lib.hid fun w => len64_any (oOf m) hol w
  have ej : joinP m e = joinO (oOf m) (lOf m) (e + (tOf m : Int)) := by unfold joinP; rw [if_neg m0]
  have et := fun r h => join_tells (r := r) (e := e + (tOf m : Int)) ho.lo ho.hi ho.pos h
  rw [ej]
  change Hid (∀ w, Calls Tryz.prog 98 #[.int .u64 ((oOf m : Nat) : Int)] w fun e w' => e = .returned (.int .i64 ((lOf m : Nat) : Int)) ∧ w = w') at cL
  have hfit := ho.fit
  have hpos := ho.pos
  clear ej ho hol
  generalize oOf m = o at *
  generalize tOf m = t at *
  generalize lOf m = l at *
  generalize he2 : e + (t : Int) = e2 at *
  have b2 : -1137 ≤ e2 ∧ e2 ≤ 1087 := by omega
  have y1 : wrap64 (e2 + (l : Int)) = e2 + (l : Int) := in64 (by omega)
  have y2 : wrap64 (e2 + (l : Int) - 1) = e2 + (l : Int) - 1 := in64 (by omega)
  have y3 : wrap64 (e2 + (l : Int) - 1 - 52) = e2 + (l : Int) - 53 := by rw [in64 (by omega)]; omega
  by_cases c1 : e2 + (l : Int) - 53 < -1074
  · have hu : uOf l e2 = -1074 := by unfold uOf; rw [if_pos c1]
    by_cases c2 : e2 < -1074
    · have hj : joinO o l e2 = none := by unfold joinO; rw [hu, if_pos c2]
      rw [hj]
      exact join_low_no s m e e2 l _ _ _ o w m1 d1 d2 y1 y2 y3 c1 (by simpa using c2) cO (Lib.hid hL) cL
    · obtain ⟨r, hr⟩ : ∃ r, joinO o l e2 = some r := by unfold joinO; rw [hu, if_neg c2, if_neg (by omega)]; exact ⟨_, rfl⟩
      obtain ⟨j, hj, r0, r1, -, -, u0, u1, hM, -, hq⟩ := et r hr
      rw [hr]
      rw [hu] at hj u0 u1 hq
      generalize hMM : o * 2 ^ j = M at *
      have hq2 : r = M + 0 * 4503599627370496 := by rw [Nat.zero_mul, Nat.add_zero]; simpa using hq
      exact join_low_yes s m e e2 l _ _ _ o j M r _ w m1 d1 d2 y1 y2 y3 c1 (by simp; omega) (by rw [in64 (by omega)]; omega) (shl_min (by omega) hMM (by omega)) cO (Lib.hid hL) cL
        (Lib.hid fun w => packed_any _ 0 (-1074) r w (show _ = _ by omega) (show _ ≤ _ by omega) (Lib.hid hM) (Lib.hid hq2)) (Lib.hid fun w => signed_any s r (by omega) w)
  · have hu : uOf l e2 = e2 + (l : Int) - 53 := by unfold uOf; rw [if_neg c1]
    by_cases c2 : e2 < e2 + (l : Int) - 53
    · have hj : joinO o l e2 = none := by unfold joinO; rw [hu, if_pos c2]
      rw [hj]
      exact join_high_no s m e e2 l _ _ _ o w m1 d1 d2 y1 y2 y3 (by omega) (by simpa using c2) cO (Lib.hid hL) cL
    · by_cases c3 : 971 < e2 + (l : Int) - 53
      · have hj : joinO o l e2 = none := by unfold joinO; rw [hu, if_neg c2, if_pos c3]
        rw [hj]
        exact join_high_far s m e e2 l _ _ _ o w m1 d1 d2 y1 y2 y3 (by omega) (by simpa using c2) (by simpa using c3) cO (Lib.hid hL) cL
      · obtain ⟨r, hr⟩ : ∃ r, joinO o l e2 = some r := by unfold joinO; rw [hu, if_neg c2, if_neg c3]; exact ⟨_, rfl⟩
        obtain ⟨j, hj, r0, r1, -, -, u0, u1, hM, -, hq⟩ := et r hr
        rw [hr]
        rw [hu] at hj u0 u1 hq
        generalize hMM : o * 2 ^ j = M at *
        obtain ⟨q, hqq⟩ : ∃ q : Nat, (q : Int) = e2 + (l : Int) - 53 + 1074 := ⟨(e2 + (l : Int) - 53 + 1074).toNat, by omega⟩
        rw [show (e2 + (l : Int) - 53 + 1074).toNat = q by omega] at hq
        exact join_high_yes s m e e2 l _ _ _ o j M r _ w m1 d1 d2 y1 y2 y3 (by omega) (by simpa using c2) (by simpa using c3) (by rw [in64 (by omega)]; omega) (shl_min (by omega) hMM (by omega)) cO (Lib.hid hL) cL
          (Lib.hid fun w => packed_any _ q _ r w (show _ = _ by omega) (show _ ≤ _ by omega) (Lib.hid hM) (Lib.hid hq)) (Lib.hid fun w => signed_any s r (by omega) w)
end Go.Proofs.YtojpfmlmalmlcaaGreatDoor
