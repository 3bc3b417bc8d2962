/-
  What math/bits' Len64 and TrailingZeros64 do; the latter where its table reads as it is laid (Laid). No condition beyond what each contract asks.
-/
import Derived.Test.YtbbpibbckfnlbaaDoorDblA
import Derived.StillTailTactics
namespace Go.Proofs.YtbbpibbckfnlbaaDoor
open Go.RowKit

theorem tab_at (m : Nat) (h : m < Lib.len8tab.size) (hb : m < 256) : ((Lib.len8tab[m]'h).toNat : Int) = (Lib.bitLen m : Int) := by
  have e := Lib.len8_eq ⟨m, hb⟩
  rw [← e]
  unfold Lib.len8
  generalize Lib.len8tab = T at *
  rw [Int.toNat_natCast, ByteArray.getElem?_lt' _ _ h, Option.getD_some]
theorem len_sum {c : Int} {k L M r : Nat} (hc : c = (k : Int)) (hr : r = L) (e : L = k + M) (l : M ≤ 8) (hk6 : k ≤ 56) : wrap64 (c + wrap64 (M : Int)) = (r : Int) := by
  subst hc hr e
  unfold wrap64
  omega
theorem len_step {k x m p : Nat} (hx : x < 18446744073709551616) (hp : p = 2 ^ k) (hd : m = x / p) (hk : k = 0 ∨ p ≤ x) : Lib.bitLen x = k + Lib.bitLen m := by
  subst hp hd
  rcases hk with h | h
  · subst h
    rw [Nat.pow_zero, Nat.div_one, Nat.zero_add]
  · exact Lib.bitLen_shift k x h hx
theorem len_fin (k : Nat) {x d c : Int} {r : Nat} (p : Nat) (hc : c = (k : Int)) (hr : r = Lib.bitLen x.toNat) (h1 : x.toNat < 18446744073709551616) (hp : p = 2 ^ k) (hd : d.toNat = x.toNat / p) (hb : d.toNat < 256) (hk : k = 0 ∨ p ≤ x.toNat) (hk6 : k ≤ 56) :
    wrap64 (c + wrap64 (Lib.bitLen d.toNat : Int)) = (r : Int) :=
  len_sum hc hr (len_step h1 hp hd hk) (Lib.bitLen_le8 ⟨d.toNat, hb⟩) hk6

set_option maxHeartbeats 4000000 in
set_option maxRecDepth 100000 in
theorem len64_int (x : Int) (r : Nat) (h0 : 0 ≤ x) (h1 : x ≤ 18446744073709551615) (HR : Hid (r = Lib.bitLen x.toNat)) (w : World) :
    Calls Tryd.prog 16 #[.int .u64 x] w fun e w' => e = .returned (.int .i64 (r : Int)) ∧ w = w' := by
  go_enter Tryd.func16, Tryd.ntmps16
  go_wp2
  all_goals first
    | (exfalso; rename_i hz; rw [Lib.len8tab_size] at hz; omega)
    | (go_ret; refine ⟨congrArg Ending.returned (congrArg (Value.int IntKind.i64) ?_), rfl⟩
       rw [tab_at _ _ (by omega)]
       first
         | exact len_fin 56 72057594037927936 rfl HR.out (by omega) rfl (by omega) (by omega) (.inr (by omega)) (by omega)
         | exact len_fin 48 281474976710656 rfl HR.out (by omega) rfl (by omega) (by omega) (.inr (by omega)) (by omega)
         | exact len_fin 40 1099511627776 rfl HR.out (by omega) rfl (by omega) (by omega) (.inr (by omega)) (by omega)
         | exact len_fin 32 4294967296 rfl HR.out (by omega) rfl (by omega) (by omega) (.inr (by omega)) (by omega)
         | exact len_fin 24 16777216 rfl HR.out (by omega) rfl (by omega) (by omega) (.inr (by omega)) (by omega)
         | exact len_fin 16 65536 rfl HR.out (by omega) rfl (by omega) (by omega) (.inr (by omega)) (by omega)
         | exact len_fin 8 256 rfl HR.out (by omega) rfl (by omega) (by omega) (.inr (by omega)) (by omega)
         | (have h := len_fin 0 (d := x) 1 rfl HR.out (by omega) rfl (by omega) (by omega) (.inl rfl) (by omega)
            simpa using h))

theorem len64_any (x : Nat) (hx : x < 18446744073709551616) (w : World) :
    Calls Tryd.prog 16 #[.int .u64 (x : Int)] w fun e w' => e = .returned (.int .i64 (Lib.bitLen x : Int)) ∧ w = w' :=
  len64_int (x : Int) _ (by omega) (by omega) (show _ = _ by rw [Int.toNat_natCast]) w

/-- What the calls of this layer lean on: the library's table. -/
structure Laid (w : World) : Prop where
  tab : ∀ j, j < 64 → w.cell? ⟨0, j, none⟩ = some (.int .u8 ((Lib.deBruijn64tab.getD j 0 : Nat) : Int))
  size : 0 < w.heap.size
theorem Laid.after {w w' : World} (h : Laid w) (hb : Below w.heap.size w w') : Laid w' where
  tab := fun j hj => (hb.cell (p := ⟨0, j, none⟩) h.size).trans (h.tab j hj)
  size := Nat.lt_of_lt_of_le h.size hb.size

theorem tz_key (x a : Nat) (hx : x < 18446744073709551616) (hx0 : x ≠ 0) (hlow : x &&& (18446744073709551616 - x) = a) :
    IntKind.u64.wrap (bits BinOp.and IntKind.u64 (x : Int) (IntKind.u64.wrap (-(x : Int))) * 285870213051353865) / 288230376151711744 = ((a * 285870213051353865 % 18446744073709551616 / 288230376151711744 : Nat) : Int) := by
  have e1 : IntKind.u64.wrap (-(x : Int)) = ((18446744073709551616 - x : Nat) : Int) := by rw [IntKind.wrap_u64]; omega
  rw [e1, bits_and_u64_nat x _ hx (by omega), hlow, IntKind.wrap_u64]
  omega

set_option maxHeartbeats 1000000 in
theorem tz_core (x k idx : Nat) (w : World) (hx0 : ((x : Int) == 0) = false)
    (key : IntKind.u64.wrap (bits BinOp.and IntKind.u64 (x : Int) (IntKind.u64.wrap (-(x : Int))) * 285870213051353865) / 288230376151711744 = (idx : Int))
    (hi : idx < 64) (hk : k < 64) (hcell : w.cell? ⟨0, idx, none⟩ = some (.int .u8 (k : Int))) :
    Calls Tryd.prog 20 #[.int .u64 (x : Int)] w fun e w' => e = .returned (.int .i64 (k : Int)) ∧ w' = w := by
  go_enter Tryd.func20, Tryd.ntmps20
  go_wp2_with (simp only [key])
  go_ret
  exact ⟨rfl, rfl⟩

/-- math/bits.TrailingZeros64 of a number that is not 0. -/
theorem tz_any (x : Nat) (h0 : 0 < x) (hx : x < 18446744073709551616) (w : World) (hL : Laid w) :
    Calls Tryd.prog 20 #[.int .u64 (x : Int)] w fun e w' => e = .returned (.int .i64 ((tOf x : Nat) : Int)) ∧ w' = w := by
  obtain ⟨hlow, hk⟩ := Lib.lowest_bit 64 x (by omega) hx
  obtain ⟨hi, htab⟩ := Lib.deBruijn64_at _ hk
  have hcell := hL.tab _ hi
  rw [htab] at hcell
  exact tz_core x _ _ w (by simp; omega) (tz_key x _ hx (by omega) hlow) hi hk hcell

end Go.Proofs.YtbbpibbckfnlbaaDoor
