/-
  What math/bits' Len64, Len16, Len do. No condition beyond what each contract says.
-/
import Derived.Test.YtcejbkmmiklhbaaRefM9
import Derived.StillTailTactics
import Derived.Lib.BitFns
namespace Go.Proofs.Ytcejbkmmiklhbaa
open Go.RowKit

theorem tab_at (m : Nat) (h : m < Lib.len8tab.size) (hb : m < 256) : ((Lib.len8tab[m]'h).toNat : Int) = (Lib.bitLen m : Int) := by
  have e := Lib.len8_eq ⟨m, hb⟩
  rw [← e]
  unfold Lib.len8
  generalize Lib.len8tab = T at *
  rw [Int.toNat_natCast, ByteArray.getElem?_lt' _ _ h, Option.getD_some]
theorem len_sum {c : Int} {k L M r : Nat} (hc : c = (k : Int)) (hr : r = L) (e : L = k + M) (l : M ≤ 8) (hk6 : k ≤ 56) : wrap64 (c + wrap64 (M : Int)) = (r : Int) := by
  subst hc hr e
  unfold wrap64
  omega
theorem len_step {k x m p : Nat} (hx : x < 18446744073709551616) (hp : p = 2 ^ k) (hd : m = x / p) (hk : k = 0 ∨ p ≤ x) : Lib.bitLen x = k + Lib.bitLen m := by
  subst hp hd
  rcases hk with h | h
  · subst h
    rw [Nat.pow_zero, Nat.div_one, Nat.zero_add]
  · exact Lib.bitLen_shift k x h hx
theorem len_fin (k : Nat) {x d c : Int} {r : Nat} (p : Nat) (hc : c = (k : Int)) (hr : r = Lib.bitLen x.toNat) (h1 : x.toNat < 18446744073709551616) (hp : p = 2 ^ k) (hd : d.toNat = x.toNat / p) (hb : d.toNat < 256) (hk : k = 0 ∨ p ≤ x.toNat) (hk6 : k ≤ 56) :
    wrap64 (c + wrap64 (Lib.bitLen d.toNat : Int)) = (r : Int) :=
  len_sum hc hr (len_step h1 hp hd hk) (Lib.bitLen_le8 ⟨d.toNat, hb⟩) hk6

set_option maxHeartbeats 4000000 in
set_option maxRecDepth 100000 in
theorem len64_int (x : Int) (r : Nat) (h0 : 0 ≤ x) (h1 : x ≤ 18446744073709551615) (HR : Hid (r = Lib.bitLen x.toNat)) (w : World) :
    Calls Try.prog 58 #[.int .u64 x] w fun e w' => e = .returned (.int .i64 (r : Int)) ∧ w = w' := by
  go_enter Try.func58, Try.ntmps58
  go_wp2
  all_goals first
    | (exfalso; rename_i hz; rw [Lib.len8tab_size] at hz; omega)
    | (go_ret; refine ⟨congrArg Ending.returned (congrArg (Value.int IntKind.i64) ?_), rfl⟩
       rw [tab_at _ _ (by omega)]
       first
         | exact len_fin 56 72057594037927936 rfl HR.out (by omega) rfl (by omega) (by omega) (.inr (by omega)) (by omega)
         | exact len_fin 48 281474976710656 rfl HR.out (by omega) rfl (by omega) (by omega) (.inr (by omega)) (by omega)
         | exact len_fin 40 1099511627776 rfl HR.out (by omega) rfl (by omega) (by omega) (.inr (by omega)) (by omega)
         | exact len_fin 32 4294967296 rfl HR.out (by omega) rfl (by omega) (by omega) (.inr (by omega)) (by omega)
         | exact len_fin 24 16777216 rfl HR.out (by omega) rfl (by omega) (by omega) (.inr (by omega)) (by omega)
         | exact len_fin 16 65536 rfl HR.out (by omega) rfl (by omega) (by omega) (.inr (by omega)) (by omega)
         | exact len_fin 8 256 rfl HR.out (by omega) rfl (by omega) (by omega) (.inr (by omega)) (by omega)
         | (have h := len_fin 0 (d := x) 1 rfl HR.out (by omega) rfl (by omega) (by omega) (.inl rfl) (by omega)
            simpa using h))

theorem len64_any (x : Nat) (hx : x < 18446744073709551616) (w : World) :
    Calls Try.prog 58 #[.int .u64 (x : Int)] w fun e w' => e = .returned (.int .i64 (Lib.bitLen x : Int)) ∧ w = w' :=
  len64_int (x : Int) _ (by omega) (by omega) (show _ = _ by rw [Int.toNat_natCast]) w


set_option maxHeartbeats 4000000 in
set_option maxRecDepth 100000 in
theorem len16_int (x : Int) (r : Nat) (h0 : 0 ≤ x) (h1 : x ≤ 65535) (HR : Hid (r = Lib.bitLen x.toNat)) (w : World) :
    Calls Try.prog 45 #[.int .u16 x] w fun e w' => e = .returned (.int .i64 (r : Int)) ∧ w' = w := by
  go_enter Try.func45, Try.ntmps45
  go_wp2
  all_goals first
    | (exfalso; rename_i hz; rw [Lib.len8tab_size] at hz; omega)
    | (go_ret; refine ⟨congrArg Ending.returned (congrArg (Value.int IntKind.i64) ?_), rfl⟩
       rw [tab_at _ _ (by omega)]
       first
         | exact len_fin 8 256 rfl HR.out (by omega) rfl (by omega) (by omega) (.inr (by omega)) (by omega)
         | (have h := len_fin 0 (d := x) 1 rfl HR.out (by omega) rfl (by omega) (by omega) (.inl rfl) (by omega)
            simpa using h))
theorem len16_any (x : Nat) (hx : x < 65536) (w : World) :
    Calls Try.prog 45 #[.int .u16 (x : Int)] w fun e w' => e = .returned (.int .i64 (Lib.bitLen x : Int)) ∧ w' = w :=
  len16_int (x : Int) _ (by omega) (by omega) (show _ = _ by rw [Int.toNat_natCast]) w
end Go.Proofs.Ytcejbkmmiklhbaa
