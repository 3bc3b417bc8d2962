/-
  The program's small calls of layer 11: signed, odd, packed, most. No condition beyond what each contract asks.
-/
import Derived.Test.YtbbpibbckfnlbaaDoorBits11
namespace Go.Proofs.YtbbpibbckfnlbaaDoor
open Go.RowKit

theorem or_top (r : Nat) (hr : r < 9223372036854775808) : bits .or .u64 (r : Int) 9223372036854775808 = ((pat true r : Nat) : Int) := by
  have h := bits_or_u64_nat r 9223372036854775808 (by omega) (by decide)
  have e : r ||| 9223372036854775808 = pat true r := by
    have := Nat.two_pow_add_eq_or_of_lt (i := 63) (b := r) (by omega) 1
    rw [Nat.mul_one] at this
    have h63 : (2 : Nat) ^ 63 = 9223372036854775808 := by decide
    rw [h63] at this
    rw [Nat.or_comm, ← this]
    simp [pat]
  rw [e] at h
  exact h

set_option maxHeartbeats 400000 in
theorem signed_any (s : Bool) (r : Nat) (hr : r < 9223372036854775808) (w : World) :
    Calls Tryd.prog 14 #[.bool s, .int .u64 (r : Int)] w fun e w' => e = .returned (.int .u64 ((pat s r : Nat) : Int)) ∧ w' = w := by
  have h := or_top r hr
  cases s
  · have h0 : pat false r = r := by simp [pat]
    rw [h0]
    clear h hr
    go_enter Tryd.func14, Tryd.ntmps14
    go_wp2_with fail
    go_ret
    exact ⟨rfl, rfl⟩
  · generalize pat true r = p at *
    clear hr
    go_enter Tryd.func14, Tryd.ntmps14
    go_wp2_with fail
    go_ret
    exact ⟨by first | rfl | rw [h], rfl⟩

def mostOf (s : Bool) : Nat := if s then 9223372036854775808 else 9223372036854775807

set_option maxHeartbeats 400000 in
theorem most_any (s : Bool) (w : World) : Calls Tryd.prog 18 #[.bool s] w fun e w' => e = .returned (.int .u64 ((mostOf s : Nat) : Int)) ∧ w' = w := by
  cases s
  · go_enter Tryd.func18, Tryd.ntmps18
    go_wp2_with fail
    go_ret
    exact ⟨rfl, rfl⟩
  · go_enter Tryd.func18, Tryd.ntmps18
    go_wp2_with fail
    go_ret
    exact ⟨rfl, rfl⟩

set_option maxHeartbeats 400000 in
theorem packed_any (M q : Nat) (u : Int) (p : Nat) (w : World) (hu : Hid (u = (q : Int) - 1074)) (hq : Hid (q ≤ 2045)) (hM : Hid (M < 9007199254740992)) (hp : Hid (p = M + q * 4503599627370496)) :
    Calls Tryd.prog 17 #[.int .u64 (M : Int), .int .i64 u] w fun e w' => e = .returned (.int .u64 (p : Int)) ∧ w' = w := by
  have e1 : wrap64 (u - (-1074)) = (q : Int) := by have := hu.out; have := hq.out; unfold wrap64; omega
  have e1' : wrap64 (u + 1074) = (q : Int) := by have := hu.out; have := hq.out; unfold wrap64; omega
  have e2 : IntKind.u64.wrap (q : Int) = (q : Int) := by have := hq.out; rw [IntKind.wrap_u64]; omega
  have e3 : IntKind.u64.wrap ((q : Int) * 4503599627370496) = ((q * 4503599627370496 : Nat) : Int) := by have := hq.out; rw [IntKind.wrap_u64]; omega
  obtain ⟨y, hy⟩ : ∃ y, y = q * 4503599627370496 := ⟨_, rfl⟩
  rw [← hy] at e3
  have e4 : IntKind.u64.wrap ((y : Int) + (M : Int)) = (p : Int) := by have := hq.out; have := hM.out; have := hp.out; rw [IntKind.wrap_u64]; omega
  clear hy
  go_enter Tryd.func17, Tryd.ntmps17
  go_wp2_with fail
  go_ret
  exact ⟨by first | rfl | rw [e4], rfl⟩

/-- A shift by less than 64 places, as the walk spells it. -/
theorem shr_min {m t o : Nat} (ht : t < 64) (ho : m / 2 ^ t = o) : (m : Int) / 2 ^ min t 64 = (o : Int) := by
  rw [Nat.min_eq_left (by omega), ← ho]
  simp

set_option maxHeartbeats 400000 in
theorem odd_walk (m t o : Nat) (e e2 : Int) (w : World) (ho : (m : Int) / 2 ^ min t 64 = (o : Int)) (he : wrap64 (e + (t : Int)) = e2)
    (cT : Hid (∀ w, Laid w → Calls Tryd.prog 20 #[.int .u64 (m : Int)] w fun e w' => e = .returned (.int .i64 (t : Int)) ∧ w' = w)) (hL : Hid (Laid w)) :
    Calls Tryd.prog 15 #[.int .u64 (m : Int), .int .i64 e] w fun r w' => r = .returned (.tuple #[.int .u64 (o : Int), .int .i64 e2]) ∧ w' = w := by
  have t0 : ¬ ((t : Int) < 0) := by omega
  go_enter Tryd.func15, Tryd.ntmps15
  go_wp2_with fail
  refine (cT.out _ hL.out).mono ?_
  rintro r w1 ⟨rfl, hw⟩; subst w1
  go_wp2_with fail
  go_ret2
  exact ⟨by simp [ho, he], rfl⟩

/-- The same number with an odd m. -/
theorem odd_any (m : Nat) (e : Int) (h0 : 0 < m) (h : m < 18446744073709551616) (he : -9223372036854775808 ≤ e ∧ e ≤ 9223372036854775743) (w : World) (hL : Laid w) :
    Calls Tryd.prog 15 #[.int .u64 (m : Int), .int .i64 e] w fun r w' => r = .returned (.tuple #[.int .u64 ((oOf m : Nat) : Int), .int .i64 (e + ((tOf m : Nat) : Int))]) ∧ w' = w := by
  have ho := odd_of h0 h
  have h1 := ho.fit
  have h2 := ho.pos
  exact odd_walk m (tOf m) (oOf m) e _ w (shr_min (by omega) rfl) (in64 (by omega)) (Lib.hid fun w hL => tz_any m h0 h w hL) (Lib.hid hL)

end Go.Proofs.YtbbpibbckfnlbaaDoor
