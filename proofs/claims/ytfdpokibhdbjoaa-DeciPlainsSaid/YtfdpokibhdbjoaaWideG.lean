/-
  What wide's Times does; no condition beyond what the contract asks.
  What math/bits' Len64, LeadingZeros64 and Div64 do; no condition beyond what each contract asks.
  What math/bits' Div64 does where the upper half is below the divisor (else Go panics); no other condition.
  What math/bits' Div64 and wide's Div do; of Div64 where the upper half is below the divisor (else Go panics); no other condition.
  What wide's Div does; no condition beyond what each contract asks.
  What wide's Up and Down do; no condition beyond what each contract asks.
-/
import Derived.Test.YtfdpokibhdbjoaaWideA
import Derived.Deep.RegionHeld3
import Derived.Deep.RegionWith
import Derived.BigRegion
import Derived.Deep.DeepCutAuto
import Derived.StillTailTactics
import Derived.Deep.CutBlock
import Derived.Lib.QuietBelow
import Derived.BigQuiet
namespace Go.Proofs.Ytfdpokibhdbjoaa
open Go.RowKit
theorem bcell {W w1 : World} (hb : Below W.heap.size W w1) : (∀ b o, b < W.heap.size → w1.cell? ⟨b, o, none⟩ = W.cell? ⟨b, o, none⟩) ∧ (∀ b o, b < W.heap.size → w1.frozen? ⟨b, o, none⟩ = W.frozen? ⟨b, o, none⟩) :=
  ⟨fun b o h => hb.cell (p := ⟨b, o, none⟩) h, fun b o h => hb.frozen (p := ⟨b, o, none⟩) h⟩
theorem ret_val {k : IntKind} {a b : Int} (h : a = b) : Value.int k a = .int k b := by rw [h]
theorem cell_drew {V : World} {p : Addr} {v : Value} (h : V.cell? p = some v) : V.drew.cell? p = some v := h
theorem cell_lt {V : World} {p : Addr} {v : Value} (h : V.cell? p = some v) : p.block < V.heap.size := by
  rcases Nat.lt_or_ge p.block V.heap.size with h1 | h1
  · exact h1
  · exfalso
    unfold World.cell? at h
    rw [Array.getElem?_eq_none h1] at h
    cases h
theorem cell_past {V : World} {p : Addr} {v : Value} (o : Obj) (h : V.cell? p = some v) : (V.alloc o).cell? p = some v :=
  (World.cell?_of_block (Below.heap_alloc V o p.block (cell_lt h))).trans h
theorem cell_set {V : World} {p q : Addr} {v u : Value} (h : V.cell? p = some v) (hq : p.block ≠ q.block) : (V.setCell q u).cell? p = some v :=
  (World.cell?_of_block (Below.heap_setCell V q u p.block hq)).trans h
theorem four_blocks {W : World} {n : Nat} (z : W.heap.size = n + 2) :
    (∀ o1 o2 o3 o4, ((((W.alloc o1).alloc o2).alloc o3).alloc o4).drew.heap[n + 2]? = some o1) ∧ (∀ o1 o2 o3 o4, ((((W.alloc o1).alloc o2).alloc o3).alloc o4).drew.heap[n + 2 + 1]? = some o2) ∧
    (∀ o1 o2 o3 o4, ((((W.alloc o1).alloc o2).alloc o3).alloc o4).drew.heap[n + 2 + 1 + 1]? = some o3) ∧ (∀ o1 o2 o3 o4, ((((W.alloc o1).alloc o2).alloc o3).alloc o4).drew.heap[n + 2 + 1 + 1 + 1]? = some o4) := by
  have e1 : ∀ o1, (W.alloc o1).heap.size = n + 2 + 1 := fun o1 => by simp [z]
  have e2 : ∀ o1 o2, ((W.alloc o1).alloc o2).heap.size = n + 2 + 1 + 1 := fun o1 o2 => by simp [z]
  have e3 : ∀ o1 o2 o3, (((W.alloc o1).alloc o2).alloc o3).heap.size = n + 2 + 1 + 1 + 1 := fun o1 o2 o3 => by simp [z]
  refine ⟨fun o1 o2 o3 o4 => ?_, fun o1 o2 o3 o4 => ?_, fun o1 o2 o3 o4 => ?_, fun o1 o2 o3 o4 => ?_⟩
  · show ((((W.alloc o1).alloc o2).alloc o3).alloc o4).heap[n + 2]? = _
    rw [Below.heap_alloc _ _ _ (by rw [e3]; omega), Below.heap_alloc _ _ _ (by rw [e2]; omega), Below.heap_alloc _ _ _ (by rw [e1]; omega), ← z]
    exact heap_alloc_new _ _
  · show ((((W.alloc o1).alloc o2).alloc o3).alloc o4).heap[n + 2 + 1]? = _
    rw [Below.heap_alloc _ _ _ (by rw [e3]; omega), Below.heap_alloc _ _ _ (by rw [e2]; omega), ← e1 o1]
    exact heap_alloc_new _ _
  · show ((((W.alloc o1).alloc o2).alloc o3).alloc o4).heap[n + 2 + 1 + 1]? = _
    rw [Below.heap_alloc _ _ _ (by rw [e3]; omega), ← e2 o1 o2]
    exact heap_alloc_new _ _
  · show ((((W.alloc o1).alloc o2).alloc o3).alloc o4).heap[n + 2 + 1 + 1 + 1]? = _
    rw [← e3 o1 o2 o3]
    exact heap_alloc_new _ _
/-- What stands behind 'low, high := ..': two pointers to blocks that are new and hold both products; what was there stands. -/
def TwoCut (W : World) (n p1 p0 q1 q0 : Nat) (s6 s7 : Value) (wx : World) : Prop :=
  ∃ g h : Nat, s6 = .pointer (some ⟨g, 0, none⟩) ∧ s7 = .pointer (some ⟨h, 0, none⟩) ∧ n + 2 ≤ g ∧ n + 2 ≤ h ∧ wx.heap[g]? = some (.cells #[.int .u64 (p1 : Int), .int .u64 (p0 : Int)] 25 (0, 0)) ∧
    wx.heap[h]? = some (.cells #[.int .u64 (q1 : Int), .int .u64 (q0 : Int)] 25 (0, 0)) ∧ Below W.heap.size W wx
end Go.Proofs.Ytfdpokibhdbjoaa
namespace Go.Proofs.Ytfdpokibhdbjoaa
open Go.RowKit
theorem tab_at (m : Nat) (h : m < Lib.len8tab.size) (hb : m < 256) : ((Lib.len8tab[m]'h).toNat : Int) = (Lib.bitLen m : Int) := by
  have e := Lib.len8_eq ⟨m, hb⟩
  rw [← e]
  unfold Lib.len8
  generalize Lib.len8tab = T at *
  rw [Int.toNat_natCast, ByteArray.getElem?_lt' _ _ h, Option.getD_some]
theorem len_sum {c : Int} {k L M r : Nat} (hc : c = (k : Int)) (hr : r = L) (e : L = k + M) (l : M ≤ 8) (hk6 : k ≤ 56) : wrap64 (c + wrap64 (M : Int)) = (r : Int) := by
  subst hc hr e
  unfold wrap64
  omega
theorem len_step {k x m p : Nat} (hx : x < 18446744073709551616) (hp : p = 2 ^ k) (hd : m = x / p) (hk : k = 0 ∨ p ≤ x) : Lib.bitLen x = k + Lib.bitLen m := by
  subst hp hd
  rcases hk with h | h
  · subst h
    rw [Nat.pow_zero, Nat.div_one, Nat.zero_add]
  · exact Lib.bitLen_shift k x h hx
theorem len_fin (k : Nat) {x d c : Int} {r : Nat} (p : Nat) (hc : c = (k : Int)) (hr : r = Lib.bitLen x.toNat) (h1 : x.toNat < 18446744073709551616) (hp : p = 2 ^ k) (hd : d.toNat = x.toNat / p) (hb : d.toNat < 256) (hk : k = 0 ∨ p ≤ x.toNat) (hk6 : k ≤ 56) :
    wrap64 (c + wrap64 (Lib.bitLen d.toNat : Int)) = (r : Int) :=
  len_sum hc hr (len_step h1 hp hd hk) (Lib.bitLen_le8 ⟨d.toNat, hb⟩) hk6
end Go.Proofs.Ytfdpokibhdbjoaa
namespace Go.Proofs.Ytfdpokibhdbjoaa
open Go.RowKit
theorem below_drewN (w : World) (n : Nat) : Below w.heap.size w (w.drewN n) := ⟨rfl, rfl, rfl, Nat.le_refl _, fun _ _ => rfl⟩
theorem div_val {l y : Nat} (hl : l < 18446744073709551616) : IntKind.u64.wrap ((l : Int) / (y : Int)) = ((l / y : Nat) : Int) := by
  have e : ((l : Int) / (y : Int)) = ((l / y : Nat) : Int) := by simp
  rw [e]
  exact wrapN _ (Nat.lt_of_le_of_lt (Nat.div_le_self _ _) hl)
theorem tdiv_val {l y : Nat} : ((l : Int).tdiv (y : Int)) = ((l / y : Nat) : Int) := by rw [Int.tdiv_eq_ediv_of_nonneg (by omega)]; simp
theorem tmod_val {l y : Nat} : ((l : Int).tmod (y : Int)) = ((l % y : Nat) : Int) := by rw [Int.tmod_eq_emod_of_nonneg (by omega)]; simp
/-- What a quotient, as the walk may spell it, is. -/
structure DivIs (u n g : Nat) : Prop where
  a : IntKind.u64.wrap ((u : Int) / (n : Int)) = (g : Int)
  b : (u : Int).tdiv (n : Int) = (g : Int)
  c : (u : Int) / (n : Int) = (g : Int)
  d : IntKind.u64.wrap (g : Int) = (g : Int)
  e : 0 < n
theorem DivIs.of {u n g : Nat} (hg : g = u / n) (hu : u < 18446744073709551616) (hn : 0 < n) : DivIs u n g := by
  subst hg
  exact ⟨div_val hu, tdiv_val, by simp, wrapN _ (Nat.lt_of_le_of_lt (Nat.div_le_self _ _) hu), hn⟩
/-- What a round reckons, as the walk spells it: the guess g with its rest r; the halves of the divisor n1, n0; the next digit d. -/
structure RoundIs (g r n1 n0 d : Nat) (a c e g' r' : Nat) : Prop where
  isA : IntKind.u64.wrap ((g : Int) * (n0 : Int)) = (a : Int)
  isC : IntKind.u64.wrap (4294967296 * (r : Int)) = (c : Int)
  isE : IntKind.u64.wrap ((c : Int) + (d : Int)) = (e : Int)
  isG : IntKind.u64.wrap ((g : Int) - 1) = (g' : Int)
  isR : IntKind.u64.wrap ((r : Int) + (n1 : Int)) = (r' : Int)
theorem mul_small {g n : Nat} (hg : g ≤ 4294967297) (hn : n < 4294967296) : g * n < 18446744073709551616 := by
  have h : g * n ≤ 4294967297 * 4294967295 := Nat.mul_le_mul hg (by omega)
  omega
theorem RoundIs.of {g r n1 n0 d : Nat} (hg : g ≤ 4294967297) (hg1 : 1 ≤ g) (hr : r < 4294967296) (h1 : n1 < 4294967296) (h0 : n0 < 4294967296) (hd : d < 4294967296) :
    RoundIs g r n1 n0 d (g * n0) (r * 4294967296) (r * 4294967296 + d) (g - 1) (r + n1) := by
  refine ⟨?_, ?_, ?_, ?_, ?_⟩
  · rw [mulN]; exact wrapN _ (mul_small hg h0)
  · rw [IntKind.wrap_u64]; omega
  · rw [IntKind.wrap_u64]; omega
  · rw [IntKind.wrap_u64]; omega
  · rw [IntKind.wrap_u64]; omega
/-- All that a digit's loop leans on. -/
structure DigitOf (U Y d n1 n0 q : Nat) : Prop where
  hu : U < Y
  hd : d < 4294967296
  hy : 9223372036854775808 ≤ Y
  hyt : Y < 18446744073709551616
  hn1 : n1 = Y / 4294967296
  hn0 : n0 = Y % 4294967296
  hq : q = (U * 4294967296 + d) / Y
theorem DigitOf.bounds {U Y d n1 n0 q : Nat} (h : DigitOf U Y d n1 n0 q) : n1 < 4294967296 ∧ n0 < 4294967296 := by
  have h1 := h.hn1; have h0 := h.hn0; have := h.hyt
  omega
theorem lt_cases {a b : Nat} : (decide (a < b) = true ∧ decide ((a : Int) < (b : Int)) = true ∧ a < b) ∨ (decide (a < b) = false ∧ decide ((a : Int) < (b : Int)) = false ∧ ¬ a < b) := by
  by_cases h : a < b
  · exact .inl ⟨decide_eq_true h, decide_eq_true (by omega), h⟩
  · exact .inr ⟨decide_eq_false h, decide_eq_false (by omega), h⟩
theorem great_cases (a : Nat) : (decide ((4294967296 : Int) ≤ (a : Int)) = true ∧ decide ((4294967296 : Nat) ≤ a) = true ∧ 4294967296 ≤ a) ∨ (decide ((4294967296 : Int) ≤ (a : Int)) = false ∧ decide ((4294967296 : Nat) ≤ a) = false ∧ ¬ 4294967296 ≤ a) := by
  by_cases h : 4294967296 ≤ a
  · exact .inl ⟨decide_eq_true (by omega), decide_eq_true h, h⟩
  · exact .inr ⟨decide_eq_false (by omega), decide_eq_false h, h⟩
/-- The guess is not the digit: one less, and either it is the digit or it is looked at again. -/
theorem digit_less {U Y d n1 n0 q g r : Nat} (h : DigitOf U Y d n1 n0 q) (hg : Guess U Y d g r) (hb : 4294967296 ≤ g ∨ r * 4294967296 + d < g * n0) :
    1 ≤ g ∧ (4294967296 ≤ r + n1 → g - 1 = q) ∧ (¬ 4294967296 ≤ r + n1 → Guess U Y d (g - 1) (r + n1)) := by
  have hl : (U * 4294967296 + d) / Y ≤ g - 1 ∧ 1 ≤ g := by
    rcases hb with hb | hb
    · exact guess_high hg h.hu h.hd hb
    · exact guess_more hg h.hu (by rw [← h.hn0]; exact hb)
  refine ⟨hl.2, fun hr => ?_, fun hr => ?_⟩
  · rw [h.hq]; exact guess_stop hg (Nat.lt_of_lt_of_le (by omega) h.hy) hl.1 hl.2 (by rw [← h.hn1]; exact hr)
  · rw [h.hn1]; exact guess_next hg hl.1 hl.2 (by rw [← h.hn1]; omega)
theorem digit_is {U Y d n1 n0 q g r : Nat} (h : DigitOf U Y d n1 n0 q) (hg : Guess U Y d g r) (hb : ¬ r * 4294967296 + d < g * n0) : g = q := by
  rw [h.hq]; exact guess_good hg (Nat.lt_of_lt_of_le (by omega) h.hy) (by rw [← h.hn0]; exact hb)
end Go.Proofs.Ytfdpokibhdbjoaa
namespace Go.Proofs.Ytfdpokibhdbjoaa
open Go.RowKit
theorem rest_aux {p d z r : Nat} (h : p + d = z + r) (hr : r < 18446744073709551616) : IntKind.u64.wrap ((((p % 18446744073709551616 + d) % 18446744073709551616 : Nat) : Int) - ((z % 18446744073709551616 : Nat) : Int)) = (r : Int) := by
  rw [IntKind.wrap_u64]
  omega
theorem add_wrap (x d : Nat) : IntKind.u64.wrap (((x : Nat) : Int) + (d : Int)) = (((x + d) % 18446744073709551616 : Nat) : Int) := by rw [addN]; exact wrapM _
theorem mul_wrap (x d : Nat) : IntKind.u64.wrap (((x : Nat) : Int) * (d : Int)) = (((x * d) % 18446744073709551616 : Nat) : Int) := by rw [mulN]; exact wrapM _
theorem mulK_wrap (x : Nat) : IntKind.u64.wrap (((x : Nat) : Int) * 4294967296) = (((x * 4294967296) % 18446744073709551616 : Nat) : Int) := mul_wrap x 4294967296
theorem or_parts {H M s x : Nat} (hH : H = x * 2 ^ s) (hM : M < 2 ^ s) : H ||| M = H + M := by
  subst hH
  rw [Nat.mul_comm, ← Nat.two_pow_add_eq_or_of_lt hM]
theorem shl_val (x s : Nat) : ((x : Int) * 2 ^ s) = ((x * 2 ^ s : Nat) : Int) := by simp
theorem shr_val (x s : Nat) : ((x : Int) / 2 ^ s) = ((x / 2 ^ s : Nat) : Int) := by simp
theorem sub_val {u p : Nat} (h : p ≤ u) (hu : u < 18446744073709551616) : IntKind.u64.wrap ((u : Int) - (p : Int)) = ((u - p : Nat) : Int) := by rw [IntKind.wrap_u64]; omega
theorem split_aux (V U : Nat) : U * 18446744073709551616 + V = U * 18446744073709551616 + V / 4294967296 * 4294967296 + V % 4294967296 := by
  have h := Nat.div_add_mod' V 4294967296
  exact Decidable.byContradiction fun _H => by omega
theorem join_aux {q p : Nat} (hq : q < 4294967296) (hp : p < 4294967296) : (((q * 4294967296 % 18446744073709551616 + p) % 18446744073709551616 : Nat) : Int) = ((q * 4294967296 + p : Nat) : Int) := by omega
end Go.Proofs.Ytfdpokibhdbjoaa
namespace Go.Proofs.Ytfdpokibhdbjoaa
open Go.RowKit
theorem tuple_three {a b c a' b' c' : Value} (h : a = a') (h' : b = b') (h'' : c = c') : Ending.returned (.tuple #[a, b, c]) = .returned (.tuple #[a', b', c']) := by rw [h, h', h'']
end Go.Proofs.Ytfdpokibhdbjoaa
namespace Go.Proofs.Ytfdpokibhdbjoaa
open Go.RowKit
theorem pow_split {s : Nat} (hs : s ≤ 64) : 2 ^ (64 - s) * 2 ^ s = 18446744073709551616 := by rw [← Nat.pow_add, show 64 - s + s = 64 by omega]
theorem mod_shift {x s : Nat} (hs : s ≤ 64) : x * 2 ^ s % 18446744073709551616 = x % 2 ^ (64 - s) * 2 ^ s := by
  rw [← pow_split hs, Nat.mul_mod_mul_right]
theorem low_lt {l s : Nat} (hs : s ≤ 64) (hl : l < 18446744073709551616) : l / 2 ^ (64 - s) < 2 ^ s :=
  Nat.div_lt_of_lt_mul (by rw [pow_split hs]; exact hl)
theorem mod_two_aux {X V r : Nat} (hV : V < 18446744073709551616) (hr : r = X % 18446744073709551616) :
    (X * 18446744073709551616 + V) % 340282366920938463463374607431768211456 / 18446744073709551616 = r ∧ (X * 18446744073709551616 + V) % 340282366920938463463374607431768211456 % 18446744073709551616 = V := by
  omega
theorem add_small {a b m z : Nat} (hb : b < z) : (a % m * z + b) = (a * z + b) % (m * z) := by
  by_cases hm : m = 0
  · subst hm; simp
  · have hz : 0 < z := by omega
    have h1 : a % m < m := Nat.mod_lt _ (by omega)
    have h2 : (a % m + 1) * z ≤ m * z := Nat.mul_le_mul_right _ h1
    rw [Nat.add_mul] at h2
    have h3 : a * z + b = a % m * z + b + a / m * (m * z) := by
      have h4 := Nat.mod_add_div a m
      have h5 : a * z = (a % m + m * (a / m)) * z := by rw [h4]
      rw [h5, Nat.add_mul, Nat.mul_comm m, Nat.mul_assoc]
      omega
    have h6 : (a % m * z + b + a / m * (m * z)) % (m * z) = a % m * z + b := by rw [Nat.add_mul_mod_self_right]; exact Nat.mod_eq_of_lt (by omega)
    rw [h3]
    exact h6.symm
/-- Moved up by less than 64: the upper half and the lower one. -/
theorem up_parts {a s : Nat} (hs : s ≤ 64) :
    a * 2 ^ s % 340282366920938463463374607431768211456 / 18446744073709551616 = a / 18446744073709551616 * 2 ^ s % 18446744073709551616 + a % 18446744073709551616 / 2 ^ (64 - s) ∧
    a * 2 ^ s % 340282366920938463463374607431768211456 % 18446744073709551616 = a % 18446744073709551616 * 2 ^ s % 18446744073709551616 := by
  have hl : a % 18446744073709551616 < 18446744073709551616 := Nat.mod_lt _ (by omega)
  have h1 := moved (h := a / 18446744073709551616) (l := a % 18446744073709551616) hs
  rw [Nat.div_add_mod'] at h1
  rw [← h1]
  refine mod_two_aux (Nat.mod_lt _ (by omega)) ?_
  rw [mod_shift hs, add_small (low_lt hs hl), pow_split hs]
theorem up_or {x l s : Nat} (hs : s ≤ 64) (hl : l < 18446744073709551616) : (x * 2 ^ s % 18446744073709551616) ||| (l / 2 ^ (64 - s)) = x * 2 ^ s % 18446744073709551616 + l / 2 ^ (64 - s) :=
  or_parts (mod_shift hs) (low_lt hs hl)
theorem up_far {a j : Nat} :
    a * 2 ^ (64 + j) % 340282366920938463463374607431768211456 / 18446744073709551616 = a % 18446744073709551616 * 2 ^ j % 18446744073709551616 ∧
    a * 2 ^ (64 + j) % 340282366920938463463374607431768211456 % 18446744073709551616 = 0 := by
  have e : a * 2 ^ (64 + j) = a * 2 ^ j * 18446744073709551616 + 0 := by
    have p : (2 : Nat) ^ 64 = 18446744073709551616 := by decide
    rw [Nat.pow_add, p, Nat.mul_comm 18446744073709551616, ← Nat.mul_assoc, Nat.add_zero]
  rw [e]
  refine mod_two_aux (by omega) ?_
  rw [Nat.mod_mul_mod]
theorem down_parts {a s : Nat} (hs : s ≤ 64) :
    a / 2 ^ s / 18446744073709551616 = a / 18446744073709551616 / 2 ^ s ∧
    a / 2 ^ s % 18446744073709551616 = a / 18446744073709551616 * 2 ^ (64 - s) % 18446744073709551616 + a % 18446744073709551616 / 2 ^ s := by
  have hl : a % 18446744073709551616 < 18446744073709551616 := Nat.mod_lt _ (by omega)
  refine ⟨by rw [Nat.div_div_eq_div_mul, Nat.div_div_eq_div_mul, Nat.mul_comm], ?_⟩
  have hp : 2 ^ s * 2 ^ (64 - s) = 18446744073709551616 := by rw [Nat.mul_comm]; exact pow_split hs
  have h1 := Nat.div_add_mod' a 18446744073709551616
  have h2 : a / 2 ^ s = a / 18446744073709551616 * 2 ^ (64 - s) + a % 18446744073709551616 / 2 ^ s := by
    have e : a = a % 18446744073709551616 + a / 18446744073709551616 * 2 ^ (64 - s) * 2 ^ s := by
      rw [Nat.mul_assoc, pow_split hs]
      omega
    have h3 := (div_of (Nat.two_pow_pos s) e).1
    exact h3
  rw [h2]
  have h4 : a % 18446744073709551616 / 2 ^ s < 2 ^ (64 - s) := Nat.div_lt_of_lt_mul (by rw [hp]; exact hl)
  have h5 := add_small (a := a / 18446744073709551616) (m := 2 ^ s) h4
  rw [hp] at h5
  rw [← h5, ← hp, Nat.mul_mod_mul_right]
theorem down_or {x l s : Nat} (hs : s ≤ 64) (hl : l < 18446744073709551616) : (l / 2 ^ s) ||| (x * 2 ^ (64 - s) % 18446744073709551616) = x * 2 ^ (64 - s) % 18446744073709551616 + l / 2 ^ s := by
  have h := up_or (x := x) (l := l) (s := 64 - s) (by omega) hl
  rw [show 64 - (64 - s) = s by omega] at h
  rw [Nat.or_comm]
  exact h
theorem down_far {a j : Nat} (ha : a < 340282366920938463463374607431768211456) : a / 2 ^ (64 + j) / 18446744073709551616 = 0 ∧ a / 2 ^ (64 + j) % 18446744073709551616 = a / 18446744073709551616 / 2 ^ j := by
  have e : a / 2 ^ (64 + j) = a / 18446744073709551616 / 2 ^ j := by rw [Nat.pow_add, ← Nat.div_div_eq_div_mul]
  have h1 : a / 18446744073709551616 / 2 ^ j < 18446744073709551616 := Nat.lt_of_le_of_lt (Nat.div_le_self _ _) (by omega)
  rw [e]
  exact ⟨Nat.div_eq_of_lt h1, Nat.mod_eq_of_lt h1⟩
/-- How far a number is moved. -/
def far (n : Int) : Nat := min n.toNat 128
theorem far_neg {n : Int} (h : n ≤ 0) : far n = 0 := by unfold far; omega
theorem far_low {n : Int} {s : Nat} (h : n = (s : Int)) (hs : s < 64) : far n = s := by unfold far; omega
theorem far_high {n : Int} {s : Nat} (h : n = (s : Int)) (hs : 64 ≤ s) : far n = 64 + min (s - 64) 64 := by unfold far; omega
theorem subI {s : Nat} (hs : s ≤ 64) : IntKind.i64.wrap (64 - (s : Int)) = ((64 - s : Nat) : Int) ∧ wrap64 (64 - (s : Int)) = ((64 - s : Nat) : Int) ∧ (64 - (s : Int)) = ((64 - s : Nat) : Int) := by
  rw [IntKind.wrap_i64]
  unfold wrap64
  omega
/-- The cells of what was boxed, and of the result. -/
theorem box_two (w : World) (x y : Value) (t : TypeId) (V : World) (hV : V = (w.alloc (Obj.cells #[x, y] t)).alloc (Obj.cells #[.int .u64 0, .int .u64 0] t)) (n : Nat) (hn : n = w.heap.size) :
    Below w.heap.size w V ∧ V.heap.size = n + 2 ∧ V.cell? ⟨n, 0, none⟩ = some x ∧ V.cell? ⟨n, 1, none⟩ = some y ∧ V.heap[n + 1]? = some (.cells #[.int .u64 0, .int .u64 0] t (0, 0)) := by
  subst hV hn
  refine ⟨((Below.refl _ _).alloc (Nat.le_refl _) _).alloc (by simp) _, by simp, by simp [go_sem], by simp [go_sem], ?_⟩
  have h := heap_alloc_new (w.alloc (Obj.cells #[x, y] t)) (Obj.cells #[.int .u64 0, .int .u64 0] t)
  simpa using h
theorem max_cases (n : Int) : ∃ s : Nat, (if n < 0 then 0 else n) = (s : Int) ∧ far n = far (s : Int) := by
  by_cases h : n < 0
  · exact ⟨0, by rw [if_pos h]; rfl, by rw [far_neg (by omega)]; rfl⟩
  · exact ⟨n.toNat, by rw [if_neg h]; omega, by rw [Int.toNat_of_nonneg (by omega)]⟩
end Go.Proofs.Ytfdpokibhdbjoaa
