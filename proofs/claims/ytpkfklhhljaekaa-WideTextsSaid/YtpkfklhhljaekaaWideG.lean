/-
  What wide's Up and Down do; no condition beyond what each contract asks.
-/
import Derived.Test.YtpkfklhhljaekaaWideF
namespace Go.Proofs.Ytpkfklhhljaekaa
open Go.RowKit

theorem pow_split {s : Nat} (hs : s ≤ 64) : 2 ^ (64 - s) * 2 ^ s = 18446744073709551616 := by rw [← Nat.pow_add, show 64 - s + s = 64 by omega]
theorem mod_shift {x s : Nat} (hs : s ≤ 64) : x * 2 ^ s % 18446744073709551616 = x % 2 ^ (64 - s) * 2 ^ s := by
  rw [← pow_split hs, Nat.mul_mod_mul_right]
theorem low_lt {l s : Nat} (hs : s ≤ 64) (hl : l < 18446744073709551616) : l / 2 ^ (64 - s) < 2 ^ s :=
  Nat.div_lt_of_lt_mul (by rw [pow_split hs]; exact hl)
theorem mod_two_aux {X V r : Nat} (hV : V < 18446744073709551616) (hr : r = X % 18446744073709551616) :
    (X * 18446744073709551616 + V) % 340282366920938463463374607431768211456 / 18446744073709551616 = r ∧ (X * 18446744073709551616 + V) % 340282366920938463463374607431768211456 % 18446744073709551616 = V := by
  omega
theorem add_small {a b m z : Nat} (hb : b < z) : (a % m * z + b) = (a * z + b) % (m * z) := by
  by_cases hm : m = 0
  · subst hm; simp
  · have hz : 0 < z := by omega
    have h1 : a % m < m := Nat.mod_lt _ (by omega)
    have h2 : (a % m + 1) * z ≤ m * z := Nat.mul_le_mul_right _ h1
    rw [Nat.add_mul] at h2
    have h3 : a * z + b = a % m * z + b + a / m * (m * z) := by
      have h4 := Nat.mod_add_div a m
      have h5 : a * z = (a % m + m * (a / m)) * z := by rw [h4]
      rw [h5, Nat.add_mul, Nat.mul_comm m, Nat.mul_assoc]
      omega
    have h6 : (a % m * z + b + a / m * (m * z)) % (m * z) = a % m * z + b := by rw [Nat.add_mul_mod_self_right]; exact Nat.mod_eq_of_lt (by omega)
    rw [h3]
    exact h6.symm
/-- Moved up by less than 64: the upper half and the lower one. -/
theorem up_parts {a s : Nat} (hs : s ≤ 64) :
    a * 2 ^ s % 340282366920938463463374607431768211456 / 18446744073709551616 = a / 18446744073709551616 * 2 ^ s % 18446744073709551616 + a % 18446744073709551616 / 2 ^ (64 - s) ∧
    a * 2 ^ s % 340282366920938463463374607431768211456 % 18446744073709551616 = a % 18446744073709551616 * 2 ^ s % 18446744073709551616 := by
  have hl : a % 18446744073709551616 < 18446744073709551616 := Nat.mod_lt _ (by omega)
  have h1 := moved (h := a / 18446744073709551616) (l := a % 18446744073709551616) hs
  rw [Nat.div_add_mod'] at h1
  rw [← h1]
  refine mod_two_aux (Nat.mod_lt _ (by omega)) ?_
  rw [mod_shift hs, add_small (low_lt hs hl), pow_split hs]
theorem up_or {x l s : Nat} (hs : s ≤ 64) (hl : l < 18446744073709551616) : (x * 2 ^ s % 18446744073709551616) ||| (l / 2 ^ (64 - s)) = x * 2 ^ s % 18446744073709551616 + l / 2 ^ (64 - s) :=
  or_parts (mod_shift hs) (low_lt hs hl)
theorem up_far {a j : Nat} :
    a * 2 ^ (64 + j) % 340282366920938463463374607431768211456 / 18446744073709551616 = a % 18446744073709551616 * 2 ^ j % 18446744073709551616 ∧
    a * 2 ^ (64 + j) % 340282366920938463463374607431768211456 % 18446744073709551616 = 0 := by
  have e : a * 2 ^ (64 + j) = a * 2 ^ j * 18446744073709551616 + 0 := by
    have p : (2 : Nat) ^ 64 = 18446744073709551616 := by decide
    rw [Nat.pow_add, p, Nat.mul_comm 18446744073709551616, ← Nat.mul_assoc, Nat.add_zero]
  rw [e]
  refine mod_two_aux (by omega) ?_
  rw [Nat.mod_mul_mod]
theorem down_parts {a s : Nat} (hs : s ≤ 64) :
    a / 2 ^ s / 18446744073709551616 = a / 18446744073709551616 / 2 ^ s ∧
    a / 2 ^ s % 18446744073709551616 = a / 18446744073709551616 * 2 ^ (64 - s) % 18446744073709551616 + a % 18446744073709551616 / 2 ^ s := by
  have hl : a % 18446744073709551616 < 18446744073709551616 := Nat.mod_lt _ (by omega)
  refine ⟨by rw [Nat.div_div_eq_div_mul, Nat.div_div_eq_div_mul, Nat.mul_comm], ?_⟩
  have hp : 2 ^ s * 2 ^ (64 - s) = 18446744073709551616 := by rw [Nat.mul_comm]; exact pow_split hs
  have h1 := Nat.div_add_mod' a 18446744073709551616
  have h2 : a / 2 ^ s = a / 18446744073709551616 * 2 ^ (64 - s) + a % 18446744073709551616 / 2 ^ s := by
    have e : a = a % 18446744073709551616 + a / 18446744073709551616 * 2 ^ (64 - s) * 2 ^ s := by
      rw [Nat.mul_assoc, pow_split hs]
      omega
    have h3 := (div_of (Nat.two_pow_pos s) e).1
    exact h3
  rw [h2]
  have h4 : a % 18446744073709551616 / 2 ^ s < 2 ^ (64 - s) := Nat.div_lt_of_lt_mul (by rw [hp]; exact hl)
  have h5 := add_small (a := a / 18446744073709551616) (m := 2 ^ s) h4
  rw [hp] at h5
  rw [← h5, ← hp, Nat.mul_mod_mul_right]
theorem down_or {x l s : Nat} (hs : s ≤ 64) (hl : l < 18446744073709551616) : (l / 2 ^ s) ||| (x * 2 ^ (64 - s) % 18446744073709551616) = x * 2 ^ (64 - s) % 18446744073709551616 + l / 2 ^ s := by
  have h := up_or (x := x) (l := l) (s := 64 - s) (by omega) hl
  rw [show 64 - (64 - s) = s by omega] at h
  rw [Nat.or_comm]
  exact h
theorem down_far {a j : Nat} (ha : a < 340282366920938463463374607431768211456) : a / 2 ^ (64 + j) / 18446744073709551616 = 0 ∧ a / 2 ^ (64 + j) % 18446744073709551616 = a / 18446744073709551616 / 2 ^ j := by
  have e : a / 2 ^ (64 + j) = a / 18446744073709551616 / 2 ^ j := by rw [Nat.pow_add, ← Nat.div_div_eq_div_mul]
  have h1 : a / 18446744073709551616 / 2 ^ j < 18446744073709551616 := Nat.lt_of_le_of_lt (Nat.div_le_self _ _) (by omega)
  rw [e]
  exact ⟨Nat.div_eq_of_lt h1, Nat.mod_eq_of_lt h1⟩

/-- How far a number is moved. -/
def far (n : Int) : Nat := min n.toNat 128
theorem far_neg {n : Int} (h : n ≤ 0) : far n = 0 := by unfold far; omega
theorem far_low {n : Int} {s : Nat} (h : n = (s : Int)) (hs : s < 64) : far n = s := by unfold far; omega
theorem far_high {n : Int} {s : Nat} (h : n = (s : Int)) (hs : 64 ≤ s) : far n = 64 + min (s - 64) 64 := by unfold far; omega
theorem subI {s : Nat} (hs : s ≤ 64) : IntKind.i64.wrap (64 - (s : Int)) = ((64 - s : Nat) : Int) ∧ wrap64 (64 - (s : Int)) = ((64 - s : Nat) : Int) ∧ (64 - (s : Int)) = ((64 - s : Nat) : Int) := by
  rw [IntKind.wrap_i64]
  unfold wrap64
  omega

/-- The cells of what was boxed, and of the result. -/
theorem box_two (w : World) (x y : Value) (t : TypeId) (V : World) (hV : V = (w.alloc (Obj.cells #[x, y] t)).alloc (Obj.cells #[.int .u64 0, .int .u64 0] t)) (n : Nat) (hn : n = w.heap.size) :
    Below w.heap.size w V ∧ V.heap.size = n + 2 ∧ V.cell? ⟨n, 0, none⟩ = some x ∧ V.cell? ⟨n, 1, none⟩ = some y ∧ V.heap[n + 1]? = some (.cells #[.int .u64 0, .int .u64 0] t (0, 0)) := by
  subst hV hn
  refine ⟨((Below.refl _ _).alloc (Nat.le_refl _) _).alloc (by simp) _, by simp, by simp [go_sem], by simp [go_sem], ?_⟩
  have h := heap_alloc_new (w.alloc (Obj.cells #[x, y] t)) (Obj.cells #[.int .u64 0, .int .u64 0] t)
  simpa using h

set_option maxHeartbeats 1000000 in
theorem up_low (a1 a0 s t H M U V : Nat) (n : Int) (hs : s < 64) (hm : (if n < 0 then 0 else n) = (s : Int)) (em : min s 64 = s) (_et2 : wrap64 (64 - (s : Int)) = (t : Int)) (et3 : (64 - (s : Int)) = (t : Int)) (en : min t 64 = t)
    (eH : IntKind.u64.wrap ((a1 : Int) * 2 ^ s) = (H : Int)) (eM : (a0 : Int) / 2 ^ t = (M : Int)) (eU : bits .or .u64 (H : Int) (M : Int) = (U : Int)) (eV : IntKind.u64.wrap ((a0 : Int) * 2 ^ s) = (V : Int)) (w : World) :
    Calls Try.prog 21 #[.agg #[.int .u64 (a1 : Int), .int .u64 (a0 : Int)], .int .i64 n] w fun e w' => e = .returned (.agg #[.int .u64 (U : Int), .int .u64 (V : Int)]) ∧ Below w.heap.size w w' := by
  have d1 : decide ((64 : Int) ≤ (s : Int)) = false := by simp; omega
  have d2 : (0 : Int) ≤ (s : Int) := by omega
  have d3 : (0 : Int) ≤ (t : Int) := by omega
  go_enter Try.func21, Try.ntmps21
  go_wp2_with fail
  obtain ⟨W, hW⟩ : ∃ W, W = ((w.alloc (Obj.cells #[.int .u64 (a1 : Int), .int .u64 (a0 : Int)] 24)).alloc (Obj.cells #[.int .u64 0, .int .u64 0] 24)) := ⟨_, rfl⟩
  obtain ⟨g, hg⟩ : ∃ g, g = w.heap.size := ⟨_, rfl⟩
  obtain ⟨B0, z0, j0, j1, kr⟩ := box_two w _ _ _ W hW g hg
  rw [← hW, ← hg]
  have HB := Lib.hid B0
  have HR := Lib.hid kr
  have HG : Hid (w.heap.size ≤ g + 1) := show _ ≤ _ by omega
  have r1 := block_cell kr 0
  have r2 := block_cell kr 1
  have f1 := block_frozen kr 0
  have f2 := block_frozen kr 1
  simp at r1 r2
  clear hW hg B0 z0 kr hm hs
  go_region
  go_wp2_with fail
  refine bodyPost_ret (results_row1 rfl _ _ (g + 1) _ rfl (load_wide (two_set HR.out))) rfl ?_
  exact ⟨rfl, (below_two HB.out HG.out _ _).drew⟩

set_option maxHeartbeats 1000000 in
theorem up_high (a1 a0 s t V : Nat) (hs : 64 ≤ s) (_et2 : wrap64 ((s : Int) - 64) = (t : Int)) (et3 : ((s : Int) - 64) = (t : Int)) (et4 : wrap64 (t : Int) = (t : Int))
    (eV : IntKind.u64.wrap ((a0 : Int) * 2 ^ min t 64) = (V : Int)) (w : World) :
    Calls Try.prog 21 #[.agg #[.int .u64 (a1 : Int), .int .u64 (a0 : Int)], .int .i64 (s : Int)] w fun e w' => e = .returned (.agg #[.int .u64 (V : Int), .int .u64 0]) ∧ Below w.heap.size w w' := by
  have d1 : decide ((64 : Int) ≤ (s : Int)) = true := by simp; omega
  have d2 : (0 : Int) ≤ (s : Int) := by omega
  have d3 : (0 : Int) ≤ (t : Int) := by omega
  have d4 : (64 : Int) ≤ (s : Int) := by omega
  go_enter Try.func21, Try.ntmps21
  go_wp2_with fail
  refine bodyPost_ret (v := .agg #[.int .u64 (V : Int), .int .u64 0]) (by simp [results, Try.results21, go_sem]) rfl ?_
  exact ⟨rfl, ((Below.refl _ _).alloc (Nat.le_refl _) _).alloc (by simp) _⟩

set_option maxHeartbeats 1000000 in
theorem down_low (a1 a0 s t H M U V : Nat) (n : Int) (hs : s < 64) (hm : (if n < 0 then 0 else n) = (s : Int)) (em : min s 64 = s) (_et2 : wrap64 (64 - (s : Int)) = (t : Int)) (et3 : (64 - (s : Int)) = (t : Int)) (en : min t 64 = t)
    (eH : IntKind.u64.wrap ((a1 : Int) * 2 ^ t) = (H : Int)) (eM : (a0 : Int) / 2 ^ s = (M : Int)) (eU : bits .or .u64 (M : Int) (H : Int) = (U : Int)) (eV : (a1 : Int) / 2 ^ s = (V : Int)) (w : World) :
    Calls Try.prog 23 #[.agg #[.int .u64 (a1 : Int), .int .u64 (a0 : Int)], .int .i64 n] w fun e w' => e = .returned (.agg #[.int .u64 (V : Int), .int .u64 (U : Int)]) ∧ Below w.heap.size w w' := by
  have d1 : decide ((64 : Int) ≤ (s : Int)) = false := by simp; omega
  have d2 : (0 : Int) ≤ (s : Int) := by omega
  have d3 : (0 : Int) ≤ (t : Int) := by omega
  go_enter Try.func23, Try.ntmps23
  go_wp2_with fail
  obtain ⟨W, hW⟩ : ∃ W, W = ((w.alloc (Obj.cells #[.int .u64 (a1 : Int), .int .u64 (a0 : Int)] 24)).alloc (Obj.cells #[.int .u64 0, .int .u64 0] 24)) := ⟨_, rfl⟩
  obtain ⟨g, hg⟩ : ∃ g, g = w.heap.size := ⟨_, rfl⟩
  obtain ⟨B0, z0, j0, j1, kr⟩ := box_two w _ _ _ W hW g hg
  rw [← hW, ← hg]
  have HB := Lib.hid B0
  have HR := Lib.hid kr
  have HG : Hid (w.heap.size ≤ g + 1) := show _ ≤ _ by omega
  have r1 := block_cell kr 0
  have r2 := block_cell kr 1
  have f1 := block_frozen kr 0
  have f2 := block_frozen kr 1
  simp at r1 r2
  clear hW hg B0 z0 kr hm hs
  go_region
  go_wp2_with fail
  refine bodyPost_ret (results_row1 rfl _ _ (g + 1) _ rfl (load_wide (two_set HR.out))) rfl ?_
  exact ⟨rfl, (below_two HB.out HG.out _ _).drew⟩

set_option maxHeartbeats 1000000 in
theorem down_high (a1 a0 s t V : Nat) (hs : 64 ≤ s) (_et2 : wrap64 ((s : Int) - 64) = (t : Int)) (et3 : ((s : Int) - 64) = (t : Int)) (et4 : wrap64 (t : Int) = (t : Int))
    (eV : (a1 : Int) / 2 ^ min t 64 = (V : Int)) (w : World) :
    Calls Try.prog 23 #[.agg #[.int .u64 (a1 : Int), .int .u64 (a0 : Int)], .int .i64 (s : Int)] w fun e w' => e = .returned (.agg #[.int .u64 0, .int .u64 (V : Int)]) ∧ Below w.heap.size w w' := by
  have d1 : decide ((64 : Int) ≤ (s : Int)) = true := by simp; omega
  have d2 : (0 : Int) ≤ (s : Int) := by omega
  have d3 : (0 : Int) ≤ (t : Int) := by omega
  have d4 : (64 : Int) ≤ (s : Int) := by omega
  go_enter Try.func23, Try.ntmps23
  go_wp2_with fail
  refine bodyPost_ret (v := .agg #[.int .u64 0, .int .u64 (V : Int)]) (by simp [results, Try.results23, go_sem]) rfl ?_
  exact ⟨rfl, ((Below.refl _ _).alloc (Nat.le_refl _) _).alloc (by simp) _⟩

theorem max_cases (n : Int) : ∃ s : Nat, (if n < 0 then 0 else n) = (s : Int) ∧ far n = far (s : Int) := by
  by_cases h : n < 0
  · exact ⟨0, by rw [if_pos h]; rfl, by rw [far_neg (by omega)]; rfl⟩
  · exact ⟨n.toNat, by rw [if_neg h]; omega, by rw [Int.toNat_of_nonneg (by omega)]⟩

theorem up_any (a : Nat) (n : Int) (hn : n ≤ 9223372036854775807) (w : World) :
    Calls Try.prog 21 #[wv a, .int .i64 n] w fun e w' => e = .returned (wv (a * 2 ^ far n % 340282366920938463463374607431768211456)) ∧ Below w.heap.size w w' := by
  obtain ⟨s, hs, hf⟩ := max_cases n
  have hsn : (s : Int) ≤ 9223372036854775807 := by rw [← hs]; split <;> omega
  have ha0 : a % 18446744073709551616 < 18446744073709551616 := Nat.mod_lt _ (by omega)
  rw [hf]
  by_cases h : s < 64
  · rw [far_low rfl h]
    obtain ⟨p1, p2⟩ := up_parts (a := a) (s := s) (by omega)
    obtain ⟨-, x2, x3⟩ := subI (s := s) (by omega)
    have hM : a % 18446744073709551616 / 2 ^ (64 - s) < 18446744073709551616 := Nat.lt_of_le_of_lt (Nat.div_le_self _ _) ha0
    have o1 := bits_or_u64_nat (a / 18446744073709551616 * 2 ^ s % 18446744073709551616) (a % 18446744073709551616 / 2 ^ (64 - s)) (Nat.mod_lt _ (by omega)) hM
    rw [up_or (by omega) ha0] at o1
    have c := up_low (a / 18446744073709551616) (a % 18446744073709551616) s (64 - s) (a / 18446744073709551616 * 2 ^ s % 18446744073709551616) (a % 18446744073709551616 / 2 ^ (64 - s)) _ (a % 18446744073709551616 * 2 ^ s % 18446744073709551616) n h hs (Nat.min_eq_left (by omega)) x2 x3 (Nat.min_eq_left (by omega))
      (by rw [shl_val, wrapM]) (by rw [shr_val]) o1 (by rw [shl_val, wrapM]) w
    exact c.mono fun e w' ⟨he, hb⟩ => ⟨by rw [he, wv_of p1.symm p2.symm], hb⟩
  · obtain rfl : n = (s : Int) := by rw [← hs]; split at hs <;> (try split) <;> omega
    rw [far_high rfl (by omega)]
    obtain ⟨p1, p2⟩ := up_far (a := a) (j := min (s - 64) 64)
    have c := up_high (a / 18446744073709551616) (a % 18446744073709551616) s (s - 64) (a % 18446744073709551616 * 2 ^ min (s - 64) 64 % 18446744073709551616) (by omega) (by unfold wrap64; omega) (by omega) (by unfold wrap64; omega) (by rw [shl_val, wrapM]) w
    exact c.mono fun e w' ⟨he, hb⟩ => ⟨by rw [he]; exact congrArg _ (wv_of (l := 0) p1.symm p2.symm), hb⟩

theorem down_any (a : Nat) (n : Int) (ha : a < 340282366920938463463374607431768211456) (hn : n ≤ 9223372036854775807) (w : World) :
    Calls Try.prog 23 #[wv a, .int .i64 n] w fun e w' => e = .returned (wv (a / 2 ^ far n)) ∧ Below w.heap.size w w' := by
  obtain ⟨s, hs, hf⟩ := max_cases n
  have hsn : (s : Int) ≤ 9223372036854775807 := by rw [← hs]; split <;> omega
  have ha0 : a % 18446744073709551616 < 18446744073709551616 := Nat.mod_lt _ (by omega)
  rw [hf]
  by_cases h : s < 64
  · rw [far_low rfl h]
    obtain ⟨p1, p2⟩ := down_parts (a := a) (s := s) (by omega)
    obtain ⟨-, x2, x3⟩ := subI (s := s) (by omega)
    have hM : a % 18446744073709551616 / 2 ^ s < 18446744073709551616 := Nat.lt_of_le_of_lt (Nat.div_le_self _ _) ha0
    have o1 := bits_or_u64_nat (a % 18446744073709551616 / 2 ^ s) (a / 18446744073709551616 * 2 ^ (64 - s) % 18446744073709551616) hM (Nat.mod_lt _ (by omega))
    rw [down_or (by omega) ha0] at o1
    have c := down_low (a / 18446744073709551616) (a % 18446744073709551616) s (64 - s) (a / 18446744073709551616 * 2 ^ (64 - s) % 18446744073709551616) (a % 18446744073709551616 / 2 ^ s) _ (a / 18446744073709551616 / 2 ^ s) n h hs (Nat.min_eq_left (by omega)) x2 x3 (Nat.min_eq_left (by omega))
      (by rw [shl_val, wrapM]) (by rw [shr_val]) o1 (by rw [shr_val]) w
    exact c.mono fun e w' ⟨he, hb⟩ => ⟨by rw [he, wv_of p1.symm p2.symm], hb⟩
  · obtain rfl : n = (s : Int) := by rw [← hs]; split at hs <;> (try split) <;> omega
    rw [far_high rfl (by omega)]
    obtain ⟨p1, p2⟩ := down_far (a := a) (j := min (s - 64) 64) ha
    have c := down_high (a / 18446744073709551616) (a % 18446744073709551616) s (s - 64) (a / 18446744073709551616 / 2 ^ min (s - 64) 64) (by omega) (by unfold wrap64; omega) (by omega) (by unfold wrap64; omega) (by rw [shr_val]) w
    exact c.mono fun e w' ⟨he, hb⟩ => ⟨by rw [he]; exact congrArg _ (wv_of (h := 0) p1.symm p2.symm), hb⟩

end Go.Proofs.Ytpkfklhhljaekaa
