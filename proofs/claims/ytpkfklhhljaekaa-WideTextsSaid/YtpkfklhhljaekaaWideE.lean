/-
  What math/bits' Div64 and wide's Div do; of Div64 where the upper half is below the divisor (else Go panics); no other condition.
-/
import Derived.Test.YtpkfklhhljaekaaWideD
namespace Go.Proofs.Ytpkfklhhljaekaa
open Go.RowKit

theorem rest_aux {p d z r : Nat} (h : p + d = z + r) (hr : r < 18446744073709551616) : IntKind.u64.wrap ((((p % 18446744073709551616 + d) % 18446744073709551616 : Nat) : Int) - ((z % 18446744073709551616 : Nat) : Int)) = (r : Int) := by
  rw [IntKind.wrap_u64]
  omega
theorem add_wrap (x d : Nat) : IntKind.u64.wrap (((x : Nat) : Int) + (d : Int)) = (((x + d) % 18446744073709551616 : Nat) : Int) := by rw [addN]; exact wrapM _
theorem mul_wrap (x d : Nat) : IntKind.u64.wrap (((x : Nat) : Int) * (d : Int)) = (((x * d) % 18446744073709551616 : Nat) : Int) := by rw [mulN]; exact wrapM _
theorem mulK_wrap (x : Nat) : IntKind.u64.wrap (((x : Nat) : Int) * 4294967296) = (((x * 4294967296) % 18446744073709551616 : Nat) : Int) := mul_wrap x 4294967296
theorem or_parts {H M s x : Nat} (hH : H = x * 2 ^ s) (hM : M < 2 ^ s) : H ||| M = H + M := by
  subst hH
  rw [Nat.mul_comm, ← Nat.two_pow_add_eq_or_of_lt hM]
theorem shl_val (x s : Nat) : ((x : Int) * 2 ^ s) = ((x * 2 ^ s : Nat) : Int) := by simp
theorem shr_val (x s : Nat) : ((x : Int) / 2 ^ s) = ((x / 2 ^ s : Nat) : Int) := by simp
theorem sub_val {u p : Nat} (h : p ≤ u) (hu : u < 18446744073709551616) : IntKind.u64.wrap ((u : Int) - (p : Int)) = ((u - p : Nat) : Int) := by rw [IntKind.wrap_u64]; omega

theorem split_aux (V U : Nat) : U * 18446744073709551616 + V = U * 18446744073709551616 + V / 4294967296 * 4294967296 + V % 4294967296 := by
  have h := Nat.div_add_mod' V 4294967296
  exact Decidable.byContradiction fun _H => by omega
theorem join_aux {q p : Nat} (hq : q < 4294967296) (hp : p < 4294967296) : (((q * 4294967296 % 18446744073709551616 + p) % 18446744073709551616 : Nat) : Int) = ((q * 4294967296 + p : Nat) : Int) := by omega
theorem div64_pos (h l y : Nat) (h0 : 0 < h) (hh : h < y) (hy : y < 18446744073709551616) (hl : l < 18446744073709551616) (w : World) :
    Calls Try.prog 35 #[.int .u64 (h : Int), .int .u64 (l : Int), .int .u64 (y : Int)] w fun e w' => e = .returned (.tuple #[.int .u64 (((h * 18446744073709551616 + l) / y : Nat) : Int), .int .u64 (((h * 18446744073709551616 + l) % y : Nat) : Int)]) ∧ w = w' := by
  obtain ⟨hL, hL1, hY, hYt⟩ := norm_of (y := y) (by omega) hy
  have CL := lead_any y hy
  obtain ⟨s, hs⟩ : ∃ s, s = 64 - Lib.bitLen y := ⟨_, rfl⟩
  rw [← hs] at hY hYt CL
  have hs6 : s ≤ 63 := by omega
  clear hs hL hL1
  have hU := moved_lt (s := s) hh hl (by omega)
  have hmv := moved (h := h) (l := l) (s := s) (by omega)
  have hM : l / 2 ^ (64 - s) < 2 ^ s := by
    have hp : 2 ^ (64 - s) * 2 ^ s = 18446744073709551616 := by rw [← Nat.pow_add, show 64 - s + s = 64 by omega]
    exact Nat.div_lt_of_lt_mul (by rw [hp]; exact hl)
  have hHt : h * 2 ^ s < 18446744073709551616 := Nat.lt_of_le_of_lt (Nat.le_trans (Nat.le_add_right _ _) (Nat.le_of_lt hU)) hYt
  obtain ⟨Y, eY⟩ : ∃ Y, Y = y * 2 ^ s := ⟨_, rfl⟩
  obtain ⟨H, eH⟩ : ∃ H, H = h * 2 ^ s := ⟨_, rfl⟩
  obtain ⟨M, eM⟩ : ∃ M, M = l / 2 ^ (64 - s) := ⟨_, rfl⟩
  obtain ⟨V, eV⟩ : ∃ V, V = l * 2 ^ s % 18446744073709551616 := ⟨_, rfl⟩
  obtain ⟨N, eN⟩ : ∃ N, N = (h * 18446744073709551616 + l) * 2 ^ s := ⟨_, rfl⟩
  have hq : (h * 18446744073709551616 + l) / y = N / Y := by rw [eN, eY, Nat.mul_div_mul_right _ _ (Nat.two_pow_pos s)]
  have hr : (h * 18446744073709551616 + l) % y * 2 ^ s = N % Y := by rw [eN, eY, Nat.mul_mod_mul_right]
  have hr' : N % Y / 2 ^ s = (h * 18446744073709551616 + l) % y := by rw [← hr, Nat.mul_div_cancel _ (Nat.two_pow_pos s)]
  rw [← eY] at hY hYt hU
  rw [← eH, ← eM] at hU hmv
  rw [← eV, ← eN] at hmv
  rw [← eM] at hM
  rw [← eH] at hHt
  have hV : V < 18446744073709551616 := by rw [eV]; exact Nat.mod_lt _ (by omega)
  have o1 := bits_or_u64_nat H M hHt (Nat.lt_of_le_of_lt (Nat.le_trans (Nat.le_add_left _ _) (Nat.le_of_lt hU)) hYt)
  rw [or_parts eH hM] at o1
  obtain ⟨U, eU⟩ : ∃ U, U = H + M := ⟨_, rfl⟩
  rw [← eU] at o1 hU hmv
  have hUt : U < 18446744073709551616 := Nat.lt_trans hU hYt
  have hn1 : 2147483648 ≤ Y / 4294967296 := by omega
  have hy0 : 0 < Y := by omega
  have hd1 : V / 4294967296 < 4294967296 := by omega
  have hd0 : V % 4294967296 < 4294967296 := by omega
  obtain ⟨n1, en1⟩ : ∃ n1, n1 = Y / 4294967296 := ⟨_, rfl⟩
  obtain ⟨n0, en0⟩ : ∃ n0, n0 = Y % 4294967296 := ⟨_, rfl⟩
  obtain ⟨d1, ed1⟩ : ∃ d1, d1 = V / 4294967296 := ⟨_, rfl⟩
  obtain ⟨d0, ed0⟩ : ∃ d0, d0 = V % 4294967296 := ⟨_, rfl⟩
  obtain ⟨q1, eq1⟩ : ∃ q1, q1 = (U * 4294967296 + d1) / Y := ⟨_, rfl⟩
  obtain ⟨r1, er1⟩ : ∃ r1, r1 = (U * 4294967296 + d1) % Y := ⟨_, rfl⟩
  obtain ⟨q0, eq0⟩ : ∃ q0, q0 = (r1 * 4294967296 + d0) / Y := ⟨_, rfl⟩
  obtain ⟨r0, er0⟩ : ∃ r0, r0 = (r1 * 4294967296 + d0) % Y := ⟨_, rfl⟩
  have hr1 : r1 < Y := by rw [er1]; exact Nat.mod_lt _ hy0
  have hr0 : r0 < Y := by rw [er0]; exact Nat.mod_lt _ hy0
  have hd1' : d1 < 4294967296 := by rw [ed1]; exact hd1
  have hd0' : d0 < 4294967296 := by rw [ed0]; exact hd0
  have hq1 : q1 < 4294967296 := by rw [eq1]; exact digit_lt hU hd1'
  have hq0 : q0 < 4294967296 := by rw [eq0]; exact digit_lt hr1 hd0'
  have hN : N = U * 18446744073709551616 + d1 * 4294967296 + d0 := by rw [← hmv, ed1, ed0]; exact split_aux V U
  obtain ⟨t1, t2⟩ := two_digits (y := Y) hy0 hN
  rw [← eq1, ← er1, ← eq0] at t1
  rw [← er1, ← er0] at t2
  have O1 : DigitOf U Y d1 n1 n0 q1 := ⟨hU, hd1', hY, hYt, en1, en0, eq1⟩
  have O2 : DigitOf r1 Y d0 n1 n0 q0 := ⟨hr1, hd0', hY, hYt, en1, en0, eq0⟩
  have G0 := guess_first hY hYt hU hd1'
  have G1 := guess_first hY hYt hr1 hd0'
  rw [← en1] at G0 G1 hn1
  have s1 := digit_rest U Y d1
  have s2 := digit_rest r1 Y d0
  rw [← eq1, ← er1] at s1
  rw [← eq0, ← er0] at s2
  have hn0 : 0 < n1 := by omega
  rw [hq, ← hr', t1, t2]
  exact div64_core h l y s Y n1 n0 H (64 - s) M U V d1 d0 (U / n1) (U / n1 * n1) (U - U / n1 * n1) q1 (U * 4294967296 % 18446744073709551616) ((U * 4294967296 % 18446744073709551616 + d1) % 18446744073709551616) (q1 * Y % 18446744073709551616)
    r1 (r1 / n1) (r1 / n1 * n1) (r1 - r1 / n1 * n1) q0 (q1 * 4294967296 % 18446744073709551616) (r1 * 4294967296 % 18446744073709551616) ((r1 * 4294967296 % 18446744073709551616 + d0) % 18446744073709551616) (q0 * Y % 18446744073709551616) r0 (q1 * 4294967296 + q0) (r0 / 2 ^ s)
    h0 hh CL (wrapN _ (by omega)) (Nat.min_eq_left (by omega)) (by rw [IntKind.wrap_u64]; omega) (Nat.min_eq_left (by omega))
    (by rw [shl_val, ← eY]; exact wrapN _ hYt) (by rw [divN, ← en1]) (by rw [maskN _ hYt, ← en0])
    (by rw [shl_val, ← eH]; exact wrapN _ hHt) (by rw [shr_val, ← eM]) o1
    (by rw [shl_val, wrapM, ← eV]) (by rw [divN, ← ed1]) (by rw [maskN _ hV, ← ed0])
    (DivIs.of rfl hUt hn0) (by rw [mulN]; exact wrapN _ (Nat.lt_of_le_of_lt (Nat.div_mul_le_self _ _) hUt)) (sub_val (Nat.div_mul_le_self _ _) hUt)
    G0 O1 (mulK_wrap U) (add_wrap _ _) (mul_wrap _ _) (rest_aux s1 (Nat.lt_trans hr1 hYt))
    (DivIs.of rfl (Nat.lt_trans hr1 hYt) hn0) (by rw [mulN]; exact wrapN _ (Nat.lt_of_le_of_lt (Nat.div_mul_le_self _ _) (Nat.lt_trans hr1 hYt))) (sub_val (Nat.div_mul_le_self _ _) (Nat.lt_trans hr1 hYt))
    G1 O2 (mulK_wrap q1) (by rw [add_wrap]; exact join_aux hq1 hq0) (mulK_wrap r1) (add_wrap _ _) (mul_wrap _ _) (rest_aux s2 (Nat.lt_trans hr0 hYt)) (by rw [shr_val]) w

theorem div64_any (h l y : Nat) (hh : h < y) (hy : y < 18446744073709551616) (hl : l < 18446744073709551616) (w : World) :
    Calls Try.prog 35 #[.int .u64 (h : Int), .int .u64 (l : Int), .int .u64 (y : Int)] w fun e w' => e = .returned (.tuple #[.int .u64 (((h * 18446744073709551616 + l) / y : Nat) : Int), .int .u64 (((h * 18446744073709551616 + l) % y : Nat) : Int)]) ∧ Below w.heap.size w w' := by
  by_cases h0 : h = 0
  · subst h0
    rw [Nat.zero_mul, Nat.zero_add]
    exact div64_low l y _ _ hh ⟨rfl, rfl, hl⟩ w
  · exact (div64_pos h l y (by omega) hh hy hl w).mono fun e w' ⟨he, hw⟩ => ⟨he, hw ▸ Below.refl _ _⟩

end Go.Proofs.Ytpkfklhhljaekaa
