/-
  What wide's Of, Cmp, Add, Sub, Mul and what they call do, one contract each; no condition beyond what each contract asks.
-/
import Derived.Test.YtfdpokibhdbjoaaBase
import Derived.Test.YtfdpokibhdbjoaaWideMath
import Derived.Laws.Externs
import Derived.Laws.Bits64b
import Derived.Laws.ResultCell
import Derived.IntWalk
namespace Go.Proofs.Ytfdpokibhdbjoaa
open Go.RowKit
/-- A number of 128 bits as the program has it. -/
def wv (n : Nat) : Value := .agg #[.int .u64 ((n / 18446744073709551616 : Nat) : Int), .int .u64 ((n % 18446744073709551616 : Nat) : Int)]
theorem wv_of {h l n : Nat} (hh : h = n / 18446744073709551616) (hl : l = n % 18446744073709551616) : Value.agg #[.int .u64 (h : Int), .int .u64 (l : Int)] = wv n := by rw [hh, hl]; rfl
def subEntry : Array Value → Sem Value := fun args => do
  let (x, y, b) ← Extern.MathBitsCarry.three "Sub64" args
  pure (Extern.MathBitsCarry.pair ((x + Extern.MathBitsCarry.m64 - y - b) % Extern.MathBitsCarry.m64) (if x < y + b then 1 else 0))
theorem run_sub (P : Program) (x y b : Nat) (hb : b ≤ 1) (w : World) :
    (subEntry #[.int .u64 x, .int .u64 y, .int .u64 b]).run P w =
      .ok (.tuple #[.int .u64 (((x + 18446744073709551616 - y - b) % 18446744073709551616 : Nat) : Int), .int .u64 ((if x < y + b then 1 else 0 : Nat) : Int)]) w := by
  have : b = 0 ∨ b = 1 := by omega
  rcases this with rfl | rfl <;> rfl
set_option maxRecDepth 100000 in
theorem bool_ne (d : Nat) : Value.bool ((d : Int) != 0) = .bool (decide (d ≠ 0)) := by
  congr 1
  by_cases h : d = 0
  · subst h; rfl
  · have e : ((d : Int) == 0) = false := by rw [beq_eq_false_iff_ne]; omega
    rw [bne, e]; simp [h]
theorem tuple_two {a b c d : Value} (h : a = c) (h' : b = d) : Ending.returned (.tuple #[a, b]) = .returned (.tuple #[c, d]) := by rw [h, h']
/-- What Sub answers: whether b is greater. -/
theorem ite_le_one (p : Prop) [Decidable p] : (if p then 1 else 0 : Nat) ≤ 1 := by split <;> omega
/-! ### A result that lies in memory -/
theorem results_row1 {fn : Func} {p : Tmp} {ty : TypeId} (h : fn.results = #[.cell p ty]) (tmps : Array Value) {P : Program} (w : World) (g : Nat) (cs : Array Value)
    (hp : tmps.getD p undef = .pointer (some ⟨g, 0, none⟩)) (hl : (loadVar ty ⟨g, 0, none⟩).run P w = .ok (.agg cs) w) :
    (results fn tmps).run P w = .ok (.agg cs) w := by
  rw [Array.getD_eq_getD_getElem?] at hp
  simp [results, h, hp, asAddr, hl]
theorem results_row2 {fn : Func} {p u : Tmp} {ty : TypeId} (h : fn.results = #[.cell p ty, .tmp u]) (tmps : Array Value) {P : Program} (w : World) (g : Nat) (cs : Array Value)
    (hp : tmps.getD p undef = .pointer (some ⟨g, 0, none⟩)) (hl : (loadVar ty ⟨g, 0, none⟩).run P w = .ok (.agg cs) w) :
    (results fn tmps).run P w = .ok (.tuple #[.agg cs, tmps.getD u undef]) w := by
  rw [results_cell_tmp h, hp]
  simp [asAddr, hl]
theorem results_row3 {fn : Func} {p u v : Tmp} {ty : TypeId} (h : fn.results = #[.cell p ty, .tmp u, .tmp v]) (tmps : Array Value) {P : Program} (w : World) (g : Nat) (cs : Array Value)
    (hp : tmps.getD p undef = .pointer (some ⟨g, 0, none⟩)) (hl : (loadVar ty ⟨g, 0, none⟩).run P w = .ok (.agg cs) w) :
    (results fn tmps).run P w = .ok (.tuple #[.agg cs, tmps.getD u undef, tmps.getD v undef]) w := by
  rw [Array.getD_eq_getD_getElem?] at hp
  simp [results, h, hp, asAddr, hl]
theorem load_wide {w : World} {g : Nat} {x y : Value} (hg : w.heap[g]? = some (.cells #[x, y] 25 (0, 0))) :
    (loadVar 25 ⟨g, 0, none⟩).run Try.prog w = .ok (.agg #[x, y]) w :=
  run_loadVar_row w g _ _ _ _ _ hg Try.underlying25 rfl (by kernel_rfl)
theorem two_set {w : World} {g : Nat} {x y a b : Value} {t : TypeId} (h : w.heap[g]? = some (.cells #[x, y] t (0, 0))) :
    ((w.setCell ⟨g, 0, none⟩ a).setCell ⟨g, 1, none⟩ b).heap[g]? = some (.cells #[a, b] t (0, 0)) := block_set (block_set h 0 a) 1 b
theorem below_two {B : Nat} {a w : World} (h : Below B a w) {g : Nat} (hg : B ≤ g) (x y : Value) : Below B a ((w.setCell ⟨g, 0, none⟩ x).setCell ⟨g, 1, none⟩ y) :=
  (h.setCell (p := ⟨g, 0, none⟩) hg x).setCell (p := ⟨g, 1, none⟩) hg y
/-! ### Which is greater -/
def cmpI (a b : Nat) : Int := if a < b then -1 else if b < a then 1 else 0
theorem isNaN_any (x : Nat) (w : World) : Calls Try.prog 25 #[.int .u64 (x : Int)] w fun e w' => e = .returned (.bool false) ∧ w = w' := by
  go_enter Try.func25, Try.ntmps25
  go_wp2_with fail
  go_ret
  exact ⟨by simp, rfl⟩
theorem ret_num' {k : IntKind} {a b : Int} (h : b = a) : Ending.returned (.int k a) = .returned (.int k b) := by rw [h]
set_option maxHeartbeats 400000 in
theorem compare_any (x y : Nat) (w : World) : Calls Try.prog 21 #[.int .u64 (x : Int), .int .u64 (y : Int)] w fun e w' => e = .returned (.int .i64 (cmpI x y)) ∧ w = w' := by
  obtain ⟨r, hr⟩ : ∃ r, r = cmpI x y := ⟨_, rfl⟩
  rw [← hr]
  unfold cmpI at hr
  by_cases h1 : x < y
  · have d1 : decide ((x : Int) < (y : Int)) = true := by simp; omega
    have d1n : decide (x < y) = true := by simpa using h1
    rw [if_pos h1] at hr
    have HR := Lib.hid hr
    clear hr h1
    go_enter Try.func21, Try.ntmps21
    go_wp2_with (refine (isNaN_any _ _).mono ?_; rintro e w' ⟨rfl, rfl⟩)
    go_ret
    exact ⟨ret_num' HR.out, rfl⟩
  · have d1 : decide ((x : Int) < (y : Int)) = false := by simp; omega
    have d1n : decide (x < y) = false := by simpa using h1
    rw [if_neg h1] at hr
    by_cases h2 : y < x
    · have d2 : decide ((y : Int) < (x : Int)) = true := by simp; omega
      have d2n : decide (y < x) = true := by simpa using h2
      rw [if_pos h2] at hr
      have HR := Lib.hid hr
      clear hr h1 h2
      go_enter Try.func21, Try.ntmps21
      go_wp2_with (refine (isNaN_any _ _).mono ?_; rintro e w' ⟨rfl, rfl⟩)
      go_ret
      exact ⟨ret_num' HR.out, rfl⟩
    · have d2 : decide ((y : Int) < (x : Int)) = false := by simp; omega
      have d2n : decide (y < x) = false := by simpa using h2
      rw [if_neg h2] at hr
      have HR := Lib.hid hr
      clear hr h1 h2
      go_enter Try.func21, Try.ntmps21
      go_wp2_with (refine (isNaN_any _ _).mono ?_; rintro e w' ⟨rfl, rfl⟩)
      go_ret
      exact ⟨ret_num' HR.out, rfl⟩
theorem cmp_high {a b : Nat} (h : a / 18446744073709551616 ≠ b / 18446744073709551616) : cmpI a b = cmpI (a / 18446744073709551616) (b / 18446744073709551616) := by
  unfold cmpI
  by_cases h1 : a / 18446744073709551616 < b / 18446744073709551616
  · rw [if_pos h1, if_pos (by omega)]
  · rw [if_neg h1, if_neg (by omega), if_pos (by omega), if_pos (by omega)]
theorem cmp_low {a b : Nat} (h : a / 18446744073709551616 = b / 18446744073709551616) : cmpI a b = cmpI (a % 18446744073709551616) (b % 18446744073709551616) := by
  unfold cmpI
  by_cases h1 : a % 18446744073709551616 < b % 18446744073709551616
  · rw [if_pos h1, if_pos (by omega)]
  · rw [if_neg h1, if_neg (by omega)]
    by_cases h2 : b % 18446744073709551616 < a % 18446744073709551616
    · rw [if_pos h2, if_pos (by omega)]
    · rw [if_neg h2, if_neg (by omega)]
set_option maxHeartbeats 400000 in
theorem cmp_any (a b : Nat) (w : World) :
    Calls Try.prog 19 #[wv a, wv b] w fun e w' => e = .returned (.int .i64 (cmpI a b)) ∧ Below w.heap.size w w' := by
  by_cases h : a / 18446744073709551616 = b / 18446744073709551616
  · have HR := Lib.hid (cmp_low h)
    generalize cmpI a b = r at *
    unfold wv
    rw [h]
    clear h
    generalize a % 18446744073709551616 = a0 at *
    generalize b / 18446744073709551616 = b1 at *
    generalize b % 18446744073709551616 = b0 at *
    go_enter Try.func19, Try.ntmps19
    go_wp2_with (refine (compare_any _ _ _).mono ?_; rintro e w' ⟨rfl, rfl⟩)
    go_ret
    exact ⟨ret_num' HR.out, ((Below.refl _ _).alloc (Nat.le_refl _) _).alloc (by simp) _⟩
  · have HR := Lib.hid (cmp_high h)
    generalize cmpI a b = r at *
    unfold wv
    generalize a / 18446744073709551616 = a1 at *
    generalize a % 18446744073709551616 = a0 at *
    generalize b / 18446744073709551616 = b1 at *
    generalize b % 18446744073709551616 = b0 at *
    have d1 : ((a1 : Int) == (b1 : Int)) = false := by rw [beq_eq_false_iff_ne]; omega
    have d2 : ((a1 : Int) != (b1 : Int)) = true := by rw [bne, d1]; rfl
    clear h
    go_enter Try.func19, Try.ntmps19
    go_wp2_with (refine (compare_any _ _ _).mono ?_; rintro e w' ⟨rfl, rfl⟩)
    go_ret
    exact ⟨ret_num' HR.out, ((Below.refl _ _).alloc (Nat.le_refl _) _).alloc (by simp) _⟩
/-! ### Products -/
theorem maskN (a : Nat) (ha : a < 18446744073709551616) : bits .and .u64 (a : Int) 4294967295 = ((a % 4294967296 : Nat) : Int) := by
  have h := bits_and_u64_nat a 4294967295 ha (by omega)
  have e : a &&& 4294967295 = a % 4294967296 := Nat.and_two_pow_sub_one_eq_mod a 32
  rw [e] at h
  exact h
theorem divN (a : Nat) : (a : Int) / 4294967296 = ((a / 4294967296 : Nat) : Int) := by omega
theorem mulN (a b : Nat) : (a : Int) * (b : Int) = ((a * b : Nat) : Int) := (Int.natCast_mul a b).symm
theorem addN (a b : Nat) : (a : Int) + (b : Int) = ((a + b : Nat) : Int) := (Int.natCast_add a b).symm
theorem wrapN (a : Nat) (ha : a < 18446744073709551616) : IntKind.u64.wrap (a : Int) = (a : Int) := by rw [IntKind.wrap_u64]; omega
theorem wrapM (a : Nat) : IntKind.u64.wrap (a : Int) = ((a % 18446744073709551616 : Nat) : Int) := by rw [IntKind.wrap_u64]; omega
end Go.Proofs.Ytfdpokibhdbjoaa
