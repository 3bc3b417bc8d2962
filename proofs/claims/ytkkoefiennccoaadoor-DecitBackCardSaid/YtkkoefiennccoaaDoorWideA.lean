/-
  What wide's Of, Cmp, Add, Sub, Mul and what they call do, one contract each; no condition beyond what each contract asks.
-/
import Derived.Test.YtkkoefiennccoaaDoorBase
import Derived.Test.YtkkoefiennccoaaDoorWideMath
import Derived.Laws.Externs
import Derived.Laws.Bits64b
import Derived.Laws.ResultCell
import Derived.IntWalk
namespace Go.Proofs.YtkkoefiennccoaaDoor
open Go.RowKit
/-- A number of 128 bits as the program has it. -/
def wv (n : Nat) : Value := .agg #[.int .u64 ((n / 18446744073709551616 : Nat) : Int), .int .u64 ((n % 18446744073709551616 : Nat) : Int)]
theorem wv_of {h l n : Nat} (hh : h = n / 18446744073709551616) (hl : l = n % 18446744073709551616) : Value.agg #[.int .u64 (h : Int), .int .u64 (l : Int)] = wv n := by rw [hh, hl]; rfl
def subEntry : Array Value → Sem Value := fun args => do
  let (x, y, b) ← Extern.MathBitsCarry.three "Sub64" args
  pure (Extern.MathBitsCarry.pair ((x + Extern.MathBitsCarry.m64 - y - b) % Extern.MathBitsCarry.m64) (if x < y + b then 1 else 0))
theorem run_sub (P : Program) (x y b : Nat) (hb : b ≤ 1) (w : World) :
    (subEntry #[.int .u64 x, .int .u64 y, .int .u64 b]).run P w =
      .ok (.tuple #[.int .u64 (((x + 18446744073709551616 - y - b) % 18446744073709551616 : Nat) : Int), .int .u64 ((if x < y + b then 1 else 0 : Nat) : Int)]) w := by
  have : b = 0 ∨ b = 1 := by omega
  rcases this with rfl | rfl <;> rfl
set_option maxRecDepth 100000 in
theorem add64_any (x y c : Nat) (hc : c ≤ 1) (w : World) :
    (callFunc 70 #[.int .u64 (x : Int), .int .u64 (y : Int), .int .u64 (c : Int)]).run Tryd.prog w =
      .ok (.value (.tuple #[.int .u64 (((x + y + c) % 18446744073709551616 : Nat) : Int), .int .u64 (((x + y + c) / 18446744073709551616 : Nat) : Int)])) w := by
  rw [run_callFunc_extern Tryd.func70 (by kernel_rfl) (by kernel_rfl) (by kernel_rfl) (e := add64Entry) (by kernel_rfl), run_add64 x y c (by omega) (by omega) (by omega) (by omega)]
  simp only [Result.andThen]
  congr 5 <;> omega
theorem add64_zero (x y : Nat) (w : World) :
    (callFunc 70 #[.int .u64 (x : Int), .int .u64 (y : Int), .int .u64 0]).run Tryd.prog w =
      .ok (.value (.tuple #[.int .u64 (((x + y) % 18446744073709551616 : Nat) : Int), .int .u64 (((x + y) / 18446744073709551616 : Nat) : Int)])) w := add64_any x y 0 (by omega) w
set_option maxHeartbeats 400000 in
theorem of_any (v : Nat) (hv : v < 18446744073709551616) (w : World) :
    Calls Tryd.prog 47 #[.int .u64 (v : Int)] w fun e w' => e = .returned (wv v) ∧ Below w.heap.size w w' := by
  have HE : Hid (Value.agg #[.int .u64 0, .int .u64 (v : Int)] = wv v) := wv_of (h := 0) (by omega) (by omega)
  go_enter Tryd.func47, Tryd.ntmps47
  go_wp2_with fail
  refine bodyPost_ret (v := .agg #[.int .u64 0, .int .u64 (v : Int)]) (by simp [results, Tryd.results47, go_sem]) rfl ?_
  exact ⟨by rw [HE.out], (Below.refl _ _).alloc (Nat.le_refl _) _⟩
set_option maxRecDepth 100000 in
theorem bool_ne (d : Nat) : Value.bool ((d : Int) != 0) = .bool (decide (d ≠ 0)) := by
  congr 1
  by_cases h : d = 0
  · subst h; rfl
  · have e : ((d : Int) == 0) = false := by rw [beq_eq_false_iff_ne]; omega
    rw [bne, e]; simp [h]
theorem tuple_two {a b c d : Value} (h : a = c) (h' : b = d) : Ending.returned (.tuple #[a, b]) = .returned (.tuple #[c, d]) := by rw [h, h']
set_option maxHeartbeats 400000 in
theorem add_any (a b : Nat) (ha : a < 340282366920938463463374607431768211456) (hb : b < 340282366920938463463374607431768211456) (w : World) :
    Calls Tryd.prog 46 #[wv a, wv b] w fun e w' => e = .returned (.tuple #[wv ((a + b) % 340282366920938463463374607431768211456), .bool (decide (340282366920938463463374607431768211456 ≤ a + b))]) ∧ Below w.heap.size w w' := by
  obtain ⟨s, hs⟩ : ∃ s, s = wv ((a + b) % 340282366920938463463374607431768211456) := ⟨_, rfl⟩
  obtain ⟨o, ho⟩ : ∃ o, o = decide (340282366920938463463374607431768211456 ≤ a + b) := ⟨_, rfl⟩
  rw [← hs, ← ho]
  have H1 := Lib.hid (add_lo a b)
  have H2 := Lib.hid (add_hi ha hb)
  have H3 := Lib.hid (add_out ha hb)
  have HO : Hid (o = decide ((a + b) / 340282366920938463463374607431768211456 ≠ 0)) := show _ = _ by rw [ho]; congr 1; simp
  have HS := Lib.hid hs
  clear hs ho
  unfold wv
  have l1 : (a % 18446744073709551616 + b % 18446744073709551616) / 18446744073709551616 ≤ 1 := by omega
  generalize a / 18446744073709551616 = a1 at *
  generalize a % 18446744073709551616 = a0 at *
  generalize b / 18446744073709551616 = b1 at *
  generalize b % 18446744073709551616 = b0 at *
  have x1 := add64_zero a0 b0
  obtain ⟨c, hc⟩ : ∃ c, c = (a0 + b0) / 18446744073709551616 := ⟨_, rfl⟩
  obtain ⟨l, hl⟩ : ∃ l, l = (a0 + b0) % 18446744073709551616 := ⟨_, rfl⟩
  rw [← hc] at l1 x1 H2 H3
  rw [← hl] at x1 H1
  have x2 := add64_any a1 b1 c l1
  obtain ⟨d, hd⟩ : ∃ d, d = (a1 + b1 + c) / 18446744073709551616 := ⟨_, rfl⟩
  obtain ⟨m, hm⟩ : ∃ m, m = (a1 + b1 + c) % 18446744073709551616 := ⟨_, rfl⟩
  rw [← hd] at x2 H3
  rw [← hm] at x2 H2
  rw [← H3.out] at HO
  clear hc hl hd hm
  go_enter Tryd.func46, Tryd.ntmps46
  go_wp2_with (first | (rw [x1, Oper.upon_value]) | (rw [x2, Oper.upon_value]))
  refine bodyPost_ret (v := .tuple #[.agg #[.int .u64 (m : Int), .int .u64 (l : Int)], .bool ((d : Int) != 0)]) (by simp [results, Tryd.results46, go_sem]) rfl ?_
  refine ⟨tuple_two ?_ ?_, (((Below.refl _ _).alloc (Nat.le_refl _) _).alloc (by simp) _).alloc (by simp; omega) _⟩
  · rw [HS.out]; exact wv_of H2.out H1.out
  · rw [HO.out]; exact bool_ne d
/-- What Sub answers: whether b is greater. -/
theorem ite_le_one (p : Prop) [Decidable p] : (if p then 1 else 0 : Nat) ≤ 1 := by split <;> omega
/-! ### A result that lies in memory -/
theorem results_row1 {fn : Func} {p : Tmp} {ty : TypeId} (h : fn.results = #[.cell p ty]) (tmps : Array Value) {P : Program} (w : World) (g : Nat) (cs : Array Value)
    (hp : tmps.getD p undef = .pointer (some ⟨g, 0, none⟩)) (hl : (loadVar ty ⟨g, 0, none⟩).run P w = .ok (.agg cs) w) :
    (results fn tmps).run P w = .ok (.agg cs) w := by
  rw [Array.getD_eq_getD_getElem?] at hp
  simp [results, h, hp, asAddr, hl]
theorem results_row2 {fn : Func} {p u : Tmp} {ty : TypeId} (h : fn.results = #[.cell p ty, .tmp u]) (tmps : Array Value) {P : Program} (w : World) (g : Nat) (cs : Array Value)
    (hp : tmps.getD p undef = .pointer (some ⟨g, 0, none⟩)) (hl : (loadVar ty ⟨g, 0, none⟩).run P w = .ok (.agg cs) w) :
    (results fn tmps).run P w = .ok (.tuple #[.agg cs, tmps.getD u undef]) w := by
  rw [results_cell_tmp h, hp]
  simp [asAddr, hl]
theorem results_row3 {fn : Func} {p u v : Tmp} {ty : TypeId} (h : fn.results = #[.cell p ty, .tmp u, .tmp v]) (tmps : Array Value) {P : Program} (w : World) (g : Nat) (cs : Array Value)
    (hp : tmps.getD p undef = .pointer (some ⟨g, 0, none⟩)) (hl : (loadVar ty ⟨g, 0, none⟩).run P w = .ok (.agg cs) w) :
    (results fn tmps).run P w = .ok (.tuple #[.agg cs, tmps.getD u undef, tmps.getD v undef]) w := by
  rw [Array.getD_eq_getD_getElem?] at hp
  simp [results, h, hp, asAddr, hl]
theorem load_wide {w : World} {g : Nat} {x y : Value} (hg : w.heap[g]? = some (.cells #[x, y] 29 (0, 0))) :
    (loadVar 29 ⟨g, 0, none⟩).run Tryd.prog w = .ok (.agg #[x, y]) w :=
  run_loadVar_row w g _ _ _ _ _ hg Tryd.underlying29 rfl (by kernel_rfl)
theorem two_set {w : World} {g : Nat} {x y a b : Value} {t : TypeId} (h : w.heap[g]? = some (.cells #[x, y] t (0, 0))) :
    ((w.setCell ⟨g, 0, none⟩ a).setCell ⟨g, 1, none⟩ b).heap[g]? = some (.cells #[a, b] t (0, 0)) := block_set (block_set h 0 a) 1 b
theorem below_two {B : Nat} {a w : World} (h : Below B a w) {g : Nat} (hg : B ≤ g) (x y : Value) : Below B a ((w.setCell ⟨g, 0, none⟩ x).setCell ⟨g, 1, none⟩ y) :=
  (h.setCell (p := ⟨g, 0, none⟩) hg x).setCell (p := ⟨g, 1, none⟩) hg y
/-! ### Which is greater -/
def cmpI (a b : Nat) : Int := if a < b then -1 else if b < a then 1 else 0
theorem isNaN_any (x : Nat) (w : World) : Calls Tryd.prog 81 #[.int .u64 (x : Int)] w fun e w' => e = .returned (.bool false) ∧ w = w' := by
  go_enter Tryd.func81, Tryd.ntmps81
  go_wp2_with fail
  go_ret
  exact ⟨by simp, rfl⟩
theorem ret_num' {k : IntKind} {a b : Int} (h : b = a) : Ending.returned (.int k a) = .returned (.int k b) := by rw [h]
set_option maxHeartbeats 400000 in
theorem compare_any (x y : Nat) (w : World) : Calls Tryd.prog 59 #[.int .u64 (x : Int), .int .u64 (y : Int)] w fun e w' => e = .returned (.int .i64 (cmpI x y)) ∧ w = w' := by
  obtain ⟨r, hr⟩ : ∃ r, r = cmpI x y := ⟨_, rfl⟩
  rw [← hr]
  unfold cmpI at hr
  by_cases h1 : x < y
  · have d1 : decide ((x : Int) < (y : Int)) = true := by simp; omega
    have d1n : decide (x < y) = true := by simpa using h1
    rw [if_pos h1] at hr
    have HR := Lib.hid hr
    clear hr h1
    go_enter Tryd.func59, Tryd.ntmps59
    go_wp2_with (refine (isNaN_any _ _).mono ?_; rintro e w' ⟨rfl, rfl⟩)
    go_ret
    exact ⟨ret_num' HR.out, rfl⟩
  · have d1 : decide ((x : Int) < (y : Int)) = false := by simp; omega
    have d1n : decide (x < y) = false := by simpa using h1
    rw [if_neg h1] at hr
    by_cases h2 : y < x
    · have d2 : decide ((y : Int) < (x : Int)) = true := by simp; omega
      have d2n : decide (y < x) = true := by simpa using h2
      rw [if_pos h2] at hr
      have HR := Lib.hid hr
      clear hr h1 h2
      go_enter Tryd.func59, Tryd.ntmps59
      go_wp2_with (refine (isNaN_any _ _).mono ?_; rintro e w' ⟨rfl, rfl⟩)
      go_ret
      exact ⟨ret_num' HR.out, rfl⟩
    · have d2 : decide ((y : Int) < (x : Int)) = false := by simp; omega
      have d2n : decide (y < x) = false := by simpa using h2
      rw [if_neg h2] at hr
      have HR := Lib.hid hr
      clear hr h1 h2
      go_enter Tryd.func59, Tryd.ntmps59
      go_wp2_with (refine (isNaN_any _ _).mono ?_; rintro e w' ⟨rfl, rfl⟩)
      go_ret
      exact ⟨ret_num' HR.out, rfl⟩
theorem cmp_high {a b : Nat} (h : a / 18446744073709551616 ≠ b / 18446744073709551616) : cmpI a b = cmpI (a / 18446744073709551616) (b / 18446744073709551616) := by
  unfold cmpI
  by_cases h1 : a / 18446744073709551616 < b / 18446744073709551616
  · rw [if_pos h1, if_pos (by omega)]
  · rw [if_neg h1, if_neg (by omega), if_pos (by omega), if_pos (by omega)]
theorem cmp_low {a b : Nat} (h : a / 18446744073709551616 = b / 18446744073709551616) : cmpI a b = cmpI (a % 18446744073709551616) (b % 18446744073709551616) := by
  unfold cmpI
  by_cases h1 : a % 18446744073709551616 < b % 18446744073709551616
  · rw [if_pos h1, if_pos (by omega)]
  · rw [if_neg h1, if_neg (by omega)]
    by_cases h2 : b % 18446744073709551616 < a % 18446744073709551616
    · rw [if_pos h2, if_pos (by omega)]
    · rw [if_neg h2, if_neg (by omega)]
set_option maxHeartbeats 400000 in
theorem cmp_any (a b : Nat) (w : World) :
    Calls Tryd.prog 34 #[wv a, wv b] w fun e w' => e = .returned (.int .i64 (cmpI a b)) ∧ Below w.heap.size w w' := by
  by_cases h : a / 18446744073709551616 = b / 18446744073709551616
  · have HR := Lib.hid (cmp_low h)
    generalize cmpI a b = r at *
    unfold wv
    rw [h]
    clear h
    generalize a % 18446744073709551616 = a0 at *
    generalize b / 18446744073709551616 = b1 at *
    generalize b % 18446744073709551616 = b0 at *
    go_enter Tryd.func34, Tryd.ntmps34
    go_wp2_with (refine (compare_any _ _ _).mono ?_; rintro e w' ⟨rfl, rfl⟩)
    go_ret
    exact ⟨ret_num' HR.out, ((Below.refl _ _).alloc (Nat.le_refl _) _).alloc (by simp) _⟩
  · have HR := Lib.hid (cmp_high h)
    generalize cmpI a b = r at *
    unfold wv
    generalize a / 18446744073709551616 = a1 at *
    generalize a % 18446744073709551616 = a0 at *
    generalize b / 18446744073709551616 = b1 at *
    generalize b % 18446744073709551616 = b0 at *
    have d1 : ((a1 : Int) == (b1 : Int)) = false := by rw [beq_eq_false_iff_ne]; omega
    have d2 : ((a1 : Int) != (b1 : Int)) = true := by rw [bne, d1]; rfl
    clear h
    go_enter Tryd.func34, Tryd.ntmps34
    go_wp2_with (refine (compare_any _ _ _).mono ?_; rintro e w' ⟨rfl, rfl⟩)
    go_ret
    exact ⟨ret_num' HR.out, ((Below.refl _ _).alloc (Nat.le_refl _) _).alloc (by simp) _⟩
/-! ### Products -/
theorem maskN (a : Nat) (ha : a < 18446744073709551616) : bits .and .u64 (a : Int) 4294967295 = ((a % 4294967296 : Nat) : Int) := by
  have h := bits_and_u64_nat a 4294967295 ha (by omega)
  have e : a &&& 4294967295 = a % 4294967296 := Nat.and_two_pow_sub_one_eq_mod a 32
  rw [e] at h
  exact h
theorem divN (a : Nat) : (a : Int) / 4294967296 = ((a / 4294967296 : Nat) : Int) := by omega
theorem mulN (a b : Nat) : (a : Int) * (b : Int) = ((a * b : Nat) : Int) := (Int.natCast_mul a b).symm
theorem addN (a b : Nat) : (a : Int) + (b : Int) = ((a + b : Nat) : Int) := (Int.natCast_add a b).symm
theorem wrapN (a : Nat) (ha : a < 18446744073709551616) : IntKind.u64.wrap (a : Int) = (a : Int) := by rw [IntKind.wrap_u64]; omega
theorem wrapM (a : Nat) : IntKind.u64.wrap (a : Int) = ((a % 18446744073709551616 : Nat) : Int) := by rw [IntKind.wrap_u64]; omega
set_option maxHeartbeats 1000000 in
theorem mul64_any (x y : Nat) (hx : x < 18446744073709551616) (hy : y < 18446744073709551616) (w : World) :
    Calls Tryd.prog 73 #[.int .u64 (x : Int), .int .u64 (y : Int)] w fun e w' => e = .returned (.tuple #[.int .u64 ((x * y / 18446744073709551616 : Nat) : Int), .int .u64 ((x * y % 18446744073709551616 : Nat) : Int)]) ∧ w = w' := by
  obtain ⟨bd, bt, bw, hhi⟩ := Lib.mul64_hi x y hx hy
  have ba := Lib.half_mul_le (a := x / 4294967296) (b := y / 4294967296) (by omega) (by omega)
  have bb := Lib.half_mul_le (a := x / 4294967296) (b := y % 4294967296) (by omega) (by omega)
  have bc := Lib.half_mul_le (a := x % 4294967296) (b := y / 4294967296) (by omega) (by omega)
  have ba' : x / 4294967296 * (y / 4294967296) < 18446744073709551616 := by omega
  have bb' : x / 4294967296 * (y % 4294967296) < 18446744073709551616 := by omega
  have bc' : x % 4294967296 * (y / 4294967296) < 18446744073709551616 := by omega
  have bh1 : x / 4294967296 * (y / 4294967296) + (x / 4294967296 * (y % 4294967296) + x % 4294967296 * (y % 4294967296) / 4294967296) / 4294967296 < 18446744073709551616 := by omega
  have bh : x / 4294967296 * (y / 4294967296) + (x / 4294967296 * (y % 4294967296) + x % 4294967296 * (y % 4294967296) / 4294967296) / 4294967296 + ((x / 4294967296 * (y % 4294967296) + x % 4294967296 * (y % 4294967296) / 4294967296) % 4294967296 + x % 4294967296 * (y / 4294967296)) / 4294967296 < 18446744073709551616 := by omega
  go_enter Tryd.func73, Tryd.ntmps73
  go_wp2
  simp only [maskN x hx, maskN y hy, divN, mulN, addN, wrapN _ bd, wrapN _ bb', wrapN _ bt, maskN _ bt, wrapN _ bc', wrapN _ bw, wrapN _ ba', wrapN _ bh1, wrapN _ bh, wrapM (x * y)]
  rw [hhi]
  go_ret2
  exact ⟨rfl, rfl⟩
set_option maxHeartbeats 400000 in
theorem mul_any (x y : Nat) (hx : x < 18446744073709551616) (hy : y < 18446744073709551616) (w : World) :
    Calls Tryd.prog 69 #[.int .u64 (x : Int), .int .u64 (y : Int)] w fun e w' => e = .returned (wv (x * y)) ∧ Below w.heap.size w w' := by
  have x1 := mul64_any x y hx hy
  unfold wv
  generalize x * y / 18446744073709551616 = h at *
  generalize x * y % 18446744073709551616 = l at *
  go_enter Tryd.func69, Tryd.ntmps69
  go_wp2_with (refine (x1 _).mono ?_; rintro e w' ⟨rfl, rfl⟩)
  refine bodyPost_ret (v := .agg #[.int .u64 (h : Int), .int .u64 (l : Int)]) (by simp [results, Tryd.results69, go_sem]) rfl ?_
  exact ⟨rfl, (Below.refl _ _).alloc (Nat.le_refl _) _⟩
end Go.Proofs.YtkkoefiennccoaaDoor
