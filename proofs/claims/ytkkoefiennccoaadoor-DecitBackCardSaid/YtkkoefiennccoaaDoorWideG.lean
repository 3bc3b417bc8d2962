/-
  What wide's Times does; no condition beyond what the contract asks.
  What math/bits' Len64, LeadingZeros64 and Div64 do; no condition beyond what each contract asks.
  What math/bits' Div64 does where the upper half is below the divisor (else Go panics); no other condition.
  What math/bits' Div64 and wide's Div do; of Div64 where the upper half is below the divisor (else Go panics); no other condition.
  What wide's Div does; no condition beyond what each contract asks.
  What wide's Up and Down do; no condition beyond what each contract asks.
-/
import Derived.Test.YtkkoefiennccoaaDoorWideA
import Derived.Deep.RegionHeld3
import Derived.Deep.RegionWith
import Derived.BigRegion
import Derived.Deep.DeepCutAuto
import Derived.StillTailTactics
import Derived.Deep.CutBlock
import Derived.Lib.QuietBelow
import Derived.BigQuiet
namespace Go.Proofs.YtkkoefiennccoaaDoor
open Go.RowKit
theorem bcell {W w1 : World} (hb : Below W.heap.size W w1) : (∀ b o, b < W.heap.size → w1.cell? ⟨b, o, none⟩ = W.cell? ⟨b, o, none⟩) ∧ (∀ b o, b < W.heap.size → w1.frozen? ⟨b, o, none⟩ = W.frozen? ⟨b, o, none⟩) :=
  ⟨fun b o h => hb.cell (p := ⟨b, o, none⟩) h, fun b o h => hb.frozen (p := ⟨b, o, none⟩) h⟩
theorem ret_val {k : IntKind} {a b : Int} (h : a = b) : Value.int k a = .int k b := by rw [h]
theorem cell_drew {V : World} {p : Addr} {v : Value} (h : V.cell? p = some v) : V.drew.cell? p = some v := h
theorem cell_lt {V : World} {p : Addr} {v : Value} (h : V.cell? p = some v) : p.block < V.heap.size := by
  rcases Nat.lt_or_ge p.block V.heap.size with h1 | h1
  · exact h1
  · exfalso
    unfold World.cell? at h
    rw [Array.getElem?_eq_none h1] at h
    cases h
theorem cell_past {V : World} {p : Addr} {v : Value} (o : Obj) (h : V.cell? p = some v) : (V.alloc o).cell? p = some v :=
  (World.cell?_of_block (Below.heap_alloc V o p.block (cell_lt h))).trans h
theorem cell_set {V : World} {p q : Addr} {v u : Value} (h : V.cell? p = some v) (hq : p.block ≠ q.block) : (V.setCell q u).cell? p = some v :=
  (World.cell?_of_block (Below.heap_setCell V q u p.block hq)).trans h
set_option maxHeartbeats 400000 in
theorem mul_at (x y : Nat) (hx : x < 18446744073709551616) (hy : y < 18446744073709551616) (h l : Nat) (hh : x * y / 18446744073709551616 = h) (hl : x * y % 18446744073709551616 = l) (w : World) :
    Calls Tryd.prog 69 #[.int .u64 (x : Int), .int .u64 (y : Int)] w fun e w' => e = .returned (.agg #[.int .u64 (h : Int), .int .u64 (l : Int)]) ∧ w' = w.alloc (.cells #[.int .u64 (h : Int), .int .u64 (l : Int)] 29) := by
  have x1 := mul64_any x y hx hy
  rw [hh, hl] at x1
  clear hh hl
  go_enter Tryd.func69, Tryd.ntmps69
  go_wp2_with (refine (x1 _).mono ?_; rintro e w' ⟨rfl, rfl⟩)
  refine bodyPost_ret (v := .agg #[.int .u64 (h : Int), .int .u64 (l : Int)]) (by simp [results, Tryd.results69, go_sem]) rfl ?_
  exact ⟨rfl, rfl⟩
theorem four_blocks {W : World} {n : Nat} (z : W.heap.size = n + 2) :
    (∀ o1 o2 o3 o4, ((((W.alloc o1).alloc o2).alloc o3).alloc o4).drew.heap[n + 2]? = some o1) ∧ (∀ o1 o2 o3 o4, ((((W.alloc o1).alloc o2).alloc o3).alloc o4).drew.heap[n + 2 + 1]? = some o2) ∧
    (∀ o1 o2 o3 o4, ((((W.alloc o1).alloc o2).alloc o3).alloc o4).drew.heap[n + 2 + 1 + 1]? = some o3) ∧ (∀ o1 o2 o3 o4, ((((W.alloc o1).alloc o2).alloc o3).alloc o4).drew.heap[n + 2 + 1 + 1 + 1]? = some o4) := by
  have e1 : ∀ o1, (W.alloc o1).heap.size = n + 2 + 1 := fun o1 => by simp [z]
  have e2 : ∀ o1 o2, ((W.alloc o1).alloc o2).heap.size = n + 2 + 1 + 1 := fun o1 o2 => by simp [z]
  have e3 : ∀ o1 o2 o3, (((W.alloc o1).alloc o2).alloc o3).heap.size = n + 2 + 1 + 1 + 1 := fun o1 o2 o3 => by simp [z]
  refine ⟨fun o1 o2 o3 o4 => ?_, fun o1 o2 o3 o4 => ?_, fun o1 o2 o3 o4 => ?_, fun o1 o2 o3 o4 => ?_⟩
  · show ((((W.alloc o1).alloc o2).alloc o3).alloc o4).heap[n + 2]? = _
    rw [Below.heap_alloc _ _ _ (by rw [e3]; omega), Below.heap_alloc _ _ _ (by rw [e2]; omega), Below.heap_alloc _ _ _ (by rw [e1]; omega), ← z]
    exact heap_alloc_new _ _
  · show ((((W.alloc o1).alloc o2).alloc o3).alloc o4).heap[n + 2 + 1]? = _
    rw [Below.heap_alloc _ _ _ (by rw [e3]; omega), Below.heap_alloc _ _ _ (by rw [e2]; omega), ← e1 o1]
    exact heap_alloc_new _ _
  · show ((((W.alloc o1).alloc o2).alloc o3).alloc o4).heap[n + 2 + 1 + 1]? = _
    rw [Below.heap_alloc _ _ _ (by rw [e3]; omega), ← e2 o1 o2]
    exact heap_alloc_new _ _
  · show ((((W.alloc o1).alloc o2).alloc o3).alloc o4).heap[n + 2 + 1 + 1 + 1]? = _
    rw [← e3 o1 o2 o3]
    exact heap_alloc_new _ _
/-- What stands behind 'low, high := ..': two pointers to blocks that are new and hold both products; what was there stands. -/
def TwoCut (W : World) (n p1 p0 q1 q0 : Nat) (s6 s7 : Value) (wx : World) : Prop :=
  ∃ g h : Nat, s6 = .pointer (some ⟨g, 0, none⟩) ∧ s7 = .pointer (some ⟨h, 0, none⟩) ∧ n + 2 ≤ g ∧ n + 2 ≤ h ∧ wx.heap[g]? = some (.cells #[.int .u64 (p1 : Int), .int .u64 (p0 : Int)] 29 (0, 0)) ∧
    wx.heap[h]? = some (.cells #[.int .u64 (q1 : Int), .int .u64 (q0 : Int)] 29 (0, 0)) ∧ Below W.heap.size W wx
set_option maxHeartbeats 4000000 in
theorem times_any (a b : Nat) (ha : a < 340282366920938463463374607431768211456) (hb : b < 18446744073709551616) (w : World) :
    Calls Tryd.prog 45 #[wv a, .int .u64 (b : Int)] w fun e w' => e = .returned (.tuple #[wv (a * b % 340282366920938463463374607431768211456), .int .u64 ((a * b / 340282366920938463463374607431768211456 : Nat) : Int)]) ∧ Below w.heap.size w w' := by
  obtain ⟨s, hs⟩ : ∃ s, s = wv (a * b % 340282366920938463463374607431768211456) := ⟨_, rfl⟩
  obtain ⟨o, ho⟩ : ∃ o, o = a * b / 340282366920938463463374607431768211456 := ⟨_, rfl⟩
  rw [← hs, ← ho]
  have HS := Lib.hid hs
  have HO := Lib.hid ho
  have HP := Lib.hid (times_parts ha hb)
  have HL := Lib.hid (times_over ha hb)
  clear hs ho
  have c1 := mul_at (a % 18446744073709551616) b (by omega) hb _ _ rfl rfl
  have c2 := mul_at (a / 18446744073709551616) b (by omega) hb _ _ rfl rfl
  unfold wv
  generalize a % 18446744073709551616 * b / 18446744073709551616 = p1 at *
  generalize a % 18446744073709551616 * b % 18446744073709551616 = p0 at *
  generalize a / 18446744073709551616 * b / 18446744073709551616 = q1 at *
  generalize a / 18446744073709551616 * b % 18446744073709551616 = q0 at *
  generalize a / 18446744073709551616 = a1 at *
  generalize a % 18446744073709551616 = a0 at *
  have C1 := Lib.hid c1
  have C2 := Lib.hid c2
  clear c1 c2
  go_enter Tryd.func45, Tryd.ntmps45
  go_wp2_with fail
  obtain ⟨W, hW⟩ : ∃ W, W = ((w.alloc (Obj.cells #[.int .u64 (a1 : Int), .int .u64 (a0 : Int)] 29)).alloc (Obj.cells #[.int .u64 0, .int .u64 0] 29)) := ⟨_, rfl⟩
  have B0 : Below w.heap.size w W := by rw [hW]; exact ((Below.refl _ _).alloc (Nat.le_refl _) _).alloc (by simp) _
  obtain ⟨n, hn⟩ : ∃ n, n = w.heap.size := ⟨_, rfl⟩
  have z0 : W.heap.size = n + 2 := by rw [hW, hn]; simp
  have k0 : W.cell? ⟨n, 0, none⟩ = some (.int .u64 (a1 : Int)) := by rw [hW, hn]; simp [go_sem]
  have k1 : W.cell? ⟨n, 1, none⟩ = some (.int .u64 (a0 : Int)) := by rw [hW, hn]; simp [go_sem]
  have kr : Hid (W.heap[n + 1]? = some (.cells #[.int .u64 0, .int .u64 0] 29 (0, 0))) := show _ = _ by
    rw [hW, hn]
    have h := heap_alloc_new (w.alloc (Obj.cells #[.int .u64 (a1 : Int), .int .u64 (a0 : Int)] 29)) (Obj.cells #[.int .u64 0, .int .u64 0] 29)
    simpa using h
  rw [← hW, ← hn]
  clear hW
  have HN := Lib.hid hn
  have HB := Lib.hid B0
  have H0 := Lib.hid z0
  clear hn B0
  go_cut [6, 7] (fun s6 s7 wx => TwoCut W n p1 p0 q1 q0 s6 s7 wx)
  case first =>
    go_region_held3 (fun V : World => V.cell? ⟨n, 0, none⟩ = some (.int .u64 (a1 : Int)) ∧ V.cell? ⟨n, 1, none⟩ = some (.int .u64 (a0 : Int)))
      ((refine ⟨?_, ?_⟩ <;> (repeat (first | with_reducible refine cell_drew ?_ | with_reducible refine cell_past _ ?_)) <;> (first | with_reducible exact k0 | with_reducible exact k1)))
      (first | (go_at_call 69; (with_reducible refine (C1.out _).mono ?_); rintro e w1 ⟨rfl, rfl⟩) | (go_at_call 69; (with_reducible refine (C2.out _).mono ?_); rintro e w2 ⟨rfl, rfl⟩))
    all_goals (go_wp2_with fail; go_meet; obtain ⟨b1, b2, b3, b4⟩ := four_blocks z0; exact ⟨_, _, rfl, rfl, by omega, by omega, (by first | exact b1 _ _ _ _ | exact b2 _ _ _ _ | exact b3 _ _ _ _ | exact b4 _ _ _ _), (by first | exact b1 _ _ _ _ | exact b2 _ _ _ _ | exact b3 _ _ _ _ | exact b4 _ _ _ _), ((((((Below.refl W.heap.size W).alloc (Nat.le_refl _) _).alloc (by simp) _).alloc (by simp; omega) _).alloc (by simp; omega) _).drew)⟩)
  case rest =>
    obtain ⟨g, h, rfl, rfl, hg, hh, hP, hQ, hB⟩ := hcut
    have c1 := block_cell hP 0
    have c2 := block_cell hP 1
    have c3 := block_cell hQ 0
    have c4 := block_cell hQ 1
    simp at c1 c2 c3 c4
    have HR : Hid (wc.heap[n + 1]? = some (.cells #[.int .u64 0, .int .u64 0] 29 (0, 0))) := (hB.block (n + 1) (by omega)).trans kr.out
    have r1 := block_cell HR.out 0
    have r2 := block_cell HR.out 1
    have f1 := block_frozen HR.out 0
    have f2 := block_frozen HR.out 1
    simp at r1 r2
    have x1 := add64_zero p1 q0
    have hp := HP.out
    have hl := HL.out
    have hw : q1 + (p1 + q0) / 18446744073709551616 < 18446744073709551616 := by rw [hp.2.2]; exact hl
    have HBw : Hid (Below w.heap.size w wc) := HB.out.trans (hB.mono HB.out.size)
    have hnw : w.heap.size ≤ n + 1 := by have := HN.out; omega
    obtain ⟨c, hc⟩ : ∃ c, c = (p1 + q0) / 18446744073709551616 := ⟨_, rfl⟩
    obtain ⟨m, hm⟩ : ∃ m, m = (p1 + q0) % 18446744073709551616 := ⟨_, rfl⟩
    rw [← hc, ← hm] at x1 hp
    rw [← hc] at hw
    have HQ := Lib.hid hp
    have y1 : IntKind.u64.wrap ((q1 : Int) + (c : Int)) = ((q1 + c : Nat) : Int) := by rw [addN]; exact wrapN _ hw
    obtain ⟨t, ht⟩ : ∃ t, t = q1 + c := ⟨_, rfl⟩
    rw [← ht] at y1
    have HT := Lib.hid ht
    clear k0 k1 kr hP hQ hB z0 hp hl hw hc hm ht
    go_wp2_with (rw [x1, Oper.upon_value])
    go_region
    go_wp2_with fail
    refine bodyPost_ret (results_row2 rfl _ _ (n + 1) _ rfl (load_wide (two_set HR.out))) rfl ?_
    refine ⟨tuple_two ?_ ?_, (below_two HBw.out hnw _ _).drew⟩
    · rw [HS.out]
      exact wv_of HQ.out.2.1 HQ.out.1
    · exact ret_val (by rw [HO.out, ← HQ.out.2.2, ← HT.out])
end Go.Proofs.YtkkoefiennccoaaDoor
namespace Go.Proofs.YtkkoefiennccoaaDoor
open Go.RowKit
theorem tab_at (m : Nat) (h : m < Lib.len8tab.size) (hb : m < 256) : ((Lib.len8tab[m]'h).toNat : Int) = (Lib.bitLen m : Int) := by
  have e := Lib.len8_eq ⟨m, hb⟩
  rw [← e]
  unfold Lib.len8
  generalize Lib.len8tab = T at *
  rw [Int.toNat_natCast, ByteArray.getElem?_lt' _ _ h, Option.getD_some]
theorem len_sum {c : Int} {k L M r : Nat} (hc : c = (k : Int)) (hr : r = L) (e : L = k + M) (l : M ≤ 8) (hk6 : k ≤ 56) : wrap64 (c + wrap64 (M : Int)) = (r : Int) := by
  subst hc hr e
  unfold wrap64
  omega
theorem len_step {k x m p : Nat} (hx : x < 18446744073709551616) (hp : p = 2 ^ k) (hd : m = x / p) (hk : k = 0 ∨ p ≤ x) : Lib.bitLen x = k + Lib.bitLen m := by
  subst hp hd
  rcases hk with h | h
  · subst h
    rw [Nat.pow_zero, Nat.div_one, Nat.zero_add]
  · exact Lib.bitLen_shift k x h hx
theorem len_fin (k : Nat) {x d c : Int} {r : Nat} (p : Nat) (hc : c = (k : Int)) (hr : r = Lib.bitLen x.toNat) (h1 : x.toNat < 18446744073709551616) (hp : p = 2 ^ k) (hd : d.toNat = x.toNat / p) (hb : d.toNat < 256) (hk : k = 0 ∨ p ≤ x.toNat) (hk6 : k ≤ 56) :
    wrap64 (c + wrap64 (Lib.bitLen d.toNat : Int)) = (r : Int) :=
  len_sum hc hr (len_step h1 hp hd hk) (Lib.bitLen_le8 ⟨d.toNat, hb⟩) hk6
set_option maxHeartbeats 4000000 in
set_option maxRecDepth 100000 in
theorem len64_int (x : Int) (r : Nat) (h0 : 0 ≤ x) (h1 : x ≤ 18446744073709551615) (HR : Hid (r = Lib.bitLen x.toNat)) (w : World) :
    Calls Tryd.prog 88 #[.int .u64 x] w fun e w' => e = .returned (.int .i64 (r : Int)) ∧ w = w' := by
  go_enter Tryd.func88, Tryd.ntmps88
  go_wp2
  all_goals first
    | (exfalso; rename_i hz; rw [Lib.len8tab_size] at hz; omega)
    | (go_ret; refine ⟨congrArg Ending.returned (congrArg (Value.int IntKind.i64) ?_), rfl⟩
       rw [tab_at _ _ (by omega)]
       first
         | exact len_fin 56 72057594037927936 rfl HR.out (by omega) rfl (by omega) (by omega) (.inr (by omega)) (by omega)
         | exact len_fin 48 281474976710656 rfl HR.out (by omega) rfl (by omega) (by omega) (.inr (by omega)) (by omega)
         | exact len_fin 40 1099511627776 rfl HR.out (by omega) rfl (by omega) (by omega) (.inr (by omega)) (by omega)
         | exact len_fin 32 4294967296 rfl HR.out (by omega) rfl (by omega) (by omega) (.inr (by omega)) (by omega)
         | exact len_fin 24 16777216 rfl HR.out (by omega) rfl (by omega) (by omega) (.inr (by omega)) (by omega)
         | exact len_fin 16 65536 rfl HR.out (by omega) rfl (by omega) (by omega) (.inr (by omega)) (by omega)
         | exact len_fin 8 256 rfl HR.out (by omega) rfl (by omega) (by omega) (.inr (by omega)) (by omega)
         | (have h := len_fin 0 (d := x) 1 rfl HR.out (by omega) rfl (by omega) (by omega) (.inl rfl) (by omega)
            simpa using h))
theorem len64_any (x : Nat) (hx : x < 18446744073709551616) (w : World) :
    Calls Tryd.prog 88 #[.int .u64 (x : Int)] w fun e w' => e = .returned (.int .i64 (Lib.bitLen x : Int)) ∧ w = w' :=
  len64_int (x : Int) _ (by omega) (by omega) (show _ = _ by rw [Int.toNat_natCast]) w
set_option maxHeartbeats 400000 in
theorem lead_any (x : Nat) (hx : x < 18446744073709551616) (w : World) :
    Calls Tryd.prog 77 #[.int .u64 (x : Int)] w fun e w' => e = .returned (.int .i64 ((64 - Lib.bitLen x : Nat) : Int)) ∧ w = w' := by
  have hL : Lib.bitLen x ≤ 64 := Lib.bitLen_le x 64 (Nat.le_refl _) hx
  have c := len64_any x hx
  generalize Lib.bitLen x = L at *
  clear hx
  obtain ⟨s, hs⟩ : ∃ s, s = 64 - L := ⟨_, rfl⟩
  rw [← hs]
  have HS := Lib.hid hs
  clear hs
  go_enter Tryd.func77, Tryd.ntmps77
  go_wp2_with (refine (c _).mono ?_; rintro e w' ⟨rfl, rfl⟩)
  go_ret
  exact ⟨ret_num (by have := HS.out; omega), rfl⟩
end Go.Proofs.YtkkoefiennccoaaDoor
namespace Go.Proofs.YtkkoefiennccoaaDoor
open Go.RowKit
theorem below_drewN (w : World) (n : Nat) : Below w.heap.size w (w.drewN n) := ⟨rfl, rfl, rfl, Nat.le_refl _, fun _ _ => rfl⟩
theorem div_val {l y : Nat} (hl : l < 18446744073709551616) : IntKind.u64.wrap ((l : Int) / (y : Int)) = ((l / y : Nat) : Int) := by
  have e : ((l : Int) / (y : Int)) = ((l / y : Nat) : Int) := by simp
  rw [e]
  exact wrapN _ (Nat.lt_of_le_of_lt (Nat.div_le_self _ _) hl)
theorem tdiv_val {l y : Nat} : ((l : Int).tdiv (y : Int)) = ((l / y : Nat) : Int) := by rw [Int.tdiv_eq_ediv_of_nonneg (by omega)]; simp
theorem tmod_val {l y : Nat} : ((l : Int).tmod (y : Int)) = ((l % y : Nat) : Int) := by rw [Int.tmod_eq_emod_of_nonneg (by omega)]; simp
set_option maxHeartbeats 1000000 in
set_option maxRecDepth 100000 in
theorem div64_low (l y q r : Nat) (hy : 0 < y) (HQ : Hid (q = l / y ∧ r = l % y ∧ l < 18446744073709551616)) (w : World) :
    Calls Tryd.prog 55 #[.int .u64 0, .int .u64 (l : Int), .int .u64 (y : Int)] w fun e w' => e = .returned (.tuple #[.int .u64 (q : Int), .int .u64 (r : Int)]) ∧ Below w.heap.size w w' := by
  have y1 : (0 : Int) < (y : Int) := by omega
  have y3 : ¬ (y : Int) = 0 := by omega
  have y4 : ¬ y = 0 := by omega
  have e1 := div_val (y := y) HQ.out.2.2
  have e2 := tdiv_val (l := l) (y := y)
  have e3 := tmod_val (l := l) (y := y)
  rw [← HQ.out.1] at e1 e2
  rw [← HQ.out.2.1] at e3
  go_enter Tryd.func55, Tryd.ntmps55
  have e4 : IntKind.u64.wrap (q : Int) = (q : Int) := wrapN _ (by rw [HQ.out.1]; exact Nat.lt_of_le_of_lt (Nat.div_le_self _ _) HQ.out.2.2)
  go_wp2_with fail
  go_quiet (fail)
  go_wp2_with fail
  go_ret2
  exact ⟨rfl, below_drewN _ _⟩
/-- What a quotient, as the walk may spell it, is. -/
structure DivIs (u n g : Nat) : Prop where
  a : IntKind.u64.wrap ((u : Int) / (n : Int)) = (g : Int)
  b : (u : Int).tdiv (n : Int) = (g : Int)
  c : (u : Int) / (n : Int) = (g : Int)
  d : IntKind.u64.wrap (g : Int) = (g : Int)
  e : 0 < n
theorem DivIs.of {u n g : Nat} (hg : g = u / n) (hu : u < 18446744073709551616) (hn : 0 < n) : DivIs u n g := by
  subst hg
  exact ⟨div_val hu, tdiv_val, by simp, wrapN _ (Nat.lt_of_le_of_lt (Nat.div_le_self _ _) hu), hn⟩
/-- What a round reckons, as the walk spells it: the guess g with its rest r; the halves of the divisor n1, n0; the next digit d. -/
structure RoundIs (g r n1 n0 d : Nat) (a c e g' r' : Nat) : Prop where
  isA : IntKind.u64.wrap ((g : Int) * (n0 : Int)) = (a : Int)
  isC : IntKind.u64.wrap (4294967296 * (r : Int)) = (c : Int)
  isE : IntKind.u64.wrap ((c : Int) + (d : Int)) = (e : Int)
  isG : IntKind.u64.wrap ((g : Int) - 1) = (g' : Int)
  isR : IntKind.u64.wrap ((r : Int) + (n1 : Int)) = (r' : Int)
theorem mul_small {g n : Nat} (hg : g ≤ 4294967297) (hn : n < 4294967296) : g * n < 18446744073709551616 := by
  have h : g * n ≤ 4294967297 * 4294967295 := Nat.mul_le_mul hg (by omega)
  omega
theorem RoundIs.of {g r n1 n0 d : Nat} (hg : g ≤ 4294967297) (hg1 : 1 ≤ g) (hr : r < 4294967296) (h1 : n1 < 4294967296) (h0 : n0 < 4294967296) (hd : d < 4294967296) :
    RoundIs g r n1 n0 d (g * n0) (r * 4294967296) (r * 4294967296 + d) (g - 1) (r + n1) := by
  refine ⟨?_, ?_, ?_, ?_, ?_⟩
  · rw [mulN]; exact wrapN _ (mul_small hg h0)
  · rw [IntKind.wrap_u64]; omega
  · rw [IntKind.wrap_u64]; omega
  · rw [IntKind.wrap_u64]; omega
  · rw [IntKind.wrap_u64]; omega
/-- All that a digit's loop leans on. -/
structure DigitOf (U Y d n1 n0 q : Nat) : Prop where
  hu : U < Y
  hd : d < 4294967296
  hy : 9223372036854775808 ≤ Y
  hyt : Y < 18446744073709551616
  hn1 : n1 = Y / 4294967296
  hn0 : n0 = Y % 4294967296
  hq : q = (U * 4294967296 + d) / Y
theorem DigitOf.bounds {U Y d n1 n0 q : Nat} (h : DigitOf U Y d n1 n0 q) : n1 < 4294967296 ∧ n0 < 4294967296 := by
  have h1 := h.hn1; have h0 := h.hn0; have := h.hyt
  omega
theorem lt_cases {a b : Nat} : (decide (a < b) = true ∧ decide ((a : Int) < (b : Int)) = true ∧ a < b) ∨ (decide (a < b) = false ∧ decide ((a : Int) < (b : Int)) = false ∧ ¬ a < b) := by
  by_cases h : a < b
  · exact .inl ⟨decide_eq_true h, decide_eq_true (by omega), h⟩
  · exact .inr ⟨decide_eq_false h, decide_eq_false (by omega), h⟩
theorem great_cases (a : Nat) : (decide ((4294967296 : Int) ≤ (a : Int)) = true ∧ decide ((4294967296 : Nat) ≤ a) = true ∧ 4294967296 ≤ a) ∨ (decide ((4294967296 : Int) ≤ (a : Int)) = false ∧ decide ((4294967296 : Nat) ≤ a) = false ∧ ¬ 4294967296 ≤ a) := by
  by_cases h : 4294967296 ≤ a
  · exact .inl ⟨decide_eq_true (by omega), decide_eq_true h, h⟩
  · exact .inr ⟨decide_eq_false (by omega), decide_eq_false h, h⟩
/-- The guess is not the digit: one less, and either it is the digit or it is looked at again. -/
theorem digit_less {U Y d n1 n0 q g r : Nat} (h : DigitOf U Y d n1 n0 q) (hg : Guess U Y d g r) (hb : 4294967296 ≤ g ∨ r * 4294967296 + d < g * n0) :
    1 ≤ g ∧ (4294967296 ≤ r + n1 → g - 1 = q) ∧ (¬ 4294967296 ≤ r + n1 → Guess U Y d (g - 1) (r + n1)) := by
  have hl : (U * 4294967296 + d) / Y ≤ g - 1 ∧ 1 ≤ g := by
    rcases hb with hb | hb
    · exact guess_high hg h.hu h.hd hb
    · exact guess_more hg h.hu (by rw [← h.hn0]; exact hb)
  refine ⟨hl.2, fun hr => ?_, fun hr => ?_⟩
  · rw [h.hq]; exact guess_stop hg (Nat.lt_of_lt_of_le (by omega) h.hy) hl.1 hl.2 (by rw [← h.hn1]; exact hr)
  · rw [h.hn1]; exact guess_next hg hl.1 hl.2 (by rw [← h.hn1]; omega)
theorem digit_is {U Y d n1 n0 q g r : Nat} (h : DigitOf U Y d n1 n0 q) (hg : Guess U Y d g r) (hb : ¬ r * 4294967296 + d < g * n0) : g = q := by
  rw [h.hq]; exact guess_good hg (Nat.lt_of_lt_of_le (by omega) h.hy) (by rw [← h.hn0]; exact hb)
set_option maxHeartbeats 4000000 in
set_option maxRecDepth 100000 in
theorem div64_core (h l y s Y n1 n0 H t M U V d1 d0 g0 p0 r0 q1 a1 a2 a3 r1 g1 p1 z1 q0 b1 b2 b3 b4 c1 Q R : Nat) (hh : 0 < h) (hy : h < y)
    (CL : Hid (∀ w, Calls Tryd.prog 77 #[.int .u64 (y : Int)] w fun e w' => e = .returned (.int .i64 (s : Int)) ∧ w = w'))
    (es : IntKind.u64.wrap (s : Int) = (s : Int)) (em : min s 64 = s) (et : IntKind.u64.wrap (64 - (s : Int)) = (t : Int)) (en : min t 64 = t)
    (eY : IntKind.u64.wrap ((y : Int) * 2 ^ s) = (Y : Int)) (e1 : (Y : Int) / 4294967296 = (n1 : Int)) (e0 : bits .and .u64 (Y : Int) 4294967295 = (n0 : Int))
    (eH : IntKind.u64.wrap ((h : Int) * 2 ^ s) = (H : Int)) (eM : (l : Int) / 2 ^ t = (M : Int)) (eU : bits .or .u64 (H : Int) (M : Int) = (U : Int))
    (eV : IntKind.u64.wrap ((l : Int) * 2 ^ s) = (V : Int)) (ed1 : (V : Int) / 4294967296 = (d1 : Int)) (ed0 : bits .and .u64 (V : Int) 4294967295 = (d0 : Int))
    (D0 : Hid (DivIs U n1 g0)) (ep0 : IntKind.u64.wrap ((g0 : Int) * (n1 : Int)) = (p0 : Int)) (er0 : IntKind.u64.wrap ((U : Int) - (p0 : Int)) = (r0 : Int))
    (G0 : Hid (Guess U Y d1 g0 r0)) (O1 : Hid (DigitOf U Y d1 n1 n0 q1))
    (f1 : IntKind.u64.wrap ((U : Int) * 4294967296) = (a1 : Int)) (f2 : IntKind.u64.wrap ((a1 : Int) + (d1 : Int)) = (a2 : Int)) (f3 : IntKind.u64.wrap ((q1 : Int) * (Y : Int)) = (a3 : Int)) (f4 : IntKind.u64.wrap ((a2 : Int) - (a3 : Int)) = (r1 : Int))
    (D1 : Hid (DivIs r1 n1 g1)) (f5 : IntKind.u64.wrap ((g1 : Int) * (n1 : Int)) = (p1 : Int)) (f6 : IntKind.u64.wrap ((r1 : Int) - (p1 : Int)) = (z1 : Int))
    (G1 : Hid (Guess r1 Y d0 g1 z1)) (O2 : Hid (DigitOf r1 Y d0 n1 n0 q0))
    (f7 : IntKind.u64.wrap ((q1 : Int) * 4294967296) = (b1 : Int)) (f8 : IntKind.u64.wrap ((b1 : Int) + (q0 : Int)) = (Q : Int)) (f9 : IntKind.u64.wrap ((r1 : Int) * 4294967296) = (b2 : Int)) (f10 : IntKind.u64.wrap ((b2 : Int) + (d0 : Int)) = (b3 : Int))
    (f11 : IntKind.u64.wrap ((q0 : Int) * (Y : Int)) = (b4 : Int)) (f12 : IntKind.u64.wrap ((b3 : Int) - (b4 : Int)) = (c1 : Int)) (f13 : (c1 : Int) / 2 ^ s = (R : Int))
    (w : World) :
    Calls Tryd.prog 55 #[.int .u64 (h : Int), .int .u64 (l : Int), .int .u64 (y : Int)] w fun e w' => e = .returned (.tuple #[.int .u64 (Q : Int), .int .u64 (R : Int)]) ∧ w = w' := by
  have F1 := Lib.hid f1; have F2 := Lib.hid f2; have F3 := Lib.hid f3; have F4 := Lib.hid f4; have F5 := Lib.hid f5; have F6 := Lib.hid f6; have F7 := Lib.hid f7
  have F8 := Lib.hid f8; have F9 := Lib.hid f9; have F10 := Lib.hid f10; have F11 := Lib.hid f11; have F12 := Lib.hid f12; have F13 := Lib.hid f13; have EM := Lib.hid em; have ES := Lib.hid es
  clear f1 f2 f3 f4 f5 f6 f7 f8 f9 f10 f11 f12 f13
  have y1 : (0 : Int) < (y : Int) := by omega
  have y3 : ¬ (y : Int) = 0 := by omega
  have y4 : ¬ y = 0 := by omega
  have y5 : (h : Int) < (y : Int) := by omega
  have y6 : decide ((y : Int) ≤ (h : Int)) = false := by simp; omega
  have y7 : decide (y ≤ h) = false := by simp; omega
  have y8 : (0 : Int) < (h : Int) := by omega
  have y9 : ¬ h = 0 := by omega
  have k1 := D0.out.a; have k2 := D0.out.b; have k3 := D0.out.c; have k4 := D0.out.d; have k5 := D0.out.e
  have k6 : (0 : Int) < (n1 : Int) := by omega
  have k7 : ¬ n1 = 0 := by omega
  go_enter Tryd.func55, Tryd.ntmps55
  go_upto_block 0 with (refine (CL.out _).mono ?_; rintro e w' ⟨rfl, rfl⟩)
  clear es em et en eY e1 e0 eH eM eU eV ed1 ed0 ep0 er0 y1 y3 y4 y5 y6 y7 y8 y9 k1 k2 k3 k4 hh hy
  go_cut [15, 16] (fun v15 _ wx => wx = w ∧ v15 = .int .u64 (q1 : Int))
  case first =>
    go_wp2_with fail
    go_loopw [15, 16] (fun v15 v16 wr => wr = w ∧ ∃ g r : Nat, v15 = .int .u64 (g : Int) ∧ v16 = .int .u64 (r : Int) ∧ Guess U Y d1 g r) (fun v15 _ _ => (intOf v15).toNat)
    case atStart => exact ⟨rfl, g0, r0, rfl, rfl, G0.out⟩
    case round =>
      obtain ⟨rfl, g, r, rfl, rfl, hG⟩ := hrel
      have HG := Lib.hid hG
      have hb := O1.out.bounds
      have hdd := O1.out.hd
      obtain ⟨-, -, hg2, hr2⟩ := hG
      rcases great_cases g with ⟨t1, t1n, hK⟩ | ⟨t1, t1n, hK⟩
      · obtain ⟨hg1, hstop, hnext⟩ := digit_less O1.out HG.out (.inl hK)
        obtain ⟨-, -, -, x4, x5⟩ := RoundIs.of hg2 hg1 hr2 hb.1 hb.2 hdd
        have HST := Lib.hid hstop
        have HNX := Lib.hid hnext
        have HG1 := Lib.hid hg1
        rcases great_cases (r + n1) with ⟨t2, t2n, hR⟩ | ⟨t2, t2n, hR⟩
        · have HE := Lib.hid (HST.out hR)
          clear hR hK hstop hnext hg1 hg2 hr2 hb hdd
          generalize g - 1 = g' at *
          generalize r + n1 = r' at *
          go_wp2_with fail
          go_meet
          exact ⟨rfl, by rw [HE.out]⟩
        · have HE := Lib.hid (HNX.out hR)
          have HM : Hid (g - 1 < g) := Nat.sub_lt hg1 (by omega)
          clear hR hK hstop hnext hg1 hg2 hr2 hb hdd
          generalize g - 1 = g' at *
          generalize r + n1 = r' at *
          go_wp2_with fail
          go_roundw
          case rel => exact ⟨trivial, g', r', rfl, rfl, HE.out⟩
          case measure => simp [intOf]; exact HM.out
      · rcases lt_cases (a := r * 4294967296 + d1) (b := g * n0) with ⟨t3, t3i, hT⟩ | ⟨t3, t3i, hT⟩
        · obtain ⟨hg1, hstop, hnext⟩ := digit_less O1.out HG.out (.inr hT)
          obtain ⟨x1, x2, x3, x4, x5⟩ := RoundIs.of hg2 hg1 hr2 hb.1 hb.2 hdd
          have HST := Lib.hid hstop
          have HNX := Lib.hid hnext
          rcases great_cases (r + n1) with ⟨t2, t2n, hR⟩ | ⟨t2, t2n, hR⟩
          · have HE := Lib.hid (HST.out hR)
            clear hR hK hT hstop hnext hg1 hg2 hr2 hb hdd HG
            generalize g - 1 = g' at *
            generalize r + n1 = r' at *
            generalize r * 4294967296 + d1 = e' at *
            generalize r * 4294967296 = c' at *
            generalize g * n0 = a' at *
            go_wp2_with fail
            go_meet
            exact ⟨rfl, by rw [HE.out]⟩
          · have HE := Lib.hid (HNX.out hR)
            have HM : Hid (g - 1 < g) := Nat.sub_lt hg1 (by omega)
            clear hR hK hT hstop hnext hg1 hg2 hr2 hb hdd HG
            generalize g - 1 = g' at *
            generalize r + n1 = r' at *
            generalize r * 4294967296 + d1 = e' at *
            generalize r * 4294967296 = c' at *
            generalize g * n0 = a' at *
            go_wp2_with fail
            go_roundw
            case rel => exact ⟨trivial, g', r', rfl, rfl, HE.out⟩
            case measure => simp [intOf]; exact HM.out
        · have HE := Lib.hid (digit_is O1.out HG.out hT)
          by_cases hg1 : 1 ≤ g
          · obtain ⟨x1, x2, x3, x4, x5⟩ := RoundIs.of hg2 hg1 hr2 hb.1 hb.2 hdd
            clear hK hT hg1 hg2 hr2 hb hdd HG x4 x5
            generalize r * 4294967296 + d1 = e' at *
            generalize r * 4294967296 = c' at *
            generalize g * n0 = a' at *
            go_wp2_with fail
            go_meet
            exact ⟨rfl, by rw [HE.out]⟩
          · obtain rfl : g = 0 := by omega
            obtain ⟨-, x2, x3, -, -⟩ := RoundIs.of (g := 1) (by omega) (Nat.le_refl _) hr2 hb.1 hb.2 hdd
            have x1 : IntKind.u64.wrap (((0 : Nat) : Int) * (n0 : Int)) = ((0 * n0 : Nat) : Int) := by simp [IntKind.wrap_u64]
            clear hK hT hg1 hg2 hr2 hb hdd HG
            generalize r * 4294967296 + d1 = e' at *
            generalize r * 4294967296 = c' at *
            generalize hz : 0 * n0 = a' at *
            generalize 0 = g at *
            clear hz
            go_wp2_with fail
            go_meet
            exact ⟨rfl, by rw [HE.out]⟩
  case rest =>
    obtain ⟨rfl, rfl⟩ := hcut
    have f1 := F1.out; have f2 := F2.out; have f3 := F3.out; have f4 := F4.out; have f5 := F5.out; have f6 := F6.out
    have k1 := D1.out.a; have k2 := D1.out.b; have k3 := D1.out.c; have k4 := D1.out.d
    go_upto_block 2 with fail
    clear f1 f2 f3 f4 f5 f6 k1 k2 k3 k4
    go_cut [18, 16] (fun v18 _ wx => wx = wc ∧ v18 = .int .u64 (q0 : Int))
    case first =>
      go_wp2_with fail
      go_loopw [18, 16] (fun v18 v16 wr => wr = wc ∧ ∃ g r : Nat, v18 = .int .u64 (g : Int) ∧ v16 = .int .u64 (r : Int) ∧ Guess r1 Y d0 g r) (fun v18 _ _ => (intOf v18).toNat)
      case atStart => exact ⟨rfl, g1, z1, rfl, rfl, G1.out⟩
      case round =>
        obtain ⟨rfl, g, r, rfl, rfl, hG⟩ := hrel
        have HG := Lib.hid hG
        have hb := O2.out.bounds
        have hdd := O2.out.hd
        obtain ⟨-, -, hg2, hr2⟩ := hG
        rcases great_cases g with ⟨t1, t1n, hK⟩ | ⟨t1, t1n, hK⟩
        · obtain ⟨hg1, hstop, hnext⟩ := digit_less O2.out HG.out (.inl hK)
          obtain ⟨-, -, -, x4, x5⟩ := RoundIs.of hg2 hg1 hr2 hb.1 hb.2 hdd
          have HST := Lib.hid hstop
          have HNX := Lib.hid hnext
          have HG1 := Lib.hid hg1
          rcases great_cases (r + n1) with ⟨t2, t2n, hR⟩ | ⟨t2, t2n, hR⟩
          · have HE := Lib.hid (HST.out hR)
            clear hR hK hstop hnext hg1 hg2 hr2 hb hdd
            generalize g - 1 = g' at *
            generalize r + n1 = r' at *
            go_wp2_with fail
            go_meet
            exact ⟨rfl, by rw [HE.out]⟩
          · have HE := Lib.hid (HNX.out hR)
            have HM : Hid (g - 1 < g) := Nat.sub_lt hg1 (by omega)
            clear hR hK hstop hnext hg1 hg2 hr2 hb hdd
            generalize g - 1 = g' at *
            generalize r + n1 = r' at *
            go_wp2_with fail
            go_roundw
            case rel => exact ⟨trivial, g', r', rfl, rfl, HE.out⟩
            case measure => simp [intOf]; exact HM.out
        · rcases lt_cases (a := r * 4294967296 + d0) (b := g * n0) with ⟨t3, t3i, hT⟩ | ⟨t3, t3i, hT⟩
          · obtain ⟨hg1, hstop, hnext⟩ := digit_less O2.out HG.out (.inr hT)
            obtain ⟨x1, x2, x3, x4, x5⟩ := RoundIs.of hg2 hg1 hr2 hb.1 hb.2 hdd
            have HST := Lib.hid hstop
            have HNX := Lib.hid hnext
            rcases great_cases (r + n1) with ⟨t2, t2n, hR⟩ | ⟨t2, t2n, hR⟩
            · have HE := Lib.hid (HST.out hR)
              clear hR hK hT hstop hnext hg1 hg2 hr2 hb hdd HG
              generalize g - 1 = g' at *
              generalize r + n1 = r' at *
              generalize r * 4294967296 + d0 = e' at *
              generalize r * 4294967296 = c' at *
              generalize g * n0 = a' at *
              go_wp2_with fail
              go_meet
              exact ⟨rfl, by rw [HE.out]⟩
            · have HE := Lib.hid (HNX.out hR)
              have HM : Hid (g - 1 < g) := Nat.sub_lt hg1 (by omega)
              clear hR hK hT hstop hnext hg1 hg2 hr2 hb hdd HG
              generalize g - 1 = g' at *
              generalize r + n1 = r' at *
              generalize r * 4294967296 + d0 = e' at *
              generalize r * 4294967296 = c' at *
              generalize g * n0 = a' at *
              go_wp2_with fail
              go_roundw
              case rel => exact ⟨trivial, g', r', rfl, rfl, HE.out⟩
              case measure => simp [intOf]; exact HM.out
          · have HE := Lib.hid (digit_is O2.out HG.out hT)
            by_cases hg1 : 1 ≤ g
            · obtain ⟨x1, x2, x3, x4, x5⟩ := RoundIs.of hg2 hg1 hr2 hb.1 hb.2 hdd
              clear hK hT hg1 hg2 hr2 hb hdd HG x4 x5
              generalize r * 4294967296 + d0 = e' at *
              generalize r * 4294967296 = c' at *
              generalize g * n0 = a' at *
              go_wp2_with fail
              go_meet
              exact ⟨rfl, by rw [HE.out]⟩
            · obtain rfl : g = 0 := by omega
              obtain ⟨-, x2, x3, -, -⟩ := RoundIs.of (g := 1) (by omega) (Nat.le_refl _) hr2 hb.1 hb.2 hdd
              have x1 : IntKind.u64.wrap (((0 : Nat) : Int) * (n0 : Int)) = ((0 * n0 : Nat) : Int) := by simp [IntKind.wrap_u64]
              clear hK hT hg1 hg2 hr2 hb hdd HG
              generalize r * 4294967296 + d0 = e' at *
              generalize r * 4294967296 = c' at *
              generalize hz : 0 * n0 = a' at *
              generalize 0 = g at *
              clear hz
              go_wp2_with fail
              go_meet
              exact ⟨rfl, by rw [HE.out]⟩
    case rest =>
      obtain ⟨rfl, rfl⟩ := hcut
      have f7 := F7.out; have f8 := F8.out; have f9 := F9.out; have f10 := F10.out; have f11 := F11.out; have f12 := F12.out; have f13 := F13.out
      have em := EM.out
      go_wp2_with fail
      go_ret2
      exact ⟨rfl, rfl⟩
end Go.Proofs.YtkkoefiennccoaaDoor
namespace Go.Proofs.YtkkoefiennccoaaDoor
open Go.RowKit
theorem rest_aux {p d z r : Nat} (h : p + d = z + r) (hr : r < 18446744073709551616) : IntKind.u64.wrap ((((p % 18446744073709551616 + d) % 18446744073709551616 : Nat) : Int) - ((z % 18446744073709551616 : Nat) : Int)) = (r : Int) := by
  rw [IntKind.wrap_u64]
  omega
theorem add_wrap (x d : Nat) : IntKind.u64.wrap (((x : Nat) : Int) + (d : Int)) = (((x + d) % 18446744073709551616 : Nat) : Int) := by rw [addN]; exact wrapM _
theorem mul_wrap (x d : Nat) : IntKind.u64.wrap (((x : Nat) : Int) * (d : Int)) = (((x * d) % 18446744073709551616 : Nat) : Int) := by rw [mulN]; exact wrapM _
theorem mulK_wrap (x : Nat) : IntKind.u64.wrap (((x : Nat) : Int) * 4294967296) = (((x * 4294967296) % 18446744073709551616 : Nat) : Int) := mul_wrap x 4294967296
theorem or_parts {H M s x : Nat} (hH : H = x * 2 ^ s) (hM : M < 2 ^ s) : H ||| M = H + M := by
  subst hH
  rw [Nat.mul_comm, ← Nat.two_pow_add_eq_or_of_lt hM]
theorem shl_val (x s : Nat) : ((x : Int) * 2 ^ s) = ((x * 2 ^ s : Nat) : Int) := by simp
theorem shr_val (x s : Nat) : ((x : Int) / 2 ^ s) = ((x / 2 ^ s : Nat) : Int) := by simp
theorem sub_val {u p : Nat} (h : p ≤ u) (hu : u < 18446744073709551616) : IntKind.u64.wrap ((u : Int) - (p : Int)) = ((u - p : Nat) : Int) := by rw [IntKind.wrap_u64]; omega
theorem split_aux (V U : Nat) : U * 18446744073709551616 + V = U * 18446744073709551616 + V / 4294967296 * 4294967296 + V % 4294967296 := by
  have h := Nat.div_add_mod' V 4294967296
  exact Decidable.byContradiction fun _H => by omega
theorem join_aux {q p : Nat} (hq : q < 4294967296) (hp : p < 4294967296) : (((q * 4294967296 % 18446744073709551616 + p) % 18446744073709551616 : Nat) : Int) = ((q * 4294967296 + p : Nat) : Int) := by omega
theorem div64_pos (h l y : Nat) (h0 : 0 < h) (hh : h < y) (hy : y < 18446744073709551616) (hl : l < 18446744073709551616) (w : World) :
    Calls Tryd.prog 55 #[.int .u64 (h : Int), .int .u64 (l : Int), .int .u64 (y : Int)] w fun e w' => e = .returned (.tuple #[.int .u64 (((h * 18446744073709551616 + l) / y : Nat) : Int), .int .u64 (((h * 18446744073709551616 + l) % y : Nat) : Int)]) ∧ w = w' := by
  obtain ⟨hL, hL1, hY, hYt⟩ := norm_of (y := y) (by omega) hy
  have CL := lead_any y hy
  obtain ⟨s, hs⟩ : ∃ s, s = 64 - Lib.bitLen y := ⟨_, rfl⟩
  rw [← hs] at hY hYt CL
  have hs6 : s ≤ 63 := by omega
  clear hs hL hL1
  have hU := moved_lt (s := s) hh hl (by omega)
  have hmv := moved (h := h) (l := l) (s := s) (by omega)
  have hM : l / 2 ^ (64 - s) < 2 ^ s := by
    have hp : 2 ^ (64 - s) * 2 ^ s = 18446744073709551616 := by rw [← Nat.pow_add, show 64 - s + s = 64 by omega]
    exact Nat.div_lt_of_lt_mul (by rw [hp]; exact hl)
  have hHt : h * 2 ^ s < 18446744073709551616 := Nat.lt_of_le_of_lt (Nat.le_trans (Nat.le_add_right _ _) (Nat.le_of_lt hU)) hYt
  obtain ⟨Y, eY⟩ : ∃ Y, Y = y * 2 ^ s := ⟨_, rfl⟩
  obtain ⟨H, eH⟩ : ∃ H, H = h * 2 ^ s := ⟨_, rfl⟩
  obtain ⟨M, eM⟩ : ∃ M, M = l / 2 ^ (64 - s) := ⟨_, rfl⟩
  obtain ⟨V, eV⟩ : ∃ V, V = l * 2 ^ s % 18446744073709551616 := ⟨_, rfl⟩
  obtain ⟨N, eN⟩ : ∃ N, N = (h * 18446744073709551616 + l) * 2 ^ s := ⟨_, rfl⟩
  have hq : (h * 18446744073709551616 + l) / y = N / Y := by rw [eN, eY, Nat.mul_div_mul_right _ _ (Nat.two_pow_pos s)]
  have hr : (h * 18446744073709551616 + l) % y * 2 ^ s = N % Y := by rw [eN, eY, Nat.mul_mod_mul_right]
  have hr' : N % Y / 2 ^ s = (h * 18446744073709551616 + l) % y := by rw [← hr, Nat.mul_div_cancel _ (Nat.two_pow_pos s)]
  rw [← eY] at hY hYt hU
  rw [← eH, ← eM] at hU hmv
  rw [← eV, ← eN] at hmv
  rw [← eM] at hM
  rw [← eH] at hHt
  have hV : V < 18446744073709551616 := by rw [eV]; exact Nat.mod_lt _ (by omega)
  have o1 := bits_or_u64_nat H M hHt (Nat.lt_of_le_of_lt (Nat.le_trans (Nat.le_add_left _ _) (Nat.le_of_lt hU)) hYt)
  rw [or_parts eH hM] at o1
  obtain ⟨U, eU⟩ : ∃ U, U = H + M := ⟨_, rfl⟩
  rw [← eU] at o1 hU hmv
  have hUt : U < 18446744073709551616 := Nat.lt_trans hU hYt
  have hn1 : 2147483648 ≤ Y / 4294967296 := by omega
  have hy0 : 0 < Y := by omega
  have hd1 : V / 4294967296 < 4294967296 := by omega
  have hd0 : V % 4294967296 < 4294967296 := by omega
  obtain ⟨n1, en1⟩ : ∃ n1, n1 = Y / 4294967296 := ⟨_, rfl⟩
  obtain ⟨n0, en0⟩ : ∃ n0, n0 = Y % 4294967296 := ⟨_, rfl⟩
  obtain ⟨d1, ed1⟩ : ∃ d1, d1 = V / 4294967296 := ⟨_, rfl⟩
  obtain ⟨d0, ed0⟩ : ∃ d0, d0 = V % 4294967296 := ⟨_, rfl⟩
  obtain ⟨q1, eq1⟩ : ∃ q1, q1 = (U * 4294967296 + d1) / Y := ⟨_, rfl⟩
  obtain ⟨r1, er1⟩ : ∃ r1, r1 = (U * 4294967296 + d1) % Y := ⟨_, rfl⟩
  obtain ⟨q0, eq0⟩ : ∃ q0, q0 = (r1 * 4294967296 + d0) / Y := ⟨_, rfl⟩
  obtain ⟨r0, er0⟩ : ∃ r0, r0 = (r1 * 4294967296 + d0) % Y := ⟨_, rfl⟩
  have hr1 : r1 < Y := by rw [er1]; exact Nat.mod_lt _ hy0
  have hr0 : r0 < Y := by rw [er0]; exact Nat.mod_lt _ hy0
  have hd1' : d1 < 4294967296 := by rw [ed1]; exact hd1
  have hd0' : d0 < 4294967296 := by rw [ed0]; exact hd0
  have hq1 : q1 < 4294967296 := by rw [eq1]; exact digit_lt hU hd1'
  have hq0 : q0 < 4294967296 := by rw [eq0]; exact digit_lt hr1 hd0'
  have hN : N = U * 18446744073709551616 + d1 * 4294967296 + d0 := by rw [← hmv, ed1, ed0]; exact split_aux V U
  obtain ⟨t1, t2⟩ := two_digits (y := Y) hy0 hN
  rw [← eq1, ← er1, ← eq0] at t1
  rw [← er1, ← er0] at t2
  have O1 : DigitOf U Y d1 n1 n0 q1 := ⟨hU, hd1', hY, hYt, en1, en0, eq1⟩
  have O2 : DigitOf r1 Y d0 n1 n0 q0 := ⟨hr1, hd0', hY, hYt, en1, en0, eq0⟩
  have G0 := guess_first hY hYt hU hd1'
  have G1 := guess_first hY hYt hr1 hd0'
  rw [← en1] at G0 G1 hn1
  have s1 := digit_rest U Y d1
  have s2 := digit_rest r1 Y d0
  rw [← eq1, ← er1] at s1
  rw [← eq0, ← er0] at s2
  have hn0 : 0 < n1 := by omega
  rw [hq, ← hr', t1, t2]
  exact div64_core h l y s Y n1 n0 H (64 - s) M U V d1 d0 (U / n1) (U / n1 * n1) (U - U / n1 * n1) q1 (U * 4294967296 % 18446744073709551616) ((U * 4294967296 % 18446744073709551616 + d1) % 18446744073709551616) (q1 * Y % 18446744073709551616)
    r1 (r1 / n1) (r1 / n1 * n1) (r1 - r1 / n1 * n1) q0 (q1 * 4294967296 % 18446744073709551616) (r1 * 4294967296 % 18446744073709551616) ((r1 * 4294967296 % 18446744073709551616 + d0) % 18446744073709551616) (q0 * Y % 18446744073709551616) r0 (q1 * 4294967296 + q0) (r0 / 2 ^ s)
    h0 hh CL (wrapN _ (by omega)) (Nat.min_eq_left (by omega)) (by rw [IntKind.wrap_u64]; omega) (Nat.min_eq_left (by omega))
    (by rw [shl_val, ← eY]; exact wrapN _ hYt) (by rw [divN, ← en1]) (by rw [maskN _ hYt, ← en0])
    (by rw [shl_val, ← eH]; exact wrapN _ hHt) (by rw [shr_val, ← eM]) o1
    (by rw [shl_val, wrapM, ← eV]) (by rw [divN, ← ed1]) (by rw [maskN _ hV, ← ed0])
    (DivIs.of rfl hUt hn0) (by rw [mulN]; exact wrapN _ (Nat.lt_of_le_of_lt (Nat.div_mul_le_self _ _) hUt)) (sub_val (Nat.div_mul_le_self _ _) hUt)
    G0 O1 (mulK_wrap U) (add_wrap _ _) (mul_wrap _ _) (rest_aux s1 (Nat.lt_trans hr1 hYt))
    (DivIs.of rfl (Nat.lt_trans hr1 hYt) hn0) (by rw [mulN]; exact wrapN _ (Nat.lt_of_le_of_lt (Nat.div_mul_le_self _ _) (Nat.lt_trans hr1 hYt))) (sub_val (Nat.div_mul_le_self _ _) (Nat.lt_trans hr1 hYt))
    G1 O2 (mulK_wrap q1) (by rw [add_wrap]; exact join_aux hq1 hq0) (mulK_wrap r1) (add_wrap _ _) (mul_wrap _ _) (rest_aux s2 (Nat.lt_trans hr0 hYt)) (by rw [shr_val]) w
theorem div64_any (h l y : Nat) (hh : h < y) (hy : y < 18446744073709551616) (hl : l < 18446744073709551616) (w : World) :
    Calls Tryd.prog 55 #[.int .u64 (h : Int), .int .u64 (l : Int), .int .u64 (y : Int)] w fun e w' => e = .returned (.tuple #[.int .u64 (((h * 18446744073709551616 + l) / y : Nat) : Int), .int .u64 (((h * 18446744073709551616 + l) % y : Nat) : Int)]) ∧ Below w.heap.size w w' := by
  by_cases h0 : h = 0
  · subst h0
    rw [Nat.zero_mul, Nat.zero_add]
    exact div64_low l y _ _ hh ⟨rfl, rfl, hl⟩ w
  · exact (div64_pos h l y (by omega) hh hy hl w).mono fun e w' ⟨he, hw⟩ => ⟨he, hw ▸ Below.refl _ _⟩
end Go.Proofs.YtkkoefiennccoaaDoor
namespace Go.Proofs.YtkkoefiennccoaaDoor
open Go.RowKit
theorem tuple_three {a b c a' b' c' : Value} (h : a = a') (h' : b = b') (h'' : c = c') : Ending.returned (.tuple #[a, b, c]) = .returned (.tuple #[a', b', c']) := by rw [h, h', h'']
set_option maxHeartbeats 1000000 in
theorem div_zero (a : Nat) (w : World) :
    Calls Tryd.prog 32 #[wv a, .int .u64 0] w fun e w' => e = .returned (.tuple #[wv 0, .int .u64 0, .bool false]) ∧ Below w.heap.size w w' := by
  have HE : Hid (Value.agg #[.int .u64 0, .int .u64 0] = wv 0) := rfl
  generalize wv 0 = z at *
  unfold wv
  generalize a / 18446744073709551616 = a1 at *
  generalize a % 18446744073709551616 = a0 at *
  go_enter Tryd.func32, Tryd.ntmps32
  go_wp2_with fail
  refine bodyPost_ret (v := .tuple #[.agg #[.int .u64 0, .int .u64 0], .int .u64 0, .bool false]) (by simp [results, Tryd.results32, go_sem]) rfl ?_
  exact ⟨tuple_three HE.out rfl rfl, ((Below.refl _ _).alloc (Nat.le_refl _) _).alloc (by simp) _⟩
set_option maxHeartbeats 1000000 in
theorem div_any (a b : Nat) (ha : a < 340282366920938463463374607431768211456) (hb : b < 18446744073709551616) (hb0 : 0 < b) (w : World) :
    Calls Tryd.prog 32 #[wv a, .int .u64 (b : Int)] w fun e w' => e = .returned (.tuple #[wv (a / b), .int .u64 ((a % b : Nat) : Int), .bool true]) ∧ Below w.heap.size w w' := by
  obtain ⟨d1, d2⟩ := div_halves (n := a) hb0
  have hlt : a / 18446744073709551616 % b < b := Nat.mod_lt _ hb0
  have ha0 : a % 18446744073709551616 < 18446744073709551616 := Nat.mod_lt _ (by omega)
  have ha1 : a / 18446744073709551616 < 18446744073709551616 := by omega
  have c1 := div64_any (a / 18446744073709551616 % b) (a % 18446744073709551616) b hlt hb ha0
  have hql := quo_lt hlt ha0
  obtain ⟨s, hs⟩ : ∃ s, s = wv (a / b) := ⟨_, rfl⟩
  obtain ⟨o, ho⟩ : ∃ o, o = a % b := ⟨_, rfl⟩
  rw [← hs, ← ho]
  rw [← d2, ← ho] at c1
  unfold wv
  unfold wv at hs
  generalize a / b = q at *
  generalize a / 18446744073709551616 = a1 at *
  generalize a % 18446744073709551616 = a0 at *
  have D := DivIs.of (u := a1) (n := b) rfl ha1 hb0
  have e3 := tmod_val (l := a1) (y := b)
  generalize a1 % b = m at *
  generalize a1 / b = q1 at *
  generalize (m * 18446744073709551616 + a0) / b = q0 at *
  have HS : Hid (Value.agg #[.int .u64 (q1 : Int), .int .u64 (q0 : Int)] = s) := show _ = _ by
    rw [hs]
    exact wv_of (by omega) (by omega)
  obtain ⟨k1, k2, k3, k4, k5⟩ := D
  have k6 : (0 : Int) < (b : Int) := by omega
  have k7 : ¬ b = 0 := by omega
  have C1 := Lib.hid c1
  clear c1 d1 d2 hs ho hlt ha0 ha1 hql ha hb
  go_enter Tryd.func32, Tryd.ntmps32
  go_wp2_with fail
  obtain ⟨W, hW⟩ : ∃ W, W = ((w.alloc (Obj.cells #[.int .u64 (a1 : Int), .int .u64 (a0 : Int)] 29)).alloc (Obj.cells #[.int .u64 0, .int .u64 0] 29)) := ⟨_, rfl⟩
  have B0 : Below w.heap.size w W := by rw [hW]; exact ((Below.refl _ _).alloc (Nat.le_refl _) _).alloc (by simp) _
  obtain ⟨n, hn⟩ : ∃ n, n = w.heap.size := ⟨_, rfl⟩
  have z0 : W.heap.size = n + 2 := by rw [hW, hn]; simp
  have j0 : W.cell? ⟨n, 0, none⟩ = some (.int .u64 (a1 : Int)) := by rw [hW, hn]; simp [go_sem]
  have j1 : W.cell? ⟨n, 1, none⟩ = some (.int .u64 (a0 : Int)) := by rw [hW, hn]; simp [go_sem]
  have kr : Hid (W.heap[n + 1]? = some (.cells #[.int .u64 0, .int .u64 0] 29 (0, 0))) := show _ = _ by
    rw [hW, hn]
    have h := heap_alloc_new (w.alloc (Obj.cells #[.int .u64 (a1 : Int), .int .u64 (a0 : Int)] 29)) (Obj.cells #[.int .u64 0, .int .u64 0] 29)
    simpa using h
  rw [← hW, ← hn]
  clear hW
  have HN := Lib.hid hn
  have HB := Lib.hid B0
  have H0 := Lib.hid z0
  have i0 := cell_regrown j0
  have i1 := cell_regrown j1
  clear hn B0 z0 j0 j1
  have cW : ∀ d os, Calls Tryd.prog 55 #[.int .u64 (m : Int), .int .u64 (a0 : Int), .int .u64 (b : Int)] (Sort.grow (redrawn W d) os) fun x w'' => x = .returned (.tuple #[.int .u64 (q0 : Int), .int .u64 (o : Int)]) ∧ ∃ p : Regrown, w'' = Sort.grow (redrawn W p.d) p.os :=
    fun d os => Calls.regrown_of (C1.out _)
  refine wp_region_quiet_below (by kernel_rfl) (by kernel_rfl) ?_
  repeat (go_big_quiet_step (first | exact cW _ _))
  refine wpQuiet_nil ?_
  intro _ hw'
  obtain ⟨⟨dq, osq⟩, hw''⟩ := hw'
  subst hw''
  have B3 := below_regrown W dq osq
  have i2 := i0 dq osq
  generalize Sort.grow (redrawn W dq) osq = V at *
  clear i0 i1 cW
  have HR : Hid (V.heap[n + 1]? = some (.cells #[.int .u64 0, .int .u64 0] 29 (0, 0))) := (B3.block (n + 1) (by have := H0.out; omega)).trans kr.out
  have HBw : Hid (Below w.heap.size w V) := HB.out.trans (B3.mono HB.out.size)
  have hnw : Hid (w.heap.size ≤ n + 1) := show _ ≤ _ by have := HN.out; omega
  have r1 := block_cell HR.out 0
  have r2 := block_cell HR.out 1
  have f1 := block_frozen HR.out 0
  have f2 := block_frozen HR.out 1
  simp at r1 r2
  clear B3
  go_wp2_with fail
  refine bodyPost_ret (results_row3 rfl _ _ (n + 1) _ rfl (load_wide (two_set HR.out))) rfl ?_
  exact ⟨tuple_three HS.out rfl rfl, below_two HBw.out hnw.out _ _⟩
end Go.Proofs.YtkkoefiennccoaaDoor
namespace Go.Proofs.YtkkoefiennccoaaDoor
open Go.RowKit
theorem pow_split {s : Nat} (hs : s ≤ 64) : 2 ^ (64 - s) * 2 ^ s = 18446744073709551616 := by rw [← Nat.pow_add, show 64 - s + s = 64 by omega]
theorem mod_shift {x s : Nat} (hs : s ≤ 64) : x * 2 ^ s % 18446744073709551616 = x % 2 ^ (64 - s) * 2 ^ s := by
  rw [← pow_split hs, Nat.mul_mod_mul_right]
theorem low_lt {l s : Nat} (hs : s ≤ 64) (hl : l < 18446744073709551616) : l / 2 ^ (64 - s) < 2 ^ s :=
  Nat.div_lt_of_lt_mul (by rw [pow_split hs]; exact hl)
theorem mod_two_aux {X V r : Nat} (hV : V < 18446744073709551616) (hr : r = X % 18446744073709551616) :
    (X * 18446744073709551616 + V) % 340282366920938463463374607431768211456 / 18446744073709551616 = r ∧ (X * 18446744073709551616 + V) % 340282366920938463463374607431768211456 % 18446744073709551616 = V := by
  omega
theorem add_small {a b m z : Nat} (hb : b < z) : (a % m * z + b) = (a * z + b) % (m * z) := by
  by_cases hm : m = 0
  · subst hm; simp
  · have hz : 0 < z := by omega
    have h1 : a % m < m := Nat.mod_lt _ (by omega)
    have h2 : (a % m + 1) * z ≤ m * z := Nat.mul_le_mul_right _ h1
    rw [Nat.add_mul] at h2
    have h3 : a * z + b = a % m * z + b + a / m * (m * z) := by
      have h4 := Nat.mod_add_div a m
      have h5 : a * z = (a % m + m * (a / m)) * z := by rw [h4]
      rw [h5, Nat.add_mul, Nat.mul_comm m, Nat.mul_assoc]
      omega
    have h6 : (a % m * z + b + a / m * (m * z)) % (m * z) = a % m * z + b := by rw [Nat.add_mul_mod_self_right]; exact Nat.mod_eq_of_lt (by omega)
    rw [h3]
    exact h6.symm
/-- Moved up by less than 64: the upper half and the lower one. -/
theorem up_parts {a s : Nat} (hs : s ≤ 64) :
    a * 2 ^ s % 340282366920938463463374607431768211456 / 18446744073709551616 = a / 18446744073709551616 * 2 ^ s % 18446744073709551616 + a % 18446744073709551616 / 2 ^ (64 - s) ∧
    a * 2 ^ s % 340282366920938463463374607431768211456 % 18446744073709551616 = a % 18446744073709551616 * 2 ^ s % 18446744073709551616 := by
  have hl : a % 18446744073709551616 < 18446744073709551616 := Nat.mod_lt _ (by omega)
  have h1 := moved (h := a / 18446744073709551616) (l := a % 18446744073709551616) hs
  rw [Nat.div_add_mod'] at h1
  rw [← h1]
  refine mod_two_aux (Nat.mod_lt _ (by omega)) ?_
  rw [mod_shift hs, add_small (low_lt hs hl), pow_split hs]
theorem up_or {x l s : Nat} (hs : s ≤ 64) (hl : l < 18446744073709551616) : (x * 2 ^ s % 18446744073709551616) ||| (l / 2 ^ (64 - s)) = x * 2 ^ s % 18446744073709551616 + l / 2 ^ (64 - s) :=
  or_parts (mod_shift hs) (low_lt hs hl)
theorem up_far {a j : Nat} :
    a * 2 ^ (64 + j) % 340282366920938463463374607431768211456 / 18446744073709551616 = a % 18446744073709551616 * 2 ^ j % 18446744073709551616 ∧
    a * 2 ^ (64 + j) % 340282366920938463463374607431768211456 % 18446744073709551616 = 0 := by
  have e : a * 2 ^ (64 + j) = a * 2 ^ j * 18446744073709551616 + 0 := by
    have p : (2 : Nat) ^ 64 = 18446744073709551616 := by decide
    rw [Nat.pow_add, p, Nat.mul_comm 18446744073709551616, ← Nat.mul_assoc, Nat.add_zero]
  rw [e]
  refine mod_two_aux (by omega) ?_
  rw [Nat.mod_mul_mod]
theorem down_parts {a s : Nat} (hs : s ≤ 64) :
    a / 2 ^ s / 18446744073709551616 = a / 18446744073709551616 / 2 ^ s ∧
    a / 2 ^ s % 18446744073709551616 = a / 18446744073709551616 * 2 ^ (64 - s) % 18446744073709551616 + a % 18446744073709551616 / 2 ^ s := by
  have hl : a % 18446744073709551616 < 18446744073709551616 := Nat.mod_lt _ (by omega)
  refine ⟨by rw [Nat.div_div_eq_div_mul, Nat.div_div_eq_div_mul, Nat.mul_comm], ?_⟩
  have hp : 2 ^ s * 2 ^ (64 - s) = 18446744073709551616 := by rw [Nat.mul_comm]; exact pow_split hs
  have h1 := Nat.div_add_mod' a 18446744073709551616
  have h2 : a / 2 ^ s = a / 18446744073709551616 * 2 ^ (64 - s) + a % 18446744073709551616 / 2 ^ s := by
    have e : a = a % 18446744073709551616 + a / 18446744073709551616 * 2 ^ (64 - s) * 2 ^ s := by
      rw [Nat.mul_assoc, pow_split hs]
      omega
    have h3 := (div_of (Nat.two_pow_pos s) e).1
    exact h3
  rw [h2]
  have h4 : a % 18446744073709551616 / 2 ^ s < 2 ^ (64 - s) := Nat.div_lt_of_lt_mul (by rw [hp]; exact hl)
  have h5 := add_small (a := a / 18446744073709551616) (m := 2 ^ s) h4
  rw [hp] at h5
  rw [← h5, ← hp, Nat.mul_mod_mul_right]
theorem down_or {x l s : Nat} (hs : s ≤ 64) (hl : l < 18446744073709551616) : (l / 2 ^ s) ||| (x * 2 ^ (64 - s) % 18446744073709551616) = x * 2 ^ (64 - s) % 18446744073709551616 + l / 2 ^ s := by
  have h := up_or (x := x) (l := l) (s := 64 - s) (by omega) hl
  rw [show 64 - (64 - s) = s by omega] at h
  rw [Nat.or_comm]
  exact h
theorem down_far {a j : Nat} (ha : a < 340282366920938463463374607431768211456) : a / 2 ^ (64 + j) / 18446744073709551616 = 0 ∧ a / 2 ^ (64 + j) % 18446744073709551616 = a / 18446744073709551616 / 2 ^ j := by
  have e : a / 2 ^ (64 + j) = a / 18446744073709551616 / 2 ^ j := by rw [Nat.pow_add, ← Nat.div_div_eq_div_mul]
  have h1 : a / 18446744073709551616 / 2 ^ j < 18446744073709551616 := Nat.lt_of_le_of_lt (Nat.div_le_self _ _) (by omega)
  rw [e]
  exact ⟨Nat.div_eq_of_lt h1, Nat.mod_eq_of_lt h1⟩
/-- How far a number is moved. -/
def far (n : Int) : Nat := min n.toNat 128
theorem far_neg {n : Int} (h : n ≤ 0) : far n = 0 := by unfold far; omega
theorem far_low {n : Int} {s : Nat} (h : n = (s : Int)) (hs : s < 64) : far n = s := by unfold far; omega
theorem far_high {n : Int} {s : Nat} (h : n = (s : Int)) (hs : 64 ≤ s) : far n = 64 + min (s - 64) 64 := by unfold far; omega
theorem subI {s : Nat} (hs : s ≤ 64) : IntKind.i64.wrap (64 - (s : Int)) = ((64 - s : Nat) : Int) ∧ wrap64 (64 - (s : Int)) = ((64 - s : Nat) : Int) ∧ (64 - (s : Int)) = ((64 - s : Nat) : Int) := by
  rw [IntKind.wrap_i64]
  unfold wrap64
  omega
/-- The cells of what was boxed, and of the result. -/
theorem box_two (w : World) (x y : Value) (t : TypeId) (V : World) (hV : V = (w.alloc (Obj.cells #[x, y] t)).alloc (Obj.cells #[.int .u64 0, .int .u64 0] t)) (n : Nat) (hn : n = w.heap.size) :
    Below w.heap.size w V ∧ V.heap.size = n + 2 ∧ V.cell? ⟨n, 0, none⟩ = some x ∧ V.cell? ⟨n, 1, none⟩ = some y ∧ V.heap[n + 1]? = some (.cells #[.int .u64 0, .int .u64 0] t (0, 0)) := by
  subst hV hn
  refine ⟨((Below.refl _ _).alloc (Nat.le_refl _) _).alloc (by simp) _, by simp, by simp [go_sem], by simp [go_sem], ?_⟩
  have h := heap_alloc_new (w.alloc (Obj.cells #[x, y] t)) (Obj.cells #[.int .u64 0, .int .u64 0] t)
  simpa using h
theorem max_cases (n : Int) : ∃ s : Nat, (if n < 0 then 0 else n) = (s : Int) ∧ far n = far (s : Int) := by
  by_cases h : n < 0
  · exact ⟨0, by rw [if_pos h]; rfl, by rw [far_neg (by omega)]; rfl⟩
  · exact ⟨n.toNat, by rw [if_neg h]; omega, by rw [Int.toNat_of_nonneg (by omega)]⟩
end Go.Proofs.YtkkoefiennccoaaDoor
