/-
  The law CurBack, walked: it returns true and writes nothing that was there; for every slice of numbers and every int.
-/
import Derived.Test.YtfmkccimpmjmiaaAwake
namespace Go.Proofs.Ytfmkccimpmjmiaa
open Go.RowKit

/-- The slice of uint64 that begins at A and is n long reads as the numbers xs. -/
def Nums (w : World) (M : Nat → Prop) (A : Option Addr) (n : Nat) (xs : List Nat) : Prop :=
  xs.length = n ∧ (0 < n → ∃ b o, A = some ⟨b, o, none⟩ ∧ M b ∧ ∀ i, i < n → w.cell? ⟨b, o + i, none⟩ = some (.int .u64 ((xs.getD i 0 : Nat) : Int))) ∧ ∀ i, xs.getD i 0 < 18446744073709551616
theorem Nums.keep {w w' : World} {M : Nat → Prop} {A : Option Addr} {n : Nat} {xs : List Nat} (h : Nums w M A n xs) (hk : ∀ k, M k → w'.heap[k]? = w.heap[k]?) : Nums w' M A n xs :=
  ⟨h.1, fun hn => by
    obtain ⟨b, o, e, hm, hc⟩ := h.2.1 hn
    exact ⟨b, o, e, hm, fun i hi => (World.cell?_of_block (hk b hm)).trans (hc i hi)⟩, h.2.2⟩
theorem IsRow.nums {w : World} {a : Option Addr} {len cap : Nat} {zs : List Int} (h : IsRow .u64 w a len cap zs) : ∃ xs, Nums w (· < w.heap.size) a len xs := by
  rcases h with ⟨rfl, rfl, rfl, rfl⟩ | ⟨x, rfl, hl, hm, hz, hc, hw⟩
  · exact ⟨[], rfl, fun h => absurd h (by omega), fun i => by simp⟩
  · have hb : ∀ i, 0 ≤ zs.getD i 0 ∧ zs.getD i 0 < 18446744073709551616 := fun i => by
      by_cases hi : i < zs.length
      · have h2 := hw (zs.getD i 0) (by simp [List.getD, hi])
        have h3 := Go.bounds_u64 h2
        omega
      · simp [List.getD, List.getElem?_eq_none (by omega : zs.length ≤ i)]
    have hg : ∀ i, i < len → ((zs.take len).map Int.toNat).getD i 0 = (zs.getD i 0).toNat := fun i hi => by
      simp [List.getD, hi, show i < zs.length by omega]
    refine ⟨(zs.take len).map Int.toNat, by simp; omega, fun hn => ?_, fun i => ?_⟩
    · obtain ⟨b, o, sp⟩ := x
      have hsp : sp = none := by
        have := World.cell?_spot (hc 0 (by omega))
        simpa [Addr.add] using this
      subst hsp
      refine ⟨b, o, rfl, World.block_lt_of_cell? w ⟨b, o, none⟩ (by simpa [Addr.add] using hc 0 (by omega)), fun i hi => ?_⟩
      have h1 := hc i (by omega)
      rw [Addr.add_lit] at h1
      rw [h1, hg i hi, Int.toNat_of_nonneg (hb i).1]
    · by_cases hi : i < len
      · rw [hg i hi]
        have := hb i
        omega
      · rw [List.getD, List.getElem?_eq_none (by simp; omega)]
        simp

/-- What the first loop lays. -/
def flat (n : Nat) (xs : List Nat) : List UInt8 := xs.flatMap fun x => leBytes x n ++ beTo x n n
theorem flat_length (n : Nat) (xs : List Nat) : (flat n xs).length = 2 * n * xs.length := by
  induction xs with
  | nil => rfl
  | cons x r ih =>
    simp only [flat, List.flatMap_cons, List.length_append, leBytes_length, beTo_length, List.length_cons] at ih ⊢
    rw [ih, Nat.mul_add]
    omega
theorem flat_append (n : Nat) (a b : List Nat) : flat n (a ++ b) = flat n a ++ flat n b := by simp [flat]
theorem flat_snoc (n : Nat) (xs : List Nat) (j : Nat) (h : j < xs.length) : flat n (xs.take (j + 1)) = flat n (xs.take j) ++ (leBytes (xs.getD j 0) n ++ beTo (xs.getD j 0) n n) := by
  rw [List.take_succ_eq_append_getElem h, flat_append]
  simp [flat, List.getD, h]
theorem flat_at (n : Nat) (xs : List Nat) (j : Nat) (h : j < xs.length) :
    ((flat n xs).drop (2 * n * j)).take n = leBytes (xs.getD j 0) n ∧ ((flat n xs).drop (2 * n * j + n)).take n = beTo (xs.getD j 0) n n := by
  have e : flat n xs = flat n (xs.take j) ++ (leBytes (xs.getD j 0) n ++ (beTo (xs.getD j 0) n n ++ flat n (xs.drop (j + 1)))) := by
    conv => lhs; rw [← List.take_append_drop (j + 1) xs]
    rw [flat_append, flat_snoc n xs j h]
    simp
  have hl : (flat n (xs.take j)).length = 2 * n * j := by rw [flat_length, List.length_take, Nat.min_eq_left (by omega)]
  constructor
  · rw [e, List.drop_left' hl, List.take_left' (leBytes_length _ _)]
  · rw [e, ← List.drop_drop, List.drop_left' hl, List.drop_left' (leBytes_length _ _), List.take_left' (beTo_length _ _ _)]

def BackRel1 (base q : Nat) (w4 : World) (n : Nat) (xs : List Nat) (i : Value) (wr : World) : Prop :=
  ∃ j : Nat, j ≤ xs.length ∧ i = .int .i64 (j : Int) ∧ WrTo base q (.slice none 0 0) w4 (flat n (xs.take j)) wr
def BackRel2 (q g : Nat) (w : World) (n : Nat) (xs : List Nat) (i : Value) (wr : World) : Prop :=
  ∃ j : Nat, j ≤ xs.length ∧ i = .int .i64 (j : Int) ∧ Rd wr q g (flat n xs) (2 * n * j) ∧ Below w.heap.size w wr

/-- The shifts that cut a number to its room. -/
theorem room_cut (x n : Nat) (hn : n ≤ 8) : (x * 2 ^ (64 - 8 * n) % 18446744073709551616) / 2 ^ (64 - 8 * n) = x % 256 ^ n := by
  have e : (18446744073709551616 : Nat) = 2 ^ (8 * n) * 2 ^ (64 - 8 * n) := by rw [← Nat.pow_add, show 8 * n + (64 - 8 * n) = 64 by omega]
  rw [e, Nat.mul_mod_mul_right, Nat.mul_div_cancel _ (Nat.two_pow_pos _), pow_256]

theorem room_int (x n : Nat) (hn : n ≤ 8) : IntKind.u64.wrap ((x : Int) * 2 ^ (64 - 8 * n)) / 2 ^ (64 - 8 * n) = ((x % 256 ^ n : Nat) : Int) := by
  rw [← room_cut x n hn, IntKind.wrap_u64]
  simp

theorem back_out (a0 : Option Addr) (len cap : Nat) (n : Int) (w : World) (h : 50 < len ∨ n < 1 ∨ 8 < n) :
    Calls Try.prog 5 #[.slice a0 len cap, .int .i64 n] w fun e w' => e = .returned (.bool true) ∧ Below w.heap.size w w' := by
  by_cases c1 : 50 < len
  · have d1 : decide ((50 : Int) < (len : Int)) = true := by simp; omega
    clear h
    go_enter Try.func5, Try.ntmps5
    go_wp2_with fail
    refine (awake_any _).mono ?_
    rintro e w1 ⟨rfl, B1⟩
    go_wp2_with fail
    go_ret
    exact ⟨rfl, B1⟩
  · have d1 : decide ((50 : Int) < (len : Int)) = false := by simp; omega
    by_cases c2 : n < 1
    · have d2 : decide (n < 1) = true := by simp; omega
      clear h
      go_enter Try.func5, Try.ntmps5
      go_wp2_with fail
      refine (awake_any _).mono ?_
      rintro e w1 ⟨rfl, B1⟩
      go_wp2_with fail
      go_ret
      exact ⟨rfl, B1⟩
    · have d2 : decide (n < 1) = false := by simp; omega
      have d3 : decide (8 < n) = true := by simp; omega
      clear h
      go_enter Try.func5, Try.ntmps5
      go_wp2_with fail
      refine (awake_any _).mono ?_
      rintro e w1 ⟨rfl, B1⟩
      go_wp2_with fail
      go_ret
      exact ⟨rfl, B1⟩

set_option maxHeartbeats 4000000 in
theorem back_walk (a0 : Option Addr) (len cap : Nat) (xs : List Nat) (n : Nat) (w : World) (hh : Nums w (· < w.heap.size) a0 len xs) (hl : len ≤ 50) (h1 : 1 ≤ n) (h8 : n ≤ 8) :
    Calls Try.prog 5 #[.slice a0 len cap, .int .i64 (n : Int)] w fun e w' => e = .returned (.bool true) ∧ Below w.heap.size w w' := by
  have HH := Lib.hid hh
  have HLen := Lib.hid hh.1
  clear hh
  have d1 : decide ((50 : Int) < (len : Int)) = false := by simp; omega
  have d2 : decide ((n : Int) < 1) = false := by simp; omega
  have d3 : decide ((8 : Int) < (n : Int)) = false := by simp; omega
  go_enter Try.func5, Try.ntmps5
  go_wp2_with fail
  refine (awake_any _).mono ?_
  rintro e w1 ⟨rfl, B1⟩
  go_wp2_with fail
  refine (lay_any _).mono ?_
  rintro e w4 ⟨rfl, he4⟩
  have hW4 : Wr w4 w1.heap.size w1.heap.size (.slice none 0 0) [] := by rw [← he4]; exact Wr.start w1 _ (Nat.le_refl _)
  have B4 : Below w.heap.size w w4 := by rw [← he4]; exact B1.alloc B1.size _
  have HW4 := Lib.hid hW4
  clear hW4 he4
  have hS : Hid (∀ k, k < w.heap.size → ¬ WrS w1.heap.size (.slice none 0 0) k) := by
    intro k hk e
    rcases e with e | e
    · have := B1.size; omega
    · cases e
  go_wp2_with fail
  go_loopw [6] (fun i wr => BackRel1 w1.heap.size w1.heap.size w4 n xs i wr) (fun i _ => len - (intOf i).toNat)
  case atStart => exact ⟨0, Nat.zero_le _, rfl, WrTo.start HW4.out⟩
  case round =>
    obtain ⟨j, hj, rfl, v1, hw1, hk1, hn1⟩ := hrel
    have B5 : Below w.heap.size w wr := B4.trans (hk1.below B4.size hS.out)
    have HW1 := Lib.hid hw1
    have hjl : j ≤ len := by rw [← HLen.out]; exact hj
    clear hw1 hj
    by_cases hlt : j < len
    · obtain ⟨b, o, rfl, hblk, hc⟩ := (HH.out.keep (fun k hk => B5.block k hk)).2.1 (by omega)
      have HBlk := Lib.hid hblk
      clear hblk
      have hx := HH.out.2.2 j
      have hcj := hc j hlt
      obtain ⟨x, ex⟩ : ∃ x, x = xs.getD j 0 := ⟨_, rfl⟩
      rw [← ex] at hx hcj
      have HX := Lib.hid ex
      clear ex hc
      have hfl : Hid ((flat n (xs.take j)).length = 2 * n * j) := show _ = _ by rw [flat_length, List.length_take, HLen.out, Nat.min_eq_left hjl]
      have hsm : 2 * n * j ≤ 16 * 50 := Nat.mul_le_mul (by omega) (by omega)
      go_wp2_with fail
      refine (wlow_ok w1.heap.size w1.heap.size v1 (flat n (xs.take j)) x n _ HW1.out hx h1 h8 (by rw [hfl.out]; omega)).mono ?_
      rintro e w5 ⟨rfl, v5, hw5, hk5, hn5⟩
      have hk15 : WrTo w1.heap.size w1.heap.size (.slice none 0 0) w4 (flat n (xs.take j) ++ leBytes x n) w5 := WrTo.next hk1 hn1 ⟨v5, hw5, hk5, hn5⟩
      obtain ⟨v5', hw5', hk5', hn5'⟩ := hk15
      have B5' : Below w.heap.size w w5 := B4.trans (hk5'.below B4.size hS.out)
      have hcj5 := (World.cell?_of_block (a := ⟨b, o + j, none⟩) (((B5'.block b (HBlk.out)).trans (B5.block b (HBlk.out)).symm))).trans hcj
      have HW5 := Lib.hid hw5'
      clear hw5 hk5 hn5 hw5' hcj
      go_wp2_with fail
      refine (whigh_ok w1.heap.size w1.heap.size v5' (flat n (xs.take j) ++ leBytes x n) x n _ HW5.out hx h1 h8 (by rw [List.length_append, hfl.out, leBytes_length]; omega)).mono ?_
      rintro e w6 ⟨rfl, h6⟩
      have h6' := WrTo.next hk5' hn5' h6
      rw [List.append_assoc, HX.out, ← flat_snoc n xs j (by rw [HLen.out]; exact hlt)] at h6'
      have H6 := Lib.hid h6'
      clear h6 h6'
      go_wp2_with fail
      go_roundw
      case rel => exact ⟨j + 1, by rw [HLen.out]; omega, by go_num, H6.out⟩
      case measure => simp [intOf]; omega
    · have hjn : xs.take j = xs := List.take_of_length_le (by rw [HLen.out]; omega)
      have hfin : Wr wr w1.heap.size w1.heap.size v1 (flat n xs) := by rw [← hjn]; exact HW1.out
      have HF := Lib.hid hfin
      clear hfin hjn
      have hfl : Hid ((flat n xs).length = 2 * n * len) := show _ = _ by rw [flat_length, HLen.out]
      have hsm : 2 * n * len ≤ 16 * 50 := Nat.mul_le_mul (by omega) (by omega)
      go_wp2_with fail
      refine (bytes_any w1.heap.size w1.heap.size v1 (flat n xs) _ HF.out).mono ?_
      rintro e w7 ⟨rfl, hg7, hb7⟩
      have B7 : Below w.heap.size w w7 := B5.trans (hb7.mono B5.size)
      have HG7 : Hid (Held w7 (· = wr.heap.size) (some ⟨wr.heap.size, 0, none⟩) (flat n xs).length (flat n xs)) := Held.of_row hg7 rfl rfl
      have h7 : wr.heap.size < w7.heap.size := block_lt hg7
      clear hg7 hb7
      go_wp2_with fail
      refine (new_any _ _ _ (flat n xs) w7 _ HG7.out (by rintro k rfl; exact h7) (by rw [hfl.out]; omega)).mono ?_
      rintro e w8 ⟨q, g, rfl, hr8, hb8, hq8, hg8⟩
      have B8 : Below w.heap.size w w8 := B7.trans (hb8.mono B7.size)
      have hqw : w.heap.size ≤ q := Nat.le_trans B7.size hq8
      have HR8 := Lib.hid hr8
      clear hr8 hb8
      go_wp2_with fail
      go_loopw [8] (fun i wr => BackRel2 q g w n xs i wr) (fun i _ => len - (intOf i).toNat)
      case atStart => exact ⟨0, Nat.zero_le _, rfl, HR8.out, B8⟩
      case round =>
        obtain ⟨m, hm, rfl, hrm, Bm⟩ := hrel
        have HRm := Lib.hid hrm
        have hml : m ≤ len := by rw [← HLen.out]; exact hm
        clear hrm hm
        by_cases hmt : m < len
        · obtain ⟨b, o, rfl, _, hc⟩ := (HH.out.keep (fun k hk => Bm.block k hk)).2.1 (by omega)
          have hx := HH.out.2.2 m
          have hcj := hc m hmt
          obtain ⟨x, ex⟩ : ∃ x, x = xs.getD m 0 := ⟨_, rfl⟩
          rw [← ex] at hx hcj
          have HX := Lib.hid ex
          clear ex hc
          go_wp2_with fail
          rw [room_int x n h8]
          have hfa := flat_at n xs m (by rw [HLen.out]; exact hmt)
          rw [← HX.out] at hfa
          have hroom : 2 * n * m + 2 * n ≤ 2 * n * len := by
            have : 2 * n * (m + 1) ≤ 2 * n * len := Nat.mul_le_mul_left _ hmt
            rw [Nat.mul_add] at this
            omega
          refine (rlow_ok q g (flat n xs) (2 * n * m) n _ HRm.out h1 h8 (by rw [hfl.out]; omega)).mono ?_
          rw [hfa.1, leNat_leBytes]
          obtain ⟨y, hy⟩ : ∃ y, y = x % 256 ^ n := ⟨_, rfl⟩
          rw [← hy]
          have HY := Lib.hid hy
          have HFA := Lib.hid hfa
          clear hy hfa
          rintro e w9 ⟨rfl, hr9, hk9⟩
          have B9 : Below w.heap.size w w9 := Bm.trans (hk9.below Bm.size (by intro k hk e; omega))
          have HR9 := Lib.hid hr9
          clear hr9 hk9
          go_wp2_with fail
          refine (rhigh_ok q g (flat n xs) (2 * n * m + n) n _ HR9.out h1 h8 (by rw [hfl.out]; omega)).mono ?_
          rw [HFA.out.2, beNat_beTo, ← HY.out]
          rintro e w10 ⟨rfl, hr10, hk10⟩
          have B10 : Below w.heap.size w w10 := B9.trans (hk10.below B9.size (by intro k hk e; omega))
          rw [show 2 * n * m + n + n = 2 * n * (m + 1) by rw [Nat.mul_add]; omega] at hr10
          have HR10 := Lib.hid hr10
          clear hr10 hk10
          go_wp2_with fail
          go_roundw
          case rel => exact ⟨m + 1, by rw [HLen.out]; omega, by go_num, HR10.out, B10⟩
          case measure => simp [intOf]; omega
        · have hmn : m = len := by omega
          have HRf : Hid (Rd wr q g (flat n xs) (2 * n * len)) := by rw [← hmn]; exact HRm.out
          clear hmn
          have hsub : ((flat n xs).length : Int) - ((2 * n * len : Nat) : Int) = 0 := by rw [hfl.out]; omega
          go_wp2_with fail
          refine (left_any q g (flat n xs) (2 * n * len) _ HRf.out).mono ?_
          rw [hsub]
          rintro e w11 ⟨rfl, k, rfl⟩
          clear hsub
          go_wp2_with fail
          refine (at_any q g (flat n xs) (2 * n * len) _ (HRf.out.drewN k)).mono ?_
          rintro e w12 ⟨rfl, rfl⟩
          go_wp2_with fail
          go_ret
          refine ⟨congrArg Ending.returned (congrArg Value.bool ?_), ⟨Bm.os, Bm.tape, Bm.output, Bm.size, Bm.block⟩⟩
          have e : 2 * (n : Int) * (len : Int) = ((2 * n * len : Nat) : Int) := by simp
          rw [e]
          generalize 2 * n * len = t at hsm
          simp only [wrap64]
          rw [beq_iff_eq]
          omega

end Go.Proofs.Ytfmkccimpmjmiaa
