/-
  The law CurSets, walked: it returns true and writes nothing that was there; for every slice of bytes, every int and every struct.
-/
import Derived.Test.YtfmkccimpmjmiaaBackWalk
namespace Go.Proofs.Ytfmkccimpmjmiaa
open Go.RowKit

theorem over_take (bs : List UInt8) (a : Nat) (l : List UInt8) (h : a ≤ bs.length) : (over bs a l).take a = bs.take a := by
  unfold over
  rw [List.append_assoc, List.take_left' (by simp; omega)]
theorem over_drop (bs : List UInt8) (a : Nat) (l : List UInt8) (h : a + l.length ≤ bs.length) : (over bs a l).drop (a + l.length) = bs.drop (a + l.length) := by
  unfold over
  rw [List.drop_left' (by simp; omega)]
theorem over_mid (bs : List UInt8) (a : Nat) (l : List UInt8) (h : a ≤ bs.length) : ((over bs a l).drop a).take l.length = l := by
  unfold over
  rw [List.append_assoc, List.drop_left' (by simp; omega), List.take_left' rfl]

theorem run_string_empty {P : Program} {w : World} (src dst e : TypeId) (hs : P.underlying src = some (.slice e)) (he : P.underlying e = some (.int .u8)) (hd : P.underlying dst = some .string) (A : Option Addr) (c : Nat) :
    (convert src dst (.slice A 0 c)).run P w = .ok (.string ⟨([] : List UInt8).toArray⟩) w :=
  run_string src dst e hs he hd (Held.nothing (M := fun _ => True) rfl) c

/-- When the law has nothing to say. -/
def SetsOut (len : Nat) (a n : Int) : Prop := 200 < len ∨ n < 1 ∨ 8 < n ∨ a < 0 ∨ (len : Int) - n < a

theorem box_cells {w w1 : World} {t : TypeId} {c0 c1 c2 c3 c4 : Value} (h : Below (w.alloc (.cells #[c0, c1, c2, c3, c4] t)).heap.size (w.alloc (.cells #[c0, c1, c2, c3, c4] t)) w1) :
    w1.cell? ⟨w.heap.size, 1, none⟩ = some c1 ∧ w1.cell? ⟨w.heap.size, 3, none⟩ = some c3 := by
  have hb : w1.heap[w.heap.size]? = some (.cells #[c0, c1, c2, c3, c4] t (0, 0)) := (h.block _ (by simp)).trans (heap_alloc_new w _)
  exact ⟨by rw [block_cell hb]; rfl, by rw [block_cell hb]; rfl⟩

set_option maxHeartbeats 2000000 in
theorem sets_out (a0 : Option Addr) (len cap : Nat) (a n : Int) (c0 c2 c3 c4 : Value) (w : World) (h : SetsOut len a n) :
    Calls Try.prog 6 #[.slice a0 len cap, .int .i64 a, .agg #[c0, .int .i64 n, c2, c3, c4]] w fun e w' => e = .returned (.bool true) ∧ Below w.heap.size w w' := by
  by_cases x1 : 200 < len
  · have d1 : decide ((200 : Int) < (len : Int)) = true := by simp; omega
    clear h
    go_enter Try.func6, Try.ntmps6
    go_wp2_with fail
    refine (awake_any _).mono ?_
    rintro e w1 ⟨rfl, B1⟩
    have hb := box_cells B1
    have b1 := hb.1
    clear hb
    go_wp2_with fail
    go_ret
    exact ⟨rfl, ((Below.refl _ _).alloc (Nat.le_refl _) _).trans (B1.mono (by simp))⟩
  · have d1 : decide ((200 : Int) < (len : Int)) = false := by simp; omega
    by_cases x2 : n < 1
    · have d2 : decide (n < 1) = true := by simp; omega
      clear h
      go_enter Try.func6, Try.ntmps6
      go_wp2_with fail
      refine (awake_any _).mono ?_
      rintro e w1 ⟨rfl, B1⟩
      have hb := box_cells B1
      have b1 := hb.1
      clear hb
      go_wp2_with fail
      go_ret
      exact ⟨rfl, ((Below.refl _ _).alloc (Nat.le_refl _) _).trans (B1.mono (by simp))⟩
    · have d2 : decide (n < 1) = false := by simp; omega
      by_cases x3 : 8 < n
      · have d3 : decide (8 < n) = true := by simp; omega
        clear h
        go_enter Try.func6, Try.ntmps6
        go_wp2_with fail
        refine (awake_any _).mono ?_
        rintro e w1 ⟨rfl, B1⟩
        have hb := box_cells B1
        have b1 := hb.1
        clear hb
        go_wp2_with fail
        go_ret
        exact ⟨rfl, ((Below.refl _ _).alloc (Nat.le_refl _) _).trans (B1.mono (by simp))⟩
      · have d3 : decide (8 < n) = false := by simp; omega
        by_cases x4 : a < 0
        · have d4 : decide (a < 0) = true := by simp; omega
          clear h
          go_enter Try.func6, Try.ntmps6
          go_wp2_with fail
          refine (awake_any _).mono ?_
          rintro e w1 ⟨rfl, B1⟩
          have hb := box_cells B1
          have b1 := hb.1
          clear hb
          go_wp2_with fail
          go_ret
          exact ⟨rfl, ((Below.refl _ _).alloc (Nat.le_refl _) _).trans (B1.mono (by simp))⟩
        · have d4 : decide (a < 0) = false := by simp; omega
          have d5 : decide ((len : Int) - n < a) = true := by unfold SetsOut at h; simp; omega
          have y1 : 1 ≤ n := by omega
          have y2 : n ≤ 8 := by omega
          have y3 : (len : Int) ≤ 200 := by omega
          clear h x2 x3 x1
          go_enter Try.func6, Try.ntmps6
          go_wp2_with fail
          refine (awake_any _).mono ?_
          rintro e w1 ⟨rfl, B1⟩
          have hb := box_cells B1
          have b1 := hb.1
          clear hb
          go_wp2_with fail
          go_ret
          exact ⟨rfl, ((Below.refl _ _).alloc (Nat.le_refl _) _).trans (B1.mono (by simp))⟩

set_option maxHeartbeats 4000000 in
theorem sets_walk (a0 : Option Addr) (len cap : Nat) (bs : List UInt8) (a n x : Nat) (c0 c2 c4 : Value) (w : World) (hh : Held w (· < w.heap.size) a0 len bs) (hcap : len ≤ cap) (hl : len ≤ 200) (h1 : 1 ≤ n) (h8 : n ≤ 8) (han : a + n ≤ len) (hx : x < 18446744073709551616) :
    Calls Try.prog 6 #[.slice a0 len cap, .int .i64 (a : Int), .agg #[c0, .int .i64 (n : Int), c2, .int .u64 (x : Int), c4]] w fun e w' => e = .returned (.bool true) ∧ Below w.heap.size w w' := by
  have HBL := Lib.hid hh.1
  obtain ⟨b, o, rfl, hbw, hcb⟩ := hh.2 (by omega)
  have HH := Lib.hid hh
  clear hh hcb
  have d1 : decide ((200 : Int) < (len : Int)) = false := by simp; omega
  have d2 : decide ((n : Int) < 1) = false := by simp; omega
  have d3 : decide ((8 : Int) < (n : Int)) = false := by simp; omega
  have d4 : decide ((a : Int) < 0) = false := by simp
  have d5 : decide ((len : Int) - (n : Int) < (a : Int)) = false := by simp; omega
  go_enter Try.func6, Try.ntmps6
  go_wp2_with fail
  refine (awake_any _).mono ?_
  rintro e w1 ⟨rfl, B1⟩
  have hb := box_cells B1
  have b1 := hb.1
  obtain ⟨w0, hw0⟩ : ∃ w0, w0 = w.alloc (.cells #[c0, .int .i64 (n : Int), c2, .int .u64 (x : Int), c4] 43) := ⟨_, rfl⟩
  rw [← hw0] at B1
  have hbox : Hid (∀ wz : World, Below w0.heap.size w0 wz → wz.cell? ⟨w.heap.size, 1, none⟩ = some (.int .i64 (n : Int)) ∧ wz.cell? ⟨w.heap.size, 3, none⟩ = some (.int .u64 (x : Int))) := by
    intro wz hz
    subst hw0
    exact box_cells hz
  have hB0 : Hid (∀ wz : World, Below w0.heap.size w0 wz → Below w.heap.size w wz) := by
    intro wz hz
    subst hw0
    exact ((Below.refl _ _).alloc (Nat.le_refl _) _).trans (hz.mono (by simp))
  have hs0 : w.heap.size < w0.heap.size := by rw [hw0]; simp
  clear hb hw0
  go_wp2_with fail
  refine (lay_any _).mono ?_
  rintro e w2 ⟨rfl, he2⟩
  have hW2 : Wr w2 w1.heap.size w1.heap.size (.slice none 0 0) [] := by rw [← he2]; exact Wr.start w1 _ (Nat.le_refl _)
  have B2 : Below w0.heap.size w0 w2 := by rw [← he2]; exact B1.alloc B1.size _
  have HW2 := Lib.hid hW2
  clear hW2 he2 b1
  have hS : Hid (∀ k, k < w0.heap.size → ¬ WrS w1.heap.size (.slice none 0 0) k) := by
    intro k hk e
    rcases e with e | e
    · have := B1.size; omega
    · cases e
  go_wp2_with fail
  refine (raw_any w1.heap.size w1.heap.size _ [] (some ⟨b, o, none⟩) len cap bs w2 (· < w.heap.size) HW2.out (HH.out.keep (fun k hk => (hB0.out w2 B2).block k hk)) (by simp; omega)).mono ?_
  rintro e w3 ⟨rfl, v3, hW3, hk3, hn3⟩
  rw [List.nil_append] at hW3
  have B3 : Below w0.heap.size w0 w3 := B2.trans (hk3.below B2.size hS.out)
  have hv3 : Hid (∀ k, v3.ownBlock = some k → w0.heap.size ≤ k) := fun k e => Nat.le_trans B1.size (hW3.2.1.lt k e).1
  have b3 := (hbox.out w3 B3).1
  have b3' := (hbox.out w3 B3).2
  have HW3 := Lib.hid hW3
  clear hW3 hk3 hn3
  go_wp2_with fail
  refine (set_ok w1.heap.size w1.heap.size v3 bs a x n _ HW3.out hx h1 h8 (by rw [HBL.out]; exact han)).mono ?_
  rintro e w4 ⟨rfl, hW4, hk4⟩
  have B4 : Below w0.heap.size w0 w4 := B3.trans (hk4.below B3.size (fun k hk e => by have := hv3.out k e; omega))
  have hlo : a + (leBytes x n).length ≤ bs.length := by rw [leBytes_length, HBL.out]; exact han
  have hol : (over bs a (leBytes x n)).length = len := by rw [over_length _ _ _ hlo, HBL.out]
  have ho1 := over_take bs a (leBytes x n) (by omega)
  have ho2 := over_drop bs a (leBytes x n) hlo
  have ho3 := over_mid bs a (leBytes x n) (by omega)
  rw [leBytes_length] at ho2 ho3
  obtain ⟨ys, hys⟩ : ∃ ys, ys = over bs a (leBytes x n) := ⟨_, rfl⟩
  rw [← hys] at hW4 hol ho1 ho2 ho3
  have HOL := Lib.hid hol; have HO1 := Lib.hid ho1; have HO2 := Lib.hid ho2; have HO3 := Lib.hid ho3
  have HW4 := Lib.hid hW4
  clear hW4 hk4 hys hol ho1 ho2 ho3 hlo b3 b3'
  go_wp2_with fail
  refine (bytes_any w1.heap.size w1.heap.size v3 ys _ HW4.out).mono ?_
  rw [HOL.out]
  rintro e w5 ⟨rfl, hg5, hb5⟩
  have B5 : Below w0.heap.size w0 w5 := B4.trans (hb5.mono B4.size)
  have h45 : w4.heap.size < w5.heap.size := block_lt hg5
  have HY : Hid (Held w5 (· = w4.heap.size) (some ⟨w4.heap.size, 0, none⟩) len ys) := Held.of_row hg5 HOL.out rfl
  generalize w4.heap.size = g5 at HY h45 ⊢
  clear hg5 hb5 HW4
  have HB5 : Hid (Held w5 (· < w.heap.size) (some ⟨b, o, none⟩) len bs) := HH.out.keep (fun k hk => (hB0.out w5 B5).block k hk)
  have b5 := (hbox.out w5 B5).1
  have b5' := (hbox.out w5 B5).2
  obtain ⟨t1, ht1⟩ : ∃ t : ByteArray, t = ⟨(bs.take a).toArray⟩ := ⟨_, rfl⟩
  obtain ⟨t2, ht2⟩ : ∃ t : ByteArray, t = ⟨(bs.drop (a + n)).toArray⟩ := ⟨_, rfl⟩
  have str : Hid (∀ {wz : World} {M : Nat → Prop} {A : Option Addr} {m : Nat} {zs : List UInt8} (_ : Held wz M A m zs) (c : Nat), (convert 22 9 (.slice A m c)).run Try.prog wz = .ok (.string ⟨zs.toArray⟩) wz) :=
    fun h c => run_string 22 9 5 Try.underlying22 Try.underlying5 Try.underlying9 h c
  have k1 : ∀ c nq : Nat, (convert 22 9 (.slice (some ⟨g5, 0, none⟩) a c)).run Try.prog (w5.drewN nq) = .ok (.string t1) (w5.drewN nq) := by
    intro c nq
    have h := str.out (wz := w5.drewN nq) (HY.out.part (k := 0) (l := a) (by omega) (some ⟨g5, 0, none⟩) (by intro _ b' o' e; rw [e]; rfl)) c
    rw [List.drop_zero, HO1.out, ← ht1] at h
    exact h
  have k2 : ∀ c nq : Nat, (convert 22 9 (.slice (some ⟨b, o, none⟩) a c)).run Try.prog (w5.drewN nq) = .ok (.string t1) (w5.drewN nq) := by
    intro c nq
    have h := str.out (wz := w5.drewN nq) (HB5.out.part (k := 0) (l := a) (by omega) (some ⟨b, o, none⟩) (by intro _ b' o' e; rw [e]; rfl)) c
    rw [List.drop_zero, ← ht1] at h
    exact h
  have hrest : (bs.drop (a + n)).take (len - (a + n)) = bs.drop (a + n) := List.take_of_length_le (by rw [List.length_drop, HBL.out]; omega)
  have k3 : ∀ c nq : Nat, (convert 22 9 (.slice (some ⟨g5, a + n, none⟩) (len - (a + n)) c)).run Try.prog (w5.drewN nq) = .ok (.string t2) (w5.drewN nq) := by
    intro c nq
    have h := str.out (wz := w5.drewN nq) (HY.out.part (k := a + n) (l := len - (a + n)) (by omega) (some ⟨g5, a + n, none⟩) (by intro _ b' o' e; injection e with e; injection e with e1 e2; rw [← e1, ← e2, Nat.zero_add])) c
    rw [HO2.out, hrest, ← ht2] at h
    exact h
  have k4 : ∀ c nq : Nat, (convert 22 9 (.slice (some ⟨b, o + (a + n), none⟩) (len - (a + n)) c)).run Try.prog (w5.drewN nq) = .ok (.string t2) (w5.drewN nq) := by
    intro c nq
    have h := str.out (wz := w5.drewN nq) (HB5.out.part (k := a + n) (l := len - (a + n)) (by omega) (some ⟨b, o + (a + n), none⟩) (by intro _ b' o' e; injection e with e; injection e with e1 e2; rw [← e1, ← e2])) c
    rw [hrest, ← ht2] at h
    exact h
  have k5 : ∀ (A : Option Addr) (c nq : Nat), (convert 22 9 (.slice A 0 c)).run Try.prog (w5.drewN nq) = .ok (.string ⟨([] : List UInt8).toArray⟩) (w5.drewN nq) := fun A c nq =>
    run_string_empty 22 9 5 Try.underlying22 Try.underlying5 Try.underlying9 A c
  clear ht1 ht2 hrest
  have K1 := Lib.hid k1; have K2 := Lib.hid k2; have K3 := Lib.hid k3; have K4 := Lib.hid k4; have K5 := Lib.hid k5
  clear k1 k2 k3 k4 k5
  have s1 : (0 : Int) ≤ (a : Int) + (n : Int) := by omega
  have s2 : (a : Int) + (n : Int) ≤ (len : Int) := by omega
  have s5 : (a : Int) ≤ (len : Int) := by omega
  have s6 : (a : Int) ≤ (cap : Int) := by omega
  have s3 : IntKind.i64.wrap ((a : Int) + (n : Int)) = (a : Int) + (n : Int) := IntWalk.i64_in _ (by omega)
  have s4 : ((a : Int) + (n : Int)).toNat = a + n := by omega
  by_cases hend : len = a + n
  case' pos =>
    by_cases hcl : cap = len
    case' pos =>
      have hcl2 := hcl.symm
      subst hcl2
    case' neg => have hcl' : Hid True := trivial
    all_goals
      have hend' : a + n = len := hend.symm
      have s4' : ((a : Int) + (n : Int)).toNat = len := by omega
      have k1 := K1.out; have k2 := K2.out; have k5 := K5.out
      clear hend s4
      go_wp2_with fail
      go_quiet (fail)
      clear k1 k2 k5 s4' hend'
  case' neg =>
    have hne2 : ¬ cap = a + n := by omega
    have k1 := K1.out; have k2 := K2.out; have k3 := K3.out; have k4 := K4.out
    go_wp2_with fail
    go_quiet (fail)
    clear k1 k2 k3 k4 s4 hne2 hend
  all_goals
    clear s1 s2 s3 s5 s6 b5 b5'
    have hY6 : Held (w5.drewN nq) (· = g5) (some ⟨g5, 0, none⟩) len ys := HY.out
    have B6 : Below w0.heap.size w0 (w5.drewN nq) := ⟨B5.os, B5.tape, B5.output, B5.size, B5.block⟩
    have h46 : g5 < (w5.drewN nq).heap.size := h45
    generalize w5.drewN nq = w6 at hY6 B6 h46 ⊢
    have HY6 := Lib.hid hY6
    clear hY6
    go_wp2_with fail
    refine (new_any (some ⟨g5, 0, none⟩) len len ys w6 (· = g5) HY6.out (by rintro k rfl; exact h46) (by omega)).mono ?_
    rintro e w7 ⟨q, g, rfl, hr7, hb7, hq7, hg7⟩
    have B7 : Below w0.heap.size w0 w7 := B6.trans (hb7.mono B6.size)
    have hqw : w0.heap.size ≤ q := Nat.le_trans B6.size hq7
    have HR7 := Lib.hid hr7
    clear hr7 hb7
    go_wp2_with fail
    refine (take_ok q g ys 0 a w7 HR7.out (by rw [HOL.out]; omega)).mono ?_
    rintro e w8 ⟨ga, rfl, _, _, hR8, hk8⟩
    rw [Nat.zero_add] at hR8
    have B8 : Below w0.heap.size w0 w8 := B7.trans (hk8.below B7.size (by intro k hk e; omega))
    have b8 := (hbox.out w8 B8).1
    have HR8 := Lib.hid hR8
    clear hR8 hk8
    go_wp2_with fail
    refine (rlow_ok q g ys a n w8 HR8.out h1 h8 (by rw [HOL.out]; exact han)).mono ?_
    rw [HO3.out, leNat_leBytes]
    obtain ⟨y, hy⟩ : ∃ y, y = x % 256 ^ n := ⟨_, rfl⟩
    rw [← hy]
    have HY9 := Lib.hid hy
    clear hy
    rintro e w9 ⟨rfl, hr9, hk9⟩
    have B9 : Below w0.heap.size w0 w9 := B8.trans (hk9.below B8.size (by intro k hk e; omega))
    have b9 := (hbox.out w9 B9).1
    have b9' := (hbox.out w9 B9).2
    clear hr9 hk9 b8
    go_wp2_with fail
    go_ret
    refine ⟨congrArg Ending.returned (congrArg Value.bool ?_), hB0.out w9 B9⟩
    rw [room_int x n h8, HY9.out]
    simp

end Go.Proofs.Ytfmkccimpmjmiaa
