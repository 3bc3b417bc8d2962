/-
  The law CurOwn, walked: it returns true and writes nothing that was there; for every slice of bytes and every byte.
-/
import Derived.Test.YtfmkccimpmjmiaaAwake
namespace Go.Proofs.Ytfmkccimpmjmiaa
open Go.RowKit
attribute [local go_sem ↓] Go.wp_at_zero Go.wp_at_succ

/-- A row of the call's own that holds bytes reads as them, and is one block of cells. -/
theorem own_held {w : World} {base g n cap : Nat} {t : TypeId} {bs : List UInt8} (h : w.ownsRow base t 1 (.slice (some ⟨g, 0, none⟩) n cap) n (cellsOf bs)) :
    Held w (· = g) (some ⟨g, 0, none⟩) n bs ∧ base ≤ g ∧ ∃ cur, w.heap[g]? = some (.cells cur t (0, 0)) ∧ n ≤ cur.size := by
  have hl : bs.length = n := by have := h.1; rw [cellsOf_length] at this; omega
  rcases h.2 with ⟨e, _⟩ | ⟨g', cap', cur, e, hb, hh, hnc, _, hcs, ht⟩
  · cases e
  · injection e with e1 e2 e3
    injection e1 with e1
    injection e1 with e1
    subst e1 e3
    refine ⟨Held.of_block hh (fun i hi => ?_) hl rfl, hb, cur, hh, by omega⟩
    have h1 := cellsOf_get bs i (by omega)
    rw [← ht, List.getElem?_take_of_lt (by omega)] at h1
    simpa using h1

theorem Held.cellAt {w : World} {M : Nat → Prop} {g o n i : Nat} {bs : List UInt8} (h : Held w M (some ⟨g, o, none⟩) n bs) (hi : i < n) : w.cell? ⟨g, o + i, none⟩ = some (.int .u8 ((bs.getD i 0).toNat : Int)) := by
  obtain ⟨b, o', e, _, hc⟩ := h.2 (by omega)
  injection e with e
  injection e with e1 e2
  rw [e1, e2]
  exact hc i hi

theorem str_ne_self (s : ByteArray) : (s.toList != s.toList) = false := by simp

set_option maxHeartbeats 2000000 in
theorem own_walk (a0 : Option Addr) (n cap : Nat) (bs : List UInt8) (by_ : Int) (w : World) (hh : Held w (· < w.heap.size) a0 n bs) :
    Calls Try.prog 7 #[.slice a0 n cap, .int .u8 by_] w fun e w' => e = .returned (.bool true) ∧ Below w.heap.size w w' := by
  obtain ⟨i0, hi0, hz0, hz1, hz2⟩ := info_parts info_u8
  have HZ := Lib.hid hz0; have HI := Lib.hid hi0; have H1 := Lib.hid hz1; have H2 := Lib.hid hz2
  have HH := Lib.hid hh
  clear hh hz0 hi0 hz1 hz2
  by_cases hlo : n < 1
  · have hd : decide ((n : Int) < 1) = true := by simp; omega
    go_enter Try.func7, Try.ntmps7
    go_wp2_with fail
    refine (awake_any _).mono ?_
    rintro e w1 ⟨rfl, B1⟩
    go_wp2_with fail
    go_ret
    exact ⟨rfl, B1⟩
  have hd : decide ((n : Int) < 1) = false := by simp; omega
  by_cases hhi : 100 < n
  · have hd2 : decide ((100 : Int) < (n : Int)) = true := by simp; omega
    go_enter Try.func7, Try.ntmps7
    go_wp2_with fail
    refine (awake_any _).mono ?_
    rintro e w1 ⟨rfl, B1⟩
    go_wp2_with fail
    go_ret
    exact ⟨rfl, B1⟩
  have hd2 : decide ((100 : Int) < (n : Int)) = false := by simp; omega
  go_enter Try.func7, Try.ntmps7
  go_wp2_with fail
  refine (awake_any _).mono ?_
  rintro e w1 ⟨rfl, B1⟩
  have HB : Hid (Held w1 (· < w.heap.size) a0 n bs) := HH.out.keep (fun k hk => B1.block k hk)
  have HA : Hid (Held (w1.alloc (.cells #[] 5)) (· < w.heap.size) a0 n bs) := HB.out.keep (fun k hk => Below.heap_alloc _ _ _ (by have := B1.size; omega))
  have HO : Hid ((w1.alloc (.cells #[] 5)).ownsRow w1.heap.size 5 1 (.slice (some ⟨w1.heap.size, 0, none⟩) 0 0) 0 []) := World.ownsRow_lit w1 #[] 0 (Nat.le_refl _) (Nat.zero_le _) rfl
  have L1 : Hid ((cellsOf bs).length = n) := show _ = _ by rw [cellsOf_length, HH.out.1]
  have L2 : 0 + n ≤ maxLen := by simp only [maxLen]; omega
  have L3 : (0 + n) * 1 ≤ 140737488355328 := by omega
  have hn1 : 1 ≤ n := by omega
  go_wp2_with (first | (at_builtin; refine wpList_append_held _ rfl (.tmp 21) (.tmp 22) 22 rfl w1.heap.size 5 i0 _ 1 Try.underlying22 HI.out HZ.out H1.out H2.out rfl _ 0 [] rfl HO.out a0 n cap (cellsOf bs) rfl L1.out HA.out.cellsAt (cellsOf_one bs) L2 L3 (by simp) ?_))
  intro A2 capx w2 ho2 hg2 ha2
  obtain ⟨gx, rfl⟩ : ∃ gx, A2 = some ⟨gx, 0, none⟩ := by
    rcases ho2.out.2 with ⟨_, e⟩ | ⟨g, cap', cur, e, _⟩
    · omega
    · injection e with e1
      exact ⟨g, e1⟩
  obtain ⟨hx, hgx, cur, hcur, hcn⟩ := own_held ho2.out
  have hgw : w.heap.size ≤ gx := Nat.le_trans B1.size hgx
  have B2 : Below w.heap.size w w2 := (B1.alloc B1.size _).grown hg2 (by have := B1.size; simp; omega) (by intro k hk; cases hk; exact B1.size)
  have HX := Lib.hid hx
  have HC := Lib.hid hcur
  clear hx hcur ho2 hg2 ha2 HA HO
  go_wp2_with fail
  have hgx2 : gx < w2.heap.size := block_lt HC.out
  refine (new_any (some ⟨gx, 0, none⟩) n capx bs w2 (· = gx) HX.out (by rintro k rfl; exact hgx2) (by omega)).mono ?_
  rintro e w3 ⟨q, g, rfl, hr3, hb3, hq3, hg3⟩
  have B3 : Below w.heap.size w w3 := B2.trans (hb3.mono B2.size)
  have hx3 : Held w3 (· = gx) (some ⟨gx, 0, none⟩) n bs := HX.out.keep (by rintro k rfl; exact hb3.block _ hgx2)
  have hc3 : w3.heap[gx]? = some (.cells cur 5 (0, 0)) := (hb3.block _ hgx2).trans HC.out
  have HR3 := Lib.hid hr3; have HX3 := Lib.hid hx3; have HC3 := Lib.hid hc3
  have hs23 := hb3.size
  clear hr3 hx3 hc3 hb3
  go_wp2_with fail
  refine (lay_any _).mono ?_
  rintro e w4 ⟨rfl, he4⟩
  have hW4 : Wr w4 w3.heap.size w3.heap.size (.slice none 0 0) [] := by rw [← he4]; exact Wr.start w3 _ (Nat.le_refl _)
  have hb4 : Below w3.heap.size w3 w4 := by rw [← he4]; exact (Below.refl _ _).alloc (Nat.le_refl _) _
  have B4 : Below w.heap.size w w4 := B3.trans (hb4.mono B3.size)
  have hR4 : Rd w4 q g bs 0 := HR3.out.keep (hb4.block _ HR3.out.lt_q) (hb4.block _ HR3.out.lt_g)
  have hx4 : Held w4 (· = gx) (some ⟨gx, 0, none⟩) n bs := HX3.out.keep (by rintro k rfl; exact hb4.block _ (by omega))
  have hc4 : w4.heap[gx]? = some (.cells cur 5 (0, 0)) := (hb4.block _ (by omega)).trans HC3.out
  have hs34 := hb4.size
  have hq4 : q < w3.heap.size := HR3.out.lt_q
  have hg4 : g < w3.heap.size := HR3.out.lt_g
  have hgn : gx ≠ q ∧ gx ≠ g := ⟨by omega, by omega⟩
  have HW4 := Lib.hid hW4; have HR4 := Lib.hid hR4; have HX4 := Lib.hid hx4; have HC4 := Lib.hid hc4
  have HP := Lib.hid w3.heap.size.le_refl
  clear hW4 hR4 hx4 hc4 HR3 HX3 HC3 hb4 he4
  go_wp2_with fail
  refine (raw_any w3.heap.size w3.heap.size _ [] (some ⟨gx, 0, none⟩) n capx bs w4 (· = gx) HW4.out HX4.out (by simp; omega)).mono ?_
  rintro e w5 ⟨rfl, v5, hW5, hk5, hn5⟩
  rw [List.nil_append] at hW5
  have hS : ∀ k, k < w3.heap.size → ¬ WrS w3.heap.size (.slice none 0 0) k := by
    intro k hk e
    rcases e with e | e
    · omega
    · cases e
  have hb5 : Below w3.heap.size w4 w5 := hk5.below hs34 hS
  have B5 : Below w.heap.size w w5 := B4.trans (hb5.mono B3.size)
  have hR5 : Rd w5 q g bs 0 := HR4.out.keep (hb5.block _ hq4) (hb5.block _ hg4)
  have hx5 : Held w5 (· = gx) (some ⟨gx, 0, none⟩) n bs := HX4.out.keep (by rintro k rfl; exact hb5.block _ (by omega))
  have hc5 : w5.heap[gx]? = some (.cells cur 5 (0, 0)) := (hb5.block _ (by omega)).trans HC4.out
  have hv5 : v5.ownBlock ≠ some gx := by
    intro e
    have := (hW5.2.1.lt gx e).1
    omega
  have hc0 := hx5.cellAt (i := 0) (by omega)
  have f0 := block_frozen hc5 0
  have hlt : (bs.getD 0 0).toNat < 256 := (bs.getD 0 0).toNat_lt
  rw [Nat.add_zero] at hc0
  generalize (bs.getD 0 0).toNat = x0 at hc0 hlt
  have HW5 := Lib.hid hW5; have HR5 := Lib.hid hR5; have HV5 := Lib.hid hv5
  clear hW5 hR5 hx5 hc5 hk5 hn5 hS hb5 hv5 HW4 HR4 HX4 HC4
  go_wp2_with fail
  have hbl : bs.length = n := HH.out.1
  have HBL := Lib.hid hbl
  have hk6 : Kept (· = gx) w5 (w5.setCell ⟨gx, 0, none⟩ (.int .u8 (bits .xor .u8 (x0 : Int) by_))) := (Kept.refl (· = gx) w5).setCell (p := ⟨gx, 0, none⟩) (fun _ => rfl) _
  generalize w5.setCell ⟨gx, 0, none⟩ (.int .u8 (bits .xor .u8 (x0 : Int) by_)) = w6 at hk6 ⊢
  have B6 : Below w.heap.size w w6 := B5.trans (hk6.below B5.size (by intro k hk e; omega))
  have hR6 : Rd w6 q g bs 0 := HR5.out.keep (hk6.block _ HR5.out.lt_q (Ne.symm hgn.1)) (hk6.block _ HR5.out.lt_g (Ne.symm hgn.2))
  have hW6 : Wr w6 w3.heap.size w3.heap.size v5 bs := HW5.out.keep hk6.size (hk6.block _ HW5.out.lt_q (by omega)) (fun k e => hk6.block _ (HW5.out.lt_g e) (fun e' => HV5.out (by rw [← e']; exact e)))
  have HR6 := Lib.hid hR6; have HW6 := Lib.hid hW6
  clear hR6 hW6 hbl HW5 HR5 HV5 hc0 f0 hk6
  refine (take_ok q g bs 0 n w6 HR6.out (by rw [HBL.out]; omega)).mono ?_
  rintro e w7 ⟨ga, rfl, hga, hca, hR7, hk7⟩
  have hd0 : (bs.drop 0).take n = bs := by simp [← HBL.out]
  rw [hd0] at hca
  have B7 : Below w.heap.size w w7 := B6.trans (hk7.below B6.size (by intro k hk e; have := B2.size; omega))
  have hgal : ga < w7.heap.size := block_lt hca
  have hW7 : Wr w7 w3.heap.size w3.heap.size v5 bs := HW6.out.keep hk7.size (hk7.block _ HW6.out.lt_q (by omega)) (fun k e => hk7.block _ (HW6.out.lt_g e) (fun e' => by have := (HW6.out.2.1.lt k e).1; omega))
  have HW7 := Lib.hid hW7; have HCA := Lib.hid hca
  have H37 : Hid (w3.heap.size < w7.heap.size) := hW7.lt_q
  have H57 : Hid (∀ k, v5.ownBlock = some k → k < w7.heap.size) := fun k e => hW7.lt_g e
  clear hW7 hca hR7 hk7 hd0 HR6 HW6
  go_wp2_with fail
  refine (bytes_any w3.heap.size w3.heap.size v5 bs w7 HW7.out).mono ?_
  rintro e w8 ⟨rfl, hg8, hb8⟩
  have B8 : Below w.heap.size w w8 := B7.trans (hb8.mono B7.size)
  have hW8 : Wr w8 w3.heap.size w3.heap.size v5 bs := HW7.out.keep hb8.size (hb8.block _ HW7.out.lt_q) (fun k e => hb8.block _ (HW7.out.lt_g e))
  have hHa : Held w8 (· = ga) (some ⟨ga, 0, none⟩) n bs := Held.of_row ((hb8.block _ hgal).trans HCA.out) HBL.out rfl
  have hHc : Held w8 (· = w7.heap.size) (some ⟨w7.heap.size, 0, none⟩) n bs := Held.of_row hg8 HBL.out rfl
  have hHb : Held w8 (· < w.heap.size) a0 n bs := HH.out.keep (fun k hk => B8.block k hk)
  have sa := run_string (P := Try.prog) 22 9 5 Try.underlying22 Try.underlying5 Try.underlying9 hHa n
  have sb := run_string (P := Try.prog) 22 9 5 Try.underlying22 Try.underlying5 Try.underlying9 hHb cap
  have sc := run_string (P := Try.prog) 22 9 5 Try.underlying22 Try.underlying5 Try.underlying9 hHc n
  have c8 := hHc.cellAt (i := 0) (by omega)
  have f8 := block_frozen hg8 0
  rw [Nat.add_zero] at c8
  have hlt8 : (bs.getD 0 0).toNat < 256 := (bs.getD 0 0).toNat_lt
  generalize (bs.getD 0 0).toNat = x8 at c8 hlt8
  have HW8 := Lib.hid hW8
  have h78 : w7.heap.size < w8.heap.size := block_lt hg8
  rw [HBL.out]
  clear hW8 hHa hHb hHc hg8 hb8 HCA HW7
  go_wp2_with fail
  have hk9 : Kept (· = w7.heap.size) w8 (w8.setCell ⟨w7.heap.size, 0, none⟩ (.int .u8 (bits .xor .u8 (x8 : Int) by_))) := (Kept.refl (· = w7.heap.size) w8).setCell (p := ⟨w7.heap.size, 0, none⟩) (fun _ => rfl) _
  generalize w8.setCell ⟨w7.heap.size, 0, none⟩ (.int .u8 (bits .xor .u8 (x8 : Int) by_)) = w9 at hk9 ⊢
  have B9 : Below w.heap.size w w9 := B8.trans (hk9.below B8.size (by intro k hk e; have := B7.size; omega))
  have h7q : w3.heap.size < w7.heap.size := by
    have h1 := B7.size
    have h2 := H37.out
    omega
  have hW9 : Wr w9.drew w3.heap.size w3.heap.size v5 bs := HW8.out.keep hk9.size (hk9.block _ HW8.out.lt_q (by omega)) (fun k e => hk9.block _ (HW8.out.lt_g e) (fun e' => by have := H57.out k e; omega))
  have sb9 := run_string (P := Try.prog) (w := w9.drew) 22 9 5 Try.underlying22 Try.underlying5 Try.underlying9 (HH.out.keep (fun k hk => B9.block k hk)) cap
  have HW9 := Lib.hid hW9
  clear hW9 hk9 sa sb sc c8 f8
  go_region_law
    (first
      | (go_simp
         go_at_call 27
         refine (bytes_any w3.heap.size w3.heap.size v5 bs _ HW9.out).mono ?_
         rintro e w10 ⟨rfl, hg10, hb10⟩
         have B10 : Below w.heap.size w w10 := B9.drew.trans (hb10.mono B9.size)
         have sc10 : (convert 22 9 (.slice (some ⟨w9.heap.size, 0, none⟩) bs.length bs.length)).run Try.prog w10 = .ok (.string ⟨bs.toArray⟩) w10 := run_string (P := Try.prog) 22 9 5 Try.underlying22 Try.underlying5 Try.underlying9 (Held.of_row (M := fun _ => True) (n := bs.length) (bs := bs) hg10 rfl trivial) bs.length
         have sb10 := run_string (P := Try.prog) 22 9 5 Try.underlying22 Try.underlying5 Try.underlying9 (HH.out.keep (fun k hk => B10.block k hk)) cap
         clear hg10 hb10))
  all_goals
    go_wp2_with fail
    go_ret
    exact ⟨rfl, B10⟩

end Go.Proofs.Ytfmkccimpmjmiaa
