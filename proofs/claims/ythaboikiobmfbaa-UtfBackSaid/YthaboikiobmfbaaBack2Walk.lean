/-
  The law UtfBack, walked: it returns true and writes nothing that was there; for every slice of numbers.
-/
import Derived.Test.YthaboikiobmfbaaAwake2
import Derived.Test.YthaboikiobmfbaaPut
import Derived.Test.YthaboikiobmfbaaOwnRow
namespace Go.Proofs.Ythaboikiobmfbaa
open Go.RowKit

theorem info_b : (Try.prog.info? 5).map (fun i => (i.zero, i.size, i.bytes)) = some (some (.int .u8 0), 1, 1) := by kernel_rfl
theorem info_i : (Try.prog.info? 3).map (fun i => (i.zero, i.size, i.bytes)) = some (some (.int .i64 0), 1, 8) := by kernel_rfl

theorem own_keep {w w' : World} {base n : Nat} {e : TypeId} {v : Value} {zs : List Value} (h : w.ownsRow base e 1 v n zs) (hk : ∀ k, v.ownBlock = some k → w'.heap[k]? = w.heap[k]?) : w'.ownsRow base e 1 v n zs := by
  refine ⟨h.1, ?_⟩
  rcases h.2 with hl | ⟨g, cap, cur, e, hb, hg, hr⟩
  · exact .inl hl
  · exact .inr ⟨g, cap, cur, e, hb, (hk g (by rw [e]; rfl)).trans hg, hr⟩

/-- Characters as numbers of int. -/
def runeInts (ws : List Nat) : List Int := ws.map fun r : Nat => (r : Int)
def runeCells (ws : List Nat) : List Value := intCells (runeInts ws)
theorem runeCells_length (ws : List Nat) : (runeCells ws).length = ws.length := by simp [runeCells, intCells, runeInts]
theorem runeCells_snoc (ws : List Nat) (r : Nat) : runeCells (ws ++ [r]) = runeCells ws ++ [.int .i64 (r : Int)] := by simp [runeCells, intCells, runeInts]
theorem runeInts_get (ws : List Nat) (m : Nat) (h : m < ws.length) : (runeInts ws).getD m 0 = ((ws.getD m 0 : Nat) : Int) := by simp [runeInts, List.getD, h]

/-- Two rows of the call's own, apart: the bytes of the characters ws, and these numbers. -/
def Two (w : World) (base : Nat) (A : Option Addr) (n c : Nat) (A' : Option Addr) (n' c' : Nat) (ws : List Nat) : Prop :=
  w.ownsRow base 5 1 (.slice A n c) n (cellsOf (encs ws)) ∧ w.ownsRow base 3 1 (.slice A' n' c') n' (runeCells ws) ∧
    (∀ k, (Value.slice A n c).ownBlock = some k → (Value.slice A' n' c').ownBlock ≠ some k) ∧ base ≤ w.heap.size
theorem Two.start (w : World) (base : Nat) (h : base ≤ w.heap.size) : Two w base none 0 0 none 0 0 [] :=
  ⟨World.ownsRow_nil _ _ _ _, World.ownsRow_nil _ _ _ _, fun k hk => (by cases hk), h⟩
theorem Two.len {w : World} {base : Nat} {A : Option Addr} {n c : Nat} {A' : Option Addr} {n' c' : Nat} {ws : List Nat} (h : Two w base A n c A' n' c' ws) : n = (encs ws).length ∧ n' = ws.length := by
  have h1 := h.1.1
  have h2 := h.2.1.1
  rw [cellsOf_length] at h1
  rw [runeCells_length] at h2
  omega

def Back1 (w : World) (base : Nat) (xs : List Int) (b v i : Value) (wr : World) : Prop :=
  ∃ (j : Nat) (ws : List Nat) (A : Option Addr) (n c : Nat) (A' : Option Addr) (n' c' : Nat), j ≤ xs.length ∧ ws.length ≤ j ∧ AllRunes ws ∧ i = .int .i64 (j : Int) ∧ b = .slice A n c ∧ v = .slice A' n' c' ∧ Two wr base A n c A' n' c' ws ∧ Below w.heap.size w wr
def Back2 (w : World) (ws : List Nat) (k i : Value) (wr : World) : Prop :=
  ∃ m : Nat, m ≤ ws.length ∧ k = .int .i64 ((encs (ws.take m)).length : Int) ∧ i = .int .i64 (m : Int) ∧ Below w.heap.size w wr

set_option maxHeartbeats 1000000 in
theorem back_out (a0 : Option Addr) (len cap : Nat) (w : World) (h : 200 < len) :
    Calls Try.prog 5 #[.slice a0 len cap] w fun e w' => e = .returned (.bool true) ∧ Below w.heap.size w w' := by
  have d1 : decide ((200 : Int) < (len : Int)) = true := by simp; omega
  go_enter Try.func5, Try.ntmps5
  go_wp2_with fail
  refine (awake_any _).mono ?_
  rintro e w1 ⟨rfl, B1⟩
  go_wp2_with fail
  go_ret
  exact ⟨rfl, B1⟩

theorem AllRunes.snoc {ws : List Nat} {r : Nat} (h : AllRunes ws) (h1 : r ≤ 1114111) (h2 : r < 55296 ∨ 57343 < r) : AllRunes (ws ++ [r]) := by
  intro x hx
  rcases List.mem_append.1 hx with hx | hx
  · exact h x hx
  · obtain rfl := List.mem_singleton.1 hx
    exact ⟨h1, h2⟩

set_option maxHeartbeats 4000000 in
set_option maxRecDepth 100000 in
theorem back_walk (a0 : Option Addr) (len cap : Nat) (xs : List Int) (w : World) (hh : Ints w (· < w.heap.size) a0 len xs) (hl : len ≤ 200) :
    Calls Try.prog 5 #[.slice a0 len cap] w fun e w' => e = .returned (.bool true) ∧ Below w.heap.size w w' := by
  obtain ⟨ib, hib, hbz, hbs, hbb⟩ := info_parts info_b
  obtain ⟨ii, hii, hiz, his, hibb⟩ := info_parts info_i
  have B1I := Lib.hid hib; have B2I := Lib.hid hbz; have B3I := Lib.hid hbs; have B4I := Lib.hid hbb
  have I1I := Lib.hid hii; have I2I := Lib.hid hiz; have I3I := Lib.hid his; have I4I := Lib.hid hibb
  clear hib hbz hbs hbb hii hiz his hibb
  have HH := Lib.hid hh
  have HLen := Lib.hid hh.1
  clear hh
  have d1 : decide ((200 : Int) < (len : Int)) = false := by simp; omega
  go_enter Try.func5, Try.ntmps5
  go_wp2_with fail
  refine (awake_any _).mono ?_
  rintro e w1 ⟨rfl, B1⟩
  have hw1 : w.heap.size ≤ w1.heap.size := B1.size
  go_wp2_with fail
  obtain ⟨base, hbase⟩ : ∃ base, base = w1.heap.size := ⟨_, rfl⟩
  have HBase : Hid (base ≤ w1.heap.size) := show _ ≤ _ by omega
  have hwb : w.heap.size ≤ base := by omega
  clear hbase
  go_loopw [3, 4, 5] (fun b v i wr => Back1 w base xs b v i wr) (fun _ _ i _ => len - (intOf i).toNat)
  case atStart => exact ⟨0, [], none, 0, 0, none, 0, 0, Nat.zero_le _, Nat.le_refl _, (fun r hr => by cases hr), rfl, rfl, rfl, Two.start w1 base HBase.out, B1⟩
  case round =>
    obtain ⟨j, ws, A, n, c, A', n', c', hj, hws, hall, rfl, rfl, rfl, htwo, Br⟩ := hrel
    have HT := Lib.hid htwo
    have HA := Lib.hid hall
    have hjl : j ≤ len := by rw [← HLen.out]; exact hj
    clear htwo hall hj
    by_cases hlt : j < len
    · have d2 : decide ((j : Int) < (len : Int)) = true := by simp; omega
      have d2n : decide (j < len) = true := by simp; omega
      obtain ⟨b, o, rfl, hblk, hc⟩ := (HH.out.keep (fun k hk => Br.block k hk)).2 (by omega)
      have HBlk := Lib.hid hblk
      have hcj := hc j hlt
      clear hblk hc
      obtain ⟨x, hx⟩ : ∃ x, x = xs.getD j 0 := ⟨_, rfl⟩
      rw [← hx] at hcj
      clear hx
      by_cases hr : x < 0 ∨ 1114111 < x ∨ (55296 ≤ x ∧ x ≤ 57343)
      · have HR := Lib.hid hr
        clear hr
        go_wp2_with fail
        refine (put_no x wr HR.out).mono ?_
        rintro e w2 ⟨rfl, rfl⟩
        go_wp2_with fail
        go_roundw
        case rel => exact ⟨j + 1, ws, A, n, c, A', n', c', by rw [HLen.out]; omega, by omega, HA.out, by go_num, rfl, rfl, HT.out, Br⟩
        case measure => simp [intOf]; omega
      · obtain ⟨r, rfl⟩ := Int.eq_ofNat_of_zero_le (show 0 ≤ x by omega)
        have hr1 : r ≤ 1114111 := by omega
        have hr2 : Hid (r < 55296 ∨ 57343 < r) := show _ ∨ _ by omega
        clear hr
        have he := enc_length r
        have hel := encs_length ws
        have hnn := HT.out.len
        have hn1 : n ≤ 800 := by omega
        have hn2 : n' ≤ 200 := by omega
        have hbw := HT.out.2.2.2
        clear hel hnn
        go_wp2_with fail
        refine (put_ok r wr hr1 hr2.out).mono ?_
        rintro e w2 ⟨rfl, hw2⟩
        have B2 : Below w.heap.size w w2 := by rw [hw2]; exact Br.alloc Br.size _
        have hz2 : w2.heap.size = wr.heap.size + 1 := by rw [hw2]; simp
        have hk2 : ∀ k, k < wr.heap.size → w2.heap[k]? = wr.heap[k]? := by rw [hw2]; exact fun k hk => Below.heap_alloc _ _ _ hk
        have HO2 : Hid (w2.ownsRow base 5 1 (.slice A n c) n (cellsOf (encs ws))) := own_keep HT.out.1 (fun k hk => hk2 k (HT.out.1.lt k hk).2)
        have HV2 : Hid (w2.ownsRow base 3 1 (.slice A' n' c') n' (runeCells ws)) := own_keep HT.out.2.1 (fun k hk => hk2 k (HT.out.2.1.lt k hk).2)
        have hg2 : w2.heap[wr.heap.size]? = some (.cells (cellsOf (enc r)).toArray 5 (0, 0)) := by rw [hw2]; exact heap_alloc_new _ _
        have HE2 : Hid (Held w2 (· < w2.heap.size) (some ⟨wr.heap.size, 0, none⟩) (enc r).length (enc r)) := Held.of_row hg2 rfl (block_lt hg2)
        have hAV : ∀ k, (Value.slice A n c).ownBlock = some k → (Value.slice A' n' c').ownBlock ≠ some k := HT.out.2.2.1
        have HAV := Lib.hid hAV
        have hVl : ∀ k, (Value.slice A' n' c').ownBlock = some k → k < wr.heap.size := fun k hk => (HT.out.2.1.lt k hk).2
        have HVl := Lib.hid hVl
        have hw2r : base ≤ w2.heap.size := by omega
        have HZ2 := Lib.hid hz2
        clear hw2 hg2 hk2 HT hAV hVl hz2
        have L1 : Hid ((cellsOf (enc r)).length = (enc r).length) := cellsOf_length _
        have L2 : n + (enc r).length ≤ maxLen := by simp only [maxLen]; omega
        have L3 : (n + (enc r).length) * 1 ≤ 140737488355328 := by omega
        obtain ⟨L, hL⟩ : ∃ L, L = (enc r).length := ⟨_, rfl⟩
        rw [← hL] at L1 L2 L3 HE2 he ⊢
        clear hL
        go_wp2_with (first | (at_builtin; refine wpList_append_held _ rfl (.tmp 34) (.tmp 35) 22 rfl base 5 ib _ 1 Try.underlying22 B1I.out B2I.out B3I.out B4I.out rfl _ n (cellsOf (encs ws)) rfl HO2.out (some ⟨wr.heap.size, 0, none⟩) L L (cellsOf (enc r)) rfl L1.out HE2.out.cellsAt (cellsOf_one _) L2 L3 hw2r ?_))
        intro A3 c3 w3 ho3 hg3 ha3
        have B3 : Below w.heap.size w w3 := B2.grown hg3 B2.size (fun k hk => Nat.le_trans hwb (HO2.out.lt k hk).1)
        have HO3 : Hid (w3.ownsRow base 5 1 (.slice A3 (n + L) c3) (n + L) (cellsOf (encs (ws ++ [r])))) := by
          have := ho3.out
          rw [← cellsOf_append, ← encs_snoc] at this
          exact this
        have HV3 : Hid (w3.ownsRow base 3 1 (.slice A' n' c') n' (runeCells ws)) := own_keep HV2.out (fun k hk => hg3.block k (HV2.out.lt k hk).2 (fun e => HAV.out k e.symm hk))
        have HAV3 : Hid (∀ k, (Value.slice A3 (n + L) c3).ownBlock = some k → (Value.slice A' n' c').ownBlock ≠ some k) := by
          intro k hk
          rcases ha3.out with e | e
          · exact HAV.out k (e.symm.trans hk)
          · rw [e] at hk
            injection hk with hk
            intro hv
            have := HVl.out k hv
            have := HZ2.out
            omega
        have h23 : w2.heap.size ≤ w3.heap.size := hg3.size
        have hcj3 : w3.cell? ⟨b, o + j, none⟩ = some (.int .i64 (r : Int)) := (World.cell?_of_block (a := ⟨b, o + j, none⟩) ((B3.block b HBlk.out).trans (Br.block b HBlk.out).symm)).trans hcj
        have hw3 : base ≤ w3.heap.size := by omega
        clear ho3 hg3 ha3 hcj HO2 HV2 HE2 L1 L2 L3 HAV HVl HZ2
        have M2 : n' + 1 ≤ maxLen := by simp only [maxLen]; omega
        have M3 : (n' + 1) * 8 ≤ 140737488355328 := by omega
        have HV4 : Hid ((w3.alloc (.cells #[.int .i64 (r : Int)] 3)).ownsRow base 3 1 (.slice A' n' c') n' (runeCells ws)) := own_keep HV3.out (fun k hk => Below.heap_alloc _ _ _ (HV3.out.lt k hk).2)
        have hw4 : base ≤ (w3.alloc (.cells #[.int .i64 (r : Int)] 3)).heap.size := by simp; omega
        go_wp2_with (first | (at_builtin; refine wpList_append_held _ rfl (.tmp 37) (.tmp 42) 33 rfl base 3 ii _ 8 Try.underlying33 I1I.out I2I.out I3I.out I4I.out rfl _ n' (runeCells ws) rfl HV4.out (some ⟨w3.heap.size, 0, none⟩) 1 1 [.int .i64 (r : Int)] rfl rfl (fun _ => ⟨_, rfl, cell_one_new _ _ _⟩) (by simp [Value.oneCell']) M2 M3 hw4 ?_))
        intro A5 c5 w5 ho5 hg5 ha5
        have B5 : Below w.heap.size w w5 := (B3.alloc B3.size _).grown hg5 (by have := B3.size; simp; omega) (fun k hk => Nat.le_trans hwb (HV4.out.lt k hk).1)
        have HO5 : Hid (w5.ownsRow base 5 1 (.slice A3 (n + L) c3) (n + L) (cellsOf (encs (ws ++ [r])))) := own_keep HO3.out (fun k hk => (hg5.block k (by have := (HO3.out.lt k hk).2; simp; omega) (fun e => HAV3.out k hk e.symm)).trans (Below.heap_alloc _ _ _ (HO3.out.lt k hk).2))
        have HV5 : Hid (w5.ownsRow base 3 1 (.slice A5 (n' + 1) c5) (n' + 1) (runeCells (ws ++ [r]))) := by
          have := ho5.out
          rw [← runeCells_snoc] at this
          exact this
        have HAV5 : Hid (∀ k, (Value.slice A3 (n + L) c3).ownBlock = some k → (Value.slice A5 (n' + 1) c5).ownBlock ≠ some k) := by
          intro k hk
          rcases ha5.out with e | e
          · rw [e]
            exact HAV3.out k hk
          · rw [e]
            intro hv
            injection hv with hv
            have := (HO3.out.lt k hk).2
            omega
        have hw5 : base ≤ w5.heap.size := by have := hg5.size; omega
        have H5 : Hid (Two w5 base A3 (n + L) c3 A5 (n' + 1) c5 (ws ++ [r])) := ⟨HO5.out, HV5.out, HAV5.out, hw5⟩
        clear ho5 hg5 ha5 HO5 HV5 HAV5 HV4 HAV3 HO3 HV3
        go_wp2_with fail
        go_roundw
        case rel => exact ⟨j + 1, ws ++ [r], A3, n + L, c3, A5, n' + 1, c5, by rw [HLen.out]; omega, by simp; omega, HA.out.snoc hr1 hr2.out, by go_num, rfl, rfl, H5.out, B5⟩
        case measure => simp [intOf]; omega
    · have d2 : decide ((j : Int) < (len : Int)) = false := by simp; omega
      have d2n : decide (j < len) = false := by simp; omega
      obtain ⟨W0, rfl⟩ : ∃ W0, W0 = wr := ⟨_, rfl⟩
      have hnn := HT.out.len
      have hel := encs_length ws
      have hn1 : n ≤ 800 := by omega
      have hn2 : n' ≤ 200 := by omega
      have HN := Lib.hid hnn.1
      have HN' := Lib.hid hnn.2
      have hst := stop_encs ws HA.out
      have HS1 : Hid (stop (encs ws) 0 = n) := show _ = _ by rw [hst.1, HN.out]
      have HS2 : Hid (cnt (encs ws) 0 = n') := show _ = _ by rw [hst.2, HN'.out]
      have HS3 : Hid (wholeB (encs ws) = true) := show _ = _ by unfold wholeB; rw [hst.1]; simp
      have HB : Hid (Held W0 (· < W0.heap.size) A n (encs ws)) := own_bytes HT.out.1
      have HI : Hid (Ints W0 (· < W0.heap.size) A' n' (runeInts ws)) := own_ints HT.out.2.1
      clear hnn hel hst HT
      go_wp2_with fail
      refine (check_any A n c (encs ws) W0 HB.out (by omega)).mono ?_
      rw [HS1.out, HS3.out]
      rintro e w2 ⟨rfl, B2⟩
      go_wp2_with fail
      refine (count_any A n c (encs ws) w2 (HB.out.on B2) (by omega)).mono ?_
      rw [HS2.out]
      rintro e w3 ⟨rfl, B3⟩
      have B3' : Below W0.heap.size W0 w3 := B2.trans (B3.mono B2.size)
      clear B3 B2
      go_wp2_with fail
      go_loopw [10, 11] (fun k i w' => Back2 W0 ws k i w') (fun _ i _ => n' - (intOf i).toNat)
      case atStart => exact ⟨0, Nat.zero_le _, rfl, rfl, B3'⟩
      case round =>
        obtain ⟨m, hm, rfl, rfl, Bm⟩ := hrel
        rw [← HN'.out] at hm
        by_cases hmt : m < n'
        · have d3 : decide ((m : Int) < (n' : Int)) = true := by simp; omega
          have d3n : decide (m < n') = true := by simp; omega
          have hre := rune_encs ws HA.out m (by rw [← HN'.out]; exact hmt)
          obtain ⟨g, o, rfl, hgb, hc⟩ := (HI.out.keep (fun k hk => Bm.block k hk)).2 (by omega)
          have hcm := hc m hmt
          rw [runeInts_get ws m (by rw [← HN'.out]; exact hmt)] at hcm
          have hel := enc_length (ws.getD m 0)
          have hle : (encs (ws.take m)).length ≤ 800 := by
            have := encs_length (ws.take m)
            have := List.length_take_le m ws
            omega
          have HR1 : Hid (runeI (encs ws) (((encs (ws.take m)).length : Nat) : Int) = _) := show _ = _ from (runeI_nat _ _).trans hre.1
          have HR2 := Lib.hid hre.2
          clear hre hc
          generalize ws.getD m 0 = y at hcm hel HR1 HR2
          generalize (encs (ws.take m)).length = t at hle HR1 HR2
          generalize (enc y).length = L at hel HR1 HR2
          go_wp2_with fail
          refine (rune_any A n c (encs ws) (t : Int) wr (HB.out.on Bm) (by omega)).mono ?_
          rw [HR1.out]
          rintro e w4 ⟨rfl, B4⟩
          have B4' : Below W0.heap.size W0 w4 := Bm.trans (B4.mono Bm.size)
          have hcm4 : w4.cell? ⟨g, o + m, none⟩ = some (.int .i64 (y : Int)) := (World.cell?_of_block (a := ⟨g, o + m, none⟩) (B4.block g (Nat.lt_of_lt_of_le hgb Bm.size))).trans hcm
          clear B4 hcm hgb
          have d4 : decide ((L : Int) < 1) = false := by simp; omega
          have d5 : decide (4 < (L : Int)) = false := by simp; omega
          go_wp2_with fail
          go_roundw
          case rel => exact ⟨m + 1, by rw [← HN'.out]; omega, by rw [HR2.out]; go_num, by go_num, B4'⟩
          case measure => simp [intOf]; omega
        · have d3 : decide ((m : Int) < (n' : Int)) = false := by simp; omega
          have d3n : decide (m < n') = false := by simp; omega
          have HE : Hid ((encs (ws.take m)).length = n) := show _ = _ by
            rw [List.take_of_length_le (by rw [← HN'.out]; omega), HN.out]
          rw [HE.out]
          go_wp2_with fail
          go_ret
          exact ⟨by simp, Br.trans (Bm.mono Br.size)⟩

theorem back_any (a0 : Option Addr) (len cap : Nat) (xs : List Int) (w : World) (hh : Ints w (· < w.heap.size) a0 len xs) :
    Calls Try.prog 5 #[.slice a0 len cap] w fun e w' => e = .returned (.bool true) ∧ Below w.heap.size w w' := by
  by_cases h : 200 < len
  · exact back_out a0 len cap w h
  · exact back_walk a0 len cap xs w hh (by omega)

end Go.Proofs.Ythaboikiobmfbaa
