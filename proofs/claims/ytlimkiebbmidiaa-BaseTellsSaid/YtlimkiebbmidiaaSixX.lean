/-
  What the document's Base does; no condition beyond what the contract asks.
-/
import Derived.Test.YtlimkiebbmidiaaSixW
namespace Go.Proofs.Ytlimkiebbmidiaa
open Go.RowKit

theorem ret_val {k : IntKind} {a b : Int} (h : a = b) : Value.int k a = .int k b := by rw [h]

def BaseRel (w : World) (bs : List UInt8) (v i : Value) (wr : World) : Prop :=
  ∃ (k m : Nat) (A : Option Addr) (c : Nat), k ≤ bs.length + 2 ∧ k % 3 = 0 ∧ i = .int .i64 (k : Int) ∧ v = .slice A m c ∧ m = (b64 (bs.take k)).length ∧ wr.ownsRow w.heap.size 5 1 (.slice A m c) m (cellsOf (b64 (bs.take k))) ∧ Below w.heap.size w wr
/-- The inner loop that reads three bytes. -/
def ThreeRel (W : World) (bs : List UInt8) (i : Nat) (a b c : Value) (wr : World) : Prop :=
  wr = W ∧ ∃ (j x y : Nat), j ≤ 3 ∧ a = .int .i64 (x : Int) ∧ x = vv bs i j ∧ b = .int .i64 (y : Int) ∧ y = min j (bs.length - i) ∧ c = .int .i64 (j : Int)
/-- The inner loop that fills. -/
def FillRel (W : World) (B g n : Nat) (out : List UInt8) (k : Value) (wr : World) : Prop :=
  ∃ (j : Nat) (l : List UInt8), n < j ∧ j ≤ 4 ∧ k = .int .i64 (j : Int) ∧ l.length = 4 ∧ fillFrom l j = out ∧ wr.heap[g]? = some (.cells (cellsOf l).toArray 5 (0, 0)) ∧ Kept (· = g) W wr ∧ B ≤ g

theorem own_keep {w w' : World} {base n : Nat} {e : TypeId} {v : Value} {xs : List Value} (h : w.ownsRow base e 1 v n xs) (hk : ∀ k, v.ownBlock = some k → w'.heap[k]? = w.heap[k]?) : w'.ownsRow base e 1 v n xs := by
  refine ⟨h.1, ?_⟩
  rcases h.2 with h2 | ⟨g, cap, cur, rfl, hb, hh, r⟩
  · exact .inl h2
  · exact .inr ⟨g, cap, cur, rfl, hb, (hk g rfl).trans hh, r⟩
theorem set_fill (l : List UInt8) (j : Nat) : (cellsOf l).toArray.setIfInBounds j (.int .u8 61) = (cellsOf (l.set j 61)).toArray := by
  rw [List.setIfInBounds_toArray]
  simp [cellsOf, List.map_set]

set_option maxHeartbeats 4000000 in
theorem refBase_any (A : Option Addr) (n c : Nat) (bs : List UInt8) (w : World) (hh : Held w (· < w.heap.size) A n bs) (hn : n ≤ 1000000) :
    Calls Try.prog 13 #[.slice A n c] w fun e w' => e = .returned (.string ⟨(b64 bs).toArray⟩) ∧ Below w.heap.size w w' := by
  obtain ⟨i0, hi0, hz0, hz1, hz2⟩ := info_parts info_u8
  have HZ := Lib.hid hz0; have HI := Lib.hid hi0; have H1 := Lib.hid hz1; have H2 := Lib.hid hz2
  have HH := Lib.hid hh
  have HLen := Lib.hid hh.1
  clear hh hz0 hi0 hz1 hz2
  obtain ⟨out, hl⟩ : ∃ l, l = b64 bs := ⟨_, rfl⟩
  rw [← hl]
  have HL := Lib.hid hl
  clear hl
  go_enter Try.func13, Try.ntmps13
  go_wp2_with fail
  go_loopw [3, 4] (fun v i wr => BaseRel w bs v i wr) (fun _ i _ => n + 3 - (intOf i).toNat)
  case atStart => exact ⟨0, 0, none, 0, by omega, rfl, rfl, rfl, rfl, World.ownsRow_nil _ _ _ _, Below.refl _ _⟩
  case round =>
    obtain ⟨k, m, A', c', hk, hk3, rfl, rfl, hm, hown, Br⟩ := hrel
    rw [HLen.out] at hk
    have HO := Lib.hid hown
    have HM := Lib.hid hm
    clear hown hm
    by_cases hlt : k < n
    · have d1 : decide ((k : Int) < (n : Int)) = true := by simp; omega
      have d1n : decide (k < n) = true := by simp; omega
      obtain ⟨b, o, rfl, hblk, hc⟩ := (HH.out.keep (fun k hk => Br.block k hk)).2 (by omega)
      have HC := Lib.hid hc
      clear hblk hc
      go_wp2_with fail
      obtain ⟨W0, rfl⟩ : ∃ W0, W0 = wr := ⟨_, rfl⟩
      go_loopw [5, 6, 7] (fun a b c wr' => ThreeRel W0 bs k a b c wr') (fun _ _ c _ => 3 - (intOf c).toNat)
      case atStart => exact ⟨rfl, 0, 0, 0, by omega, rfl, rfl, rfl, by omega, rfl⟩
      case round =>
        obtain ⟨rfl, j, x, y, hj, rfl, hx, rfl, hy, rfl⟩ := hrel
        rw [HLen.out] at hy
        have hyb : y ≤ 3 := by omega
        have hxl := vv_lt bs k j
        rw [← hx] at hxl
        have HX := Lib.hid hx
        clear hx
        by_cases hj3 : j < 3
        · have e1 : decide ((j : Int) < 3) = true := by simp; omega
          have hxs : x < 65536 := Nat.lt_of_lt_of_le hxl (by rcases (by omega : j = 0 ∨ j = 1 ∨ j = 2) with rfl | rfl | rfl <;> decide)
          clear hxl
          by_cases hin : k + j < n
          · have e2 : decide ((k : Int) + (j : Int) < (n : Int)) = true := by simp; omega
            have e2n : decide (k + j < n) = true := by simp; omega
            have hck := HC.out (k + j) hin
            obtain ⟨z, hz⟩ : ∃ z, z = (bs.getD (k + j) 0).toNat := ⟨_, rfl⟩
            have hzl : z < 256 := by rw [hz]; exact UInt8.toNat_lt _
            rw [← hz] at hck
            have HV : Hid (x * 256 + z = vv bs k (j + 1)) := show _ = _ by rw [HX.out, hz]; rfl
            have HYY : Hid (y + 1 = min (j + 1) (bs.length - k)) := show _ = _ by rw [HLen.out]; omega
            clear hz hy
            go_wp2_with fail
            go_roundw
            case rel => exact ⟨rfl, j + 1, x * 256 + z, y + 1, by omega, ret_val (by omega), HV.out, ret_val (by omega), HYY.out, ret_val (by omega)⟩
            case measure => simp [intOf]; omega
          · have e2 : decide ((k : Int) + (j : Int) < (n : Int)) = false := by simp; omega
            have e2n : decide (k + j < n) = false := by simp; omega
            have HV : Hid (x * 256 = vv bs k (j + 1)) := show _ = _ by
              rw [vv, getD_out (by rw [HLen.out]; omega), ← HX.out]
              simp
            have HYY : Hid (y = min (j + 1) (bs.length - k)) := show _ = _ by rw [HLen.out]; omega
            clear hy
            go_wp2_with fail
            go_roundw
            case rel => exact ⟨rfl, j + 1, x * 256, y, by omega, ret_val (by omega), HV.out, rfl, HYY.out, ret_val (by omega)⟩
            case measure => simp [intOf]; omega
        · obtain rfl : j = 3 := by omega
          have hxs : x < 16777216 := hxl
          have HXE := Lib.hid HX.out
          clear hxl
          have g1 := fun w => at_sgn .i64 ((x : Int) / 262144) (x / 262144) (by omega) (by omega) w
          have g2 := fun w => at_sgn .i64 ((x : Int) / 4096 % 64) (x / 4096 % 64) (by omega) (by omega) w
          have g3 := fun w => at_sgn .i64 ((x : Int) / 64 % 64) (x / 64 % 64) (by omega) (by omega) w
          have g4 := fun w => at_sgn .i64 ((x : Int) % 64) (x % 64) (by omega) (by omega) w
          have t1 : wrap64 ((x : Int) / 262144) = (x : Int) / 262144 := by simp only [wrap64]; omega
          have t2 : wrap64 ((x : Int) / 4096) = (x : Int) / 4096 := by simp only [wrap64]; omega
          have t3 : wrap64 ((x : Int) / 64) = (x : Int) / 64 := by simp only [wrap64]; omega
          have r1 : IntKind.i64.wrap ((x : Int) / 262144) = (x : Int) / 262144 := by rw [IntKind.wrap_i64]; omega
          have r2 : IntKind.i64.wrap ((x : Int) / 4096) = (x : Int) / 4096 := by rw [IntKind.wrap_i64]; omega
          have r3 : IntKind.i64.wrap ((x : Int) / 64) = (x : Int) / 64 := by rw [IntKind.wrap_i64]; omega
          have m2 : ((x : Int) / 4096).tmod 64 = (x : Int) / 4096 % 64 := Int.tmod_eq_emod_of_nonneg (by omega)
          have m3 : ((x : Int) / 64).tmod 64 = (x : Int) / 64 % 64 := Int.tmod_eq_emod_of_nonneg (by omega)
          have m4 : (x : Int).tmod 64 = (x : Int) % 64 := Int.tmod_eq_emod_of_nonneg (by omega)
          have q1 : (x : Int).tdiv 262144 = (x : Int) / 262144 := Int.tdiv_eq_ediv_of_nonneg (by omega)
          have hy1 : 1 ≤ y ∧ y ≤ 3 := by omega
          have HYE := Lib.hid hy
          clear hy hj hj3
          go_wp2_with fail
          go_still_tail 14, (by kernel_rfl)
          change wpList _ _ _ _ _ wr.drew
          have Bd : Below w.heap.size w wr.drew := Br.drew
          have HOd : Hid (wr.drew.ownsRow w.heap.size 5 1 (.slice A' m c') m (cellsOf (b64 (bs.take k)))) := HO.out
          generalize wr.drew = wd at Bd HOd ⊢
          go_wp2_with fail
          have HG0 : Hid ((wd.alloc (.cells #[.int .u8 ((sgn (x / 262144)).toNat : Int), .int .u8 ((sgn (x / 4096 % 64)).toNat : Int), .int .u8 ((sgn (x / 64 % 64)).toNat : Int), .int .u8 ((sgn (x % 64)).toNat : Int)] 5)).heap[wd.heap.size]? = some (.cells (cellsOf (fourOf x)).toArray 5 (0, 0))) := heap_alloc_new wd _
          have BA : Below w.heap.size w (wd.alloc (.cells #[.int .u8 ((sgn (x / 262144)).toNat : Int), .int .u8 ((sgn (x / 4096 % 64)).toNat : Int), .int .u8 ((sgn (x / 64 % 64)).toNat : Int), .int .u8 ((sgn (x % 64)).toNat : Int)] 5)) := Bd.alloc Bd.size _
          have HOA : Hid ((wd.alloc (.cells #[.int .u8 ((sgn (x / 262144)).toNat : Int), .int .u8 ((sgn (x / 4096 % 64)).toNat : Int), .int .u8 ((sgn (x / 64 % 64)).toNat : Int), .int .u8 ((sgn (x % 64)).toNat : Int)] 5)).ownsRow w.heap.size 5 1 (.slice A' m c') m (cellsOf (b64 (bs.take k)))) := HOd.out.alloc _
          have HNE : Hid (∀ k0, (Value.slice A' m c').ownBlock = some k0 → k0 ≠ wd.heap.size) := show ∀ k0, _ from fun k0 e => Nat.ne_of_lt (HOd.out.lt k0 e).2
          have hsz : wd.heap.size < (wd.alloc (.cells #[.int .u8 ((sgn (x / 262144)).toNat : Int), .int .u8 ((sgn (x / 4096 % 64)).toNat : Int), .int .u8 ((sgn (x / 64 % 64)).toNat : Int), .int .u8 ((sgn (x % 64)).toNat : Int)] 5)).heap.size := by simp
          have hbg : w.heap.size ≤ wd.heap.size := Bd.size
          have HST : Hid (b64 (bs.take (k + 3)) = b64 (bs.take k) ++ fillFrom (fourOf x) (y + 1)) := show _ = _ by rw [b64_step (by rw [HLen.out]; exact hlt) hk3, HXE.out, HYE.out, HLen.out]
          clear HOd Bd HC HX HXE g1 g2 g3 g4 t1 t2 t3 r1 r2 r3 m2 m3 m4 q1 Br HO HYE
          generalize wd.alloc (.cells #[.int .u8 ((sgn (x / 262144)).toNat : Int), .int .u8 ((sgn (x / 4096 % 64)).toNat : Int), .int .u8 ((sgn (x / 64 % 64)).toNat : Int), .int .u8 ((sgn (x % 64)).toNat : Int)] 5) = W1 at HG0 BA HOA hsz ⊢
          generalize wd.heap.size = g at HG0 HNE hsz hbg ⊢
          obtain ⟨T, hT⟩ : ∃ T, T = fillFrom (fourOf x) (y + 1) := ⟨_, rfl⟩
          rw [← hT] at HST
          have HT := Lib.hid hT
          clear hT
          go_loopw [9] (fun k' wr' => FillRel W1 w.heap.size g y T k' wr') (fun k' _ => 4 - (intOf k').toNat)
          case atStart => exact ⟨y + 1, fourOf x, by omega, by omega, ret_val (by omega), rfl, HT.out.symm, HG0.out, Kept.refl _ _, hbg⟩
          case round =>
            obtain ⟨j, l, hyj, hj4, rfl, hll, hfl, hgl, hkp, _⟩ := hrel
            have HF := Lib.hid hfl
            have HGl := Lib.hid hgl
            have HLL := Lib.hid hll
            clear hfl hgl hll
            by_cases hj : j < 4
            · have e1 : decide ((j : Int) < 4) = true := by simp; omega
              have hcj := block_cell HGl.out j
              rw [List.getElem?_toArray, cellsOf_get l j (by rw [HLL.out]; exact hj)] at hcj
              have hfj := block_frozen HGl.out j
              have hset := block_set HGl.out j (.int .u8 61)
              rw [set_fill] at hset
              have hk2 := hkp.setCell (p := ⟨g, j, none⟩) (fun _ => rfl) (.int .u8 61)
              have HS := Lib.hid hset
              have HF2 : Hid (fillFrom (l.set j 61) (j + 1) = T) := show _ = _ by rw [fillFrom_set l j HLL.out hj]; exact HF.out
              have HL2 : Hid ((l.set j 61).length = 4) := show _ = _ by rw [List.length_set]; exact HLL.out
              generalize (l.getD j 0).toNat = old at hcj
              clear hset
              go_wp2_with fail
              go_roundw
              case rel => exact ⟨j + 1, l.set j 61, by omega, by omega, ret_val (by omega), HL2.out, HF2.out, HS.out, hk2, hbg⟩
              case measure => simp [intOf]; omega
            · obtain rfl : j = 4 := by omega
              have hlT : l = T := by rw [← HF.out]; exact (fillFrom_all l HLL.out).symm
              rw [hlT] at HGl HLL
              have HOr : Hid (wr.ownsRow w.heap.size 5 1 (.slice A' m c') m (cellsOf (b64 (bs.take k)))) := own_keep HOA.out (fun k0 e => hkp.block k0 (HOA.out.lt k0 e).2 (HNE.out k0 e))
              have Br2 : Below w.heap.size w wr := BA.trans (hkp.below BA.size (fun k0 hk0 e => by omega))
              have hmb : m ≤ 2000000 := by rw [HM.out, b64_length, List.length_take, HLen.out]; omega
              have L1 : Hid ((cellsOf T).length = 4) := show _ = _ by rw [cellsOf_length]; exact HLL.out
              have L2 : m + 4 ≤ maxLen := by simp only [maxLen]; omega
              have L3 : (m + 4) * 1 ≤ 140737488355328 := by omega
              have HHT : Hid (Held wr (fun _ => True) (some ⟨g, 0, none⟩) 4 T) := Lib.hid (Held.of_row HGl.out HLL.out trivial)
              have hsb := Br2.size
              clear hlT HF hkp HOA BA HG0 HT
              go_wp2_with (first | (at_builtin; refine wpList_append_held _ rfl (.tmp 63) (.tmp 64) 22 rfl w.heap.size 5 i0 _ 1 Try.underlying22 HI.out HZ.out H1.out H2.out rfl _ m _ rfl HOr.out (some ⟨g, 0, none⟩) 4 4 (cellsOf T) rfl L1.out HHT.out.cellsAt (cellsOf_one T) L2 L3 hsb ?_))
              intro A5 c5 w5 ho5 hg5 _
              have B5 : Below w.heap.size w w5 := Br2.grown hg5 hsb (fun k0 hk0 => (HOr.out.lt k0 hk0).1)
              have HO5 : Hid (w5.ownsRow w.heap.size 5 1 (.slice A5 (m + 4) c5) (m + 4) (cellsOf (b64 (bs.take (k + 3))))) := by
                rw [HST.out, cellsOf_append]
                exact ho5
              have HM5 : Hid (m + 4 = (b64 (bs.take (k + 3))).length) := show _ = _ by rw [HST.out, List.length_append, HLL.out, HM.out]
              clear ho5 hg5 HOr Br2 HHT L1
              go_wp2_with fail
              go_roundw
              case rel => exact ⟨k + 3, m + 4, A5, c5, by rw [HLen.out]; omega, by omega, ret_val (by omega), rfl, HM5.out, HO5.out, B5⟩
              case measure => simp [intOf]; omega
    · have d1 : decide ((k : Int) < (n : Int)) = false := by simp; omega
      have d1n : decide (k < n) = false := by simp; omega
      rw [show bs.take k = bs by rw [List.take_of_length_le (by rw [HLen.out]; omega)], ← HL.out] at HO
      have hs := fun c => run_string (P := Try.prog) 22 9 5 Try.underlying22 Try.underlying5 Try.underlying9 (own_bytes HO.out) c
      go_wp2_with fail
      go_ret
      exact ⟨rfl, Br⟩

end Go.Proofs.Ytlimkiebbmidiaa
