/-
  What the document's Mul does. No condition beyond what the contract says.
-/
import Derived.Deep.Cut
import Derived.Test.YtcejbkmmiklhbaaRefA9
import Derived.Test.YtcejbkmmiklhbaaAwake9
namespace Go.Proofs.Ytcejbkmmiklhbaa
open Go.RowKit

theorem wru64 {x : Nat} (h : x < 18446744073709551616) : IntKind.u64.wrap (x : Int) = (x : Int) := by rw [IntKind.wrap_u64]; omega
theorem make_u16 (n : Nat) (hn : n ≤ 1000000) (L : List Value) (hL : L = dc (List.replicate n 0)) (w : World) : (Instr.makeSlice 22 (.int .i64 (n : Int)) (.int .i64 (n : Int))).run Try.prog w = .ok (.slice (some ⟨w.heap.size, 0, none⟩) n n) (w.alloc (.cells L.toArray 45)) := by
  subst hL
  obtain ⟨i, hi, hz, hs, hb⟩ := info_parts (P := Try.prog) (e := 45) (z := .int .u16 0) (size := 1) (bytes := 2) (by kernel_rfl)
  have h := run_makeSlice (P := Try.prog) w 22 45 i _ Try.underlying22 hi hz .i64 .i64 (n : Int) (n : Int) (by omega) (by omega) (by rw [hs]; simp; omega) (by rw [hb]; omega) (by omega)
  rw [h, hs]
  congr 3
  rw [Int.toNat_natCast]
  apply Array.ext
  · simp [madeCells, dc]
  · intro c c1 c2
    simp only [madeCells, Array.getElem_map, Array.getElem_range, Value.cells]
    rw [show (#[.int .u16 0] : Array Value).size = 1 from rfl, Nat.mod_one]
    simp [dc]

theorem mul_room {xs ys : List Nat} {n m i k c Z Y : Nat} (hx : Dg xs) (hy : Dg ys) (hxl : xs.length = n) (hyl : ys.length = m) (hY : Y = nv ys) (hi : i < n) (hk : m ≤ k) (hc : 0 < c)
    (h : Z + 65536 ^ (i + k) * c = nv (xs.take i) * Y + 65536 ^ i * xs.getD i 0 * nv (ys.take k)) : i + k < n + m := by
  rw [List.take_of_length_le (l := ys) (by omega), ← hY, ← Nat.add_mul, ← take_nv' xs i] at h
  have h1 : nv (xs.take (i + 1)) < 65536 ^ (i + 1) := by
    have := nv_lt (hx.take (i + 1))
    rwa [List.length_take, Nat.min_eq_left (by omega)] at this
  have h2 : Y < 65536 ^ m := by
    have := nv_lt hy
    rwa [hyl, ← hY] at this
  have h3 : nv (xs.take (i + 1)) * Y < 65536 ^ (i + 1 + m) := by
    rw [Nat.pow_add]
    exact Nat.mul_lt_mul'' h1 h2
  have h4 : 65536 ^ (i + k) * 1 ≤ 65536 ^ (i + k) * c := Nat.mul_le_mul_left _ hc
  rcases Nat.lt_or_ge (i + k) (i + 1 + m) with h5 | h5
  · omega
  · exfalso
    have h6 : 65536 ^ (i + 1 + m) ≤ 65536 ^ (i + k) := Nat.pow_le_pow_right (by omega) h5
    omega
theorem mul_step {Z Z' z c p v d e P E : Nat} (h : Z + P * c = E) (hs : Z' + P * z = Z + P * d) (hv : v = z + c + p) (hd : d = v % 65536) (he : e = v / 65536) : Z' + P * 65536 * e = E + P * p := by
  have h1 : v = 65536 * e + d := by omega
  have h2 : P * z + P * c + P * p = P * 65536 * e + P * d := by
    rw [Nat.mul_assoc, ← Nat.mul_add, ← Nat.mul_add, ← Nat.mul_add, ← h1, hv]
  omega
theorem mul_next {T i k x y Y' : Nat} {Z : Nat} (h : Z = T + 65536 ^ i * x * Y' + 65536 ^ (i + k) * (x * y)) : Z = T + 65536 ^ i * x * (Y' + 65536 ^ k * y) := by
  rw [h, Nat.pow_add]
  grind

theorem below_drawn {B : Nat} {w w' : World} {a : Addr} {v : Value} (h : Below B w (w'.setCell a v)) (m : Nat) : Below B w ((w'.drewN m).setCell a v) := ⟨h.os, h.tape, h.output, h.size, h.block⟩
/-- The two loops. -/
def MulI (w : World) (g n m : Nat) (xs : List Nat) (Y : Nat) (v6 : Value) (wr : World) : Prop :=
  ∃ (i : Nat) (zs : List Nat), i ≤ n ∧ v6 = .int .i64 (i : Int) ∧ zs.length = n + m ∧ Dg zs ∧ nv zs = nv (xs.take i) * Y ∧ Row wr g 45 (dc zs) ∧ Below w.heap.size w wr
def MulK (w : World) (g n m i : Nat) (xs ys : List Nat) (Y : Nat) (v7 v8 : Value) (wr : World) : Prop :=
  ∃ (k c : Nat) (zs : List Nat), k ≤ n + m ∧ v7 = .int .u64 (c : Int) ∧ v8 = .int .i64 (k : Int) ∧ c < 65536 ∧ zs.length = n + m ∧ Dg zs ∧
    nv zs + 65536 ^ (i + k) * c = nv (xs.take i) * Y + 65536 ^ i * xs.getD i 0 * nv (ys.take k) ∧ Row wr g 45 (dc zs) ∧ Below w.heap.size w wr

set_option maxHeartbeats 8000000 in
theorem refMul_any (A : Option Addr) (n c0 : Nat) (xs : List Nat) (B : Option Addr) (m d0 : Nat) (ys : List Nat) (w : World) (h1 : Digs w A n xs) (h2 : Digs w B m ys) (hn : n ≤ 1000) (hm : m ≤ 1000) (t : Nat) (ht : t = nv xs * nv ys) :
    Calls Try.prog 20 #[.slice A n c0, .slice B m d0] w fun e w' => ∃ R k, e = .returned (.slice R (dg t).length k) ∧ Digs w' R (dg t).length (dg t) ∧ Below w.heap.size w w' := by
  obtain ⟨Y, hY⟩ : ∃ Y, Y = nv ys := ⟨_, rfl⟩
  have H1 := Lib.hid h1; have H2 := Lib.hid h2; have HY := Lib.hid hY; have HT := Lib.hid ht
  have L1 := Lib.hid h1.1; have L2 := Lib.hid h2.1
  obtain ⟨l, hl⟩ : ∃ l, l = n + m := ⟨_, rfl⟩
  obtain ⟨L, hL⟩ : ∃ L, L = dc (List.replicate l 0) := ⟨_, rfl⟩
  have mk := make_u16 l (by omega) L hL w
  have e1 : (n : Int) + (m : Int) = (l : Int) := by omega
  have HL := Lib.hid hL; have HLL := Lib.hid hl
  have hl2 : l ≤ 2000 := by omega
  clear h1 h2 hY ht hL hl
  go_enter Try.func20, Try.ntmps20
  go_wp2_with fail
  have R0 : Row (w.alloc (.cells L.toArray 45)) w.heap.size 45 L := Row.new w _ _
  have B0 : Below w.heap.size w (w.alloc (.cells L.toArray 45)) := (Below.refl _ _).alloc (Nat.le_refl _) _
  rw [HL.out] at R0 B0 ⊢
  generalize w.alloc (.cells (dc (List.replicate l 0)).toArray 45) = W at *
  obtain ⟨g, hg⟩ : ∃ g, g = w.heap.size := ⟨_, rfl⟩
  have gle : w.heap.size ≤ g := by omega
  rw [← hg] at R0 ⊢
  have HR0 := Lib.hid R0; have HB0 := Lib.hid B0; have HGL := Lib.hid gle
  clear mk hg R0 B0 HL gle
  go_loopw [6] (fun v6 wr => MulI w g n m xs Y v6 wr) (fun v _ => n - (intOf v).toNat)
  case atStart => exact ⟨0, List.replicate l 0, by omega, rfl, by rw [List.length_replicate]; exact HLL.out, Dg.noughts l, by rw [nv_noughts]; simp [nv], HR0.out, HB0.out⟩
  case round =>
    clear HR0 HB0
    obtain ⟨i, zs, hi, rfl, hzl, hz, hv, R1, B1⟩ := hrel
    have HZL := Lib.hid hzl; have HZ := Lib.hid hz; have HV := Lib.hid hv; have HR := Lib.hid R1; have HB := Lib.hid B1
    clear hzl hz hv R1 B1
    by_cases hin : i < n
    · have dn := lt_t hin
      have dnn := ltn_t hin
      have i0 : (0 : Int) ≤ (i : Int) := by omega
      have iN : (i : Int) < (n : Int) := by omega
      have HIN := Lib.hid hin
      go_wp2_with fail
      obtain ⟨W0, rfl⟩ : ∃ W0, W0 = wr := ⟨_, rfl⟩
      go_loopw [7, 8] (fun v7 v8 wr => MulK w g n m i xs ys Y v7 v8 wr) (fun _ v _ => n + m + 1 - (intOf v).toNat)
      case atStart => exact ⟨0, 0, zs, by omega, rfl, rfl, by omega, HZL.out, HZ.out, by rw [HV.out]; simp [nv], HR.out, HB.out⟩
      case round =>
        clear HZL HZ HV HR HB
        obtain ⟨k, c, zs, hk, rfl, rfl, hc, hzl, hz, hv, R1, B1⟩ := hrel
        have HZL := Lib.hid hzl; have HZ := Lib.hid hz; have HV := Lib.hid hv; have HR := Lib.hid R1; have HB := Lib.hid B1
        clear hzl hz hv R1 B1
        by_cases hkm : k < m
        · have dk := lt_t hkm
          have dkn := ltn_t hkm
          have k0 : (0 : Int) ≤ (k : Int) := by omega
          have kM : (k : Int) < (m : Int) := by omega
          have hroom : i + k < n + m := by omega
          obtain ⟨b0, o, rfl, m1, hc1⟩ := H1.out.2.2 (by omega)
          have x1 := (HB.out.cell (p := ⟨b0, o + i, none⟩) m1).trans (hc1 i hin)
          obtain ⟨b1, o1, rfl, m2, hc2⟩ := H2.out.2.2 (by omega)
          have x2 := (HB.out.cell (p := ⟨b1, o1 + k, none⟩) m2).trans (hc2 k hkm)
          obtain ⟨j, hj⟩ : ∃ j, j = i + k := ⟨_, rfl⟩
          have cl : wr.cell? ⟨g, j, none⟩ = some (.int .u16 ((zs.getD j 0 : Nat) : Int)) := (HR.out.cell j).trans (dc_get zs j (by rw [HZL.out]; omega))
          have fl := HR.out.frozen j
          have hset := fun d => nv_set zs j d (by rw [HZL.out]; omega)
          have hx := H1.out.2.1.get i
          have hy := H2.out.2.1.get k
          have hzz := HZ.out.get j
          have ty := take_nv' ys k
          have hv := HV.out
          generalize hxx : xs.getD i 0 = x at *
          generalize ys.getD k 0 = y at *
          generalize zs.getD j 0 = z at *
          have Hv := Lib.hid hv
          have Hset := Lib.hid hset
          have Hty := Lib.hid ty
          have Hxx := Lib.hid hxx
          clear hv hset ty hxx
          obtain ⟨p, hp⟩ : ∃ p, p = x * y := ⟨_, rfl⟩
          have hpb : p ≤ 65535 * 65535 := by rw [hp]; exact Nat.mul_le_mul (by omega) (by omega)
          obtain ⟨s, hs⟩ : ∃ s, s = z + c := ⟨_, rfl⟩
          obtain ⟨v, hvv⟩ : ∃ v, v = s + p := ⟨_, rfl⟩
          obtain ⟨d, hd⟩ : ∃ d, d = v % 65536 := ⟨_, rfl⟩
          obtain ⟨e, he⟩ : ∃ e, e = v / 65536 := ⟨_, rfl⟩
          have hsv : v = z + c + p := by omega
          have Hst := Lib.hid (mul_step (v := v) (p := p) (Z := nv zs) (E := nv (xs.take i) * Y + 65536 ^ i * x * nv (ys.take k)) (z := z) (c := c) (P := 65536 ^ j) (by rw [hj]; exact Hv.out) (Hset.out d) hsv hd he)
          have HN : Hid (nv (zs.set j d) + 65536 ^ (i + (k + 1)) * e = nv (xs.take i) * Y + 65536 ^ i * xs.getD i 0 * nv (ys.take (k + 1))) := show _ = _ by
            rw [Hty.out, Hxx.out]
            refine mul_next ?_
            rw [← hp, ← hj, ← Hst.out, ← Nat.add_assoc, ← hj, Nat.pow_succ]
          have HD : Hid (d < 65536) := show _ < _ by omega
          have HE : Hid (e < 65536) := show _ < _ by omega
          have ws : s < 18446744073709551616 := by omega
          have wv : v < 18446744073709551616 := by omega
          have wp : p < 18446744073709551616 := by omega
          have wj : j < 4611686018427387904 := by omega
          have j0 : (0 : Int) ≤ (j : Int) := by omega
          have jL : (j : Int) < (l : Int) := by have := HLL.out; omega
          have zj : (i : Int) + (k : Int) = (j : Int) := by omega
          have zs1 : (z : Int) + (c : Int) = (s : Int) := by omega
          have zp : (x : Int) * (y : Int) = (p : Int) := by rw [hp]; simp
          have zv : (s : Int) + (p : Int) = (v : Int) := by omega
          have HKR : Hid (k + 1 ≤ n + m) := show _ ≤ _ by omega
          have R2 := Lib.hid (HR.out.set j (.int .u16 (d : Int)))
          have B2 := Lib.hid (HB.out.setCell (p := ⟨g, j, none⟩) HGL.out (.int .u16 (d : Int)))
          have hzl2 : Hid ((zs.set j d).length = n + m) := show _ = _ by rw [List.length_set]; exact HZL.out
          have hzd : Hid (Dg (zs.set j d)) := HZ.out.set HD.out
          have Z3 := Lib.hid (quoB he)
          have Z4 := Lib.hid (remB hd)
          have Z5 := Lib.hid (wr16 HD.out)
          have z6 := wru64 ws
          have z7 := wru64 wv
          have z8 := wr64 wj
          have z9 := wru64 (Nat.lt_trans hzz (by decide))
          have Z10 := Lib.hid (wru64 (Nat.lt_trans HE.out (by decide)))
          have Z11 := Lib.hid (wru64 wp)
          have Z12 := Lib.hid (wru64 (Nat.lt_trans hx (by decide)))
          have Z13 := Lib.hid (wru64 (Nat.lt_trans hy (by decide)))
          have Zp := Lib.hid zp
          have Zv := Lib.hid zv
          have Z7 := Lib.hid z7
          have Zj := Lib.hid zj
          have Z8 := Lib.hid z8
          clear zp zv z7
          clear Hst Hset Hv Hty Hxx hsv hp hpb hs hvv hd he ws wv wp wj hx hy hzz hj hroom hk hc HV HR HB hc1 hc2 m1 m2
          have Z6 := Lib.hid z6
          clear z6
          go_upto_region 11 with fail
          rw [Z6.out]
          clear z9 zs1 zj z8
          have z11 := Z11.out
          have z12 := Z12.out
          have z13 := Z13.out
          have zp := Zp.out
          have zv := Zv.out
          have z7 := Z7.out
          go_quiet (fail)
          have R3 : Hid (Row ((wr.drewN nq).setCell ⟨g, j, none⟩ (.int .u16 (d : Int))) g 45 ((dc zs).set j (.int .u16 (d : Int)))) := R2.out
          have B3 : Hid (Below w.heap.size w ((wr.drewN nq).setCell ⟨g, j, none⟩ (.int .u16 (d : Int)))) := below_drawn B2.out nq
          have cl2 : (wr.drewN nq).cell? ⟨g, j, none⟩ = some (.int .u16 (z : Int)) := cl
          have fl2 : (wr.drewN nq).frozen? ⟨g, j, none⟩ = false := fl
          clear cl fl R2 B2 x1 x2
          generalize wr.drewN nq = wd at *
          clear z7 z11 z12 z13 zp zv
          have zj := Zj.out
          have z8 := Z8.out
          have z3 := Z3.out
          have z4 := Z4.out
          have z5 := Z5.out
          have z10 := Z10.out
          go_wp2_with fail
          go_roundw
          case rel =>
            refine ⟨k + 1, e, zs.set j d, HKR.out, by first | rfl | exact ret_val Z10.out, ret_val (by omega), HE.out, hzl2.out, hzd.out, HN.out, ?_, B3.out⟩
            have hr := R3.out
            rwa [dc_set] at hr
          case measure => simp [intOf]; have := HKR.out; omega
        · have hkm := Nat.le_of_not_lt hkm
          by_cases hc0 : 0 < c
          · have dk := lt_f hkm
            have dkn := ltn_f hkm
            have dc0 := gt0_t hc0
            have dc0n : decide (0 < c) = true := by simp; omega
            have hroom := mul_room H1.out.2.1 H2.out.2.1 L1.out L2.out HY.out hin hkm hc0 HV.out
            obtain ⟨j, hj⟩ : ∃ j, j = i + k := ⟨_, rfl⟩
            have cl : wr.cell? ⟨g, j, none⟩ = some (.int .u16 ((zs.getD j 0 : Nat) : Int)) := (HR.out.cell j).trans (dc_get zs j (by rw [HZL.out]; omega))
            have fl := HR.out.frozen j
            have hset := fun d => nv_set zs j d (by rw [HZL.out]; omega)
            have hx := H1.out.2.1.get i
            have hy := H2.out.2.1.get k
            have hzz := HZ.out.get j
            have ty := take_nv' ys k
            have hv := HV.out
            have y0 : ys.getD k 0 = 0 := nv_past (by rw [L2.out]; exact hkm)
            generalize hxx : xs.getD i 0 = x at *
            generalize ys.getD k 0 = y at *
            generalize zs.getD j 0 = z at *
            have Hv := Lib.hid hv
            have Hset := Lib.hid hset
            have Hty := Lib.hid ty
            have Hxx := Lib.hid hxx
            clear hv hset ty hxx
            obtain ⟨p, hp⟩ : ∃ p, p = x * y := ⟨_, rfl⟩
            have hpb : p ≤ 65535 * 65535 := by rw [hp]; exact Nat.mul_le_mul (by omega) (by omega)
            obtain ⟨s, hs⟩ : ∃ s, s = z + c := ⟨_, rfl⟩
            obtain ⟨v, hvv⟩ : ∃ v, v = s + p := ⟨_, rfl⟩
            obtain ⟨d, hd⟩ : ∃ d, d = v % 65536 := ⟨_, rfl⟩
            obtain ⟨e, he⟩ : ∃ e, e = v / 65536 := ⟨_, rfl⟩
            have hsv : v = z + c + p := by omega
            have Hst := Lib.hid (mul_step (v := v) (p := p) (Z := nv zs) (E := nv (xs.take i) * Y + 65536 ^ i * x * nv (ys.take k)) (z := z) (c := c) (P := 65536 ^ j) (by rw [hj]; exact Hv.out) (Hset.out d) hsv hd he)
            have HN : Hid (nv (zs.set j d) + 65536 ^ (i + (k + 1)) * e = nv (xs.take i) * Y + 65536 ^ i * xs.getD i 0 * nv (ys.take (k + 1))) := show _ = _ by
              rw [Hty.out, Hxx.out]
              refine mul_next ?_
              rw [← hp, ← hj, ← Hst.out, ← Nat.add_assoc, ← hj, Nat.pow_succ]
            have HD : Hid (d < 65536) := show _ < _ by omega
            have HE : Hid (e < 65536) := show _ < _ by omega
            have ws : s < 18446744073709551616 := by omega
            have wv : v < 18446744073709551616 := by omega
            have wp : p < 18446744073709551616 := by omega
            have wj : j < 4611686018427387904 := by omega
            have j0 : (0 : Int) ≤ (j : Int) := by omega
            have jL : (j : Int) < (l : Int) := by have := HLL.out; omega
            have zj : (i : Int) + (k : Int) = (j : Int) := by omega
            have zs1 : (z : Int) + (c : Int) = (s : Int) := by omega
            have evs : v = s := by rw [hvv, hp, y0]; omega
            have HKR : Hid (k + 1 ≤ n + m) := show _ ≤ _ by omega
            have R2 := Lib.hid (HR.out.set j (.int .u16 (d : Int)))
            have B2 := Lib.hid (HB.out.setCell (p := ⟨g, j, none⟩) HGL.out (.int .u16 (d : Int)))
            have hzl2 : Hid ((zs.set j d).length = n + m) := show _ = _ by rw [List.length_set]; exact HZL.out
            have hzd : Hid (Dg (zs.set j d)) := HZ.out.set HD.out
            have Z3 := Lib.hid (quoB he)
            have Z4 := Lib.hid (remB hd)
            have Z5 := Lib.hid (wr16 HD.out)
            have z6 := wru64 ws
            have z7 := wru64 wv
            have z8 := wr64 wj
            have z9 := wru64 (Nat.lt_trans hzz (by decide))
            have Z10 := Lib.hid (wru64 (Nat.lt_trans HE.out (by decide)))
            subst evs
            clear Hst Hset Hv Hty Hxx hsv hp hpb hs hvv hd he ws wv wp wj hx hy hzz hj hroom hk hc HV HR HB y0
            go_upto_region 12 with fail
            clear z6 z7 z9 zs1
            have z3 := Z3.out
            have z4 := Z4.out
            have z5 := Z5.out
            have z10 := Z10.out
            go_wp2_with fail
            go_roundw
            case rel =>
              refine ⟨k + 1, e, zs.set j d, HKR.out, by first | rfl | exact ret_val Z10.out, ret_val (by omega), HE.out, hzl2.out, hzd.out, HN.out, ?_, B2.out⟩
              have hr := R2.out
              rwa [dc_set] at hr
            case measure => simp [intOf]; have := HKR.out; omega
          · obtain rfl : c = 0 := by omega
            have dk := lt_f hkm
            have dkn := ltn_f hkm
            have hV := HV.out
            rw [Nat.mul_zero, Nat.add_zero, List.take_of_length_le (l := ys) (by rw [L2.out]; exact hkm), ← HY.out, ← Nat.add_mul, ← take_nv' xs i] at hV
            have HV2 := Lib.hid hV
            clear hV HV hc
            go_wp2_with fail
            go_roundw
            case rel => exact ⟨i + 1, zs, HIN.out, ret_val (by omega), HZL.out, HZ.out, HV2.out, HR.out, HB.out⟩
            case measure => simp [intOf]; have := HIN.out; omega
    · obtain rfl : i = n := by omega
      have dn := lt_f (Nat.le_refl i)
      have dnn := ltn_f (Nat.le_refl i)
      have hV := HV.out
      rw [List.take_of_length_le (l := xs) (by rw [L1.out]; exact Nat.le_refl _), HY.out, ← HT.out] at hV
      have hD := row_digs HR.out HZ.out (HZL.out.trans HLL.out.symm)
      have cT := Lib.hid (refTrim_any (some ⟨g, 0, none⟩) l l zs wr hD (by omega) (Nat.le_refl _) (by omega))
      rw [hV] at cT
      clear hV hD HZ HV HR HZL
      go_wp2_with fail
      refine cT.out.mono ?_
      rintro e v1 ⟨rfl, hD, _, hw⟩; subst v1
      have HD := Lib.hid hD
      clear hD
      go_wp2_with fail
      go_ret
      exact ⟨_, _, rfl, HD.out, HB.out⟩

end Go.Proofs.Ytcejbkmmiklhbaa
