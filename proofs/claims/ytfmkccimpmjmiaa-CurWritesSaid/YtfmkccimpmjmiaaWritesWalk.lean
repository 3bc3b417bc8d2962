/-
  The law CurWrites, walked: it returns true and writes nothing that was there; for every slice of Puts.
-/
import Derived.Test.YtfmkccimpmjmiaaPair
import Derived.Deep.DeepCutAuto
import Derived.Deep.CutBlock
import Derived.StillTailTactics
namespace Go.Proofs.Ytfmkccimpmjmiaa
open Go.RowKit
attribute [local go_sem ↓] Go.wp_at_zero Go.wp_at_succ

def WritesRel (base q m : Nat) (w : World) (want i : Value) (wr : World) : Prop :=
  ∃ (j n c : Nat) (A : Option Addr) (v : Value) (bs : List UInt8), j ≤ m ∧ i = .int .i64 (j : Int) ∧ want = .slice A n c ∧ Pair wr base q v bs A n c bs ∧ n ≤ 100 * j ∧ Below w.heap.size w wr

/-- What the switch leaves. -/
def WritesCut (q j : Nat) (w : World) (want : Value) (wx : World) : Prop :=
  ∃ (n c : Nat) (A : Option Addr) (v : Value) (zs : List UInt8), want = .slice A n c ∧ Pair wx q q v zs A n c zs ∧ n ≤ 100 * (j + 1) ∧ Below w.heap.size w wx

/-- The loop that sets the bytes of the list beside the Writer. -/
def SetLoop (q g n c nn a x : Nat) (v : Value) (zs bs : List UInt8) (w5 : World) (k : Value) (wr : World) : Prop :=
  ∃ i : Nat, i ≤ nn ∧ k = .int .i64 (i : Int) ∧ Pair wr q q v zs (some ⟨g, 0, none⟩) n c (over bs a (leBytes x i)) ∧ Kept (· = g) w5 wr

set_option maxRecDepth 100000 in
theorem writes_out (a0 : Option Addr) (m cap : Nat) (w : World) (h : 60 < m) :
    Calls Try.prog 4 #[.slice a0 m cap] w fun e w' => e = .returned (.bool true) ∧ Below w.heap.size w w' := by
  have d1 : decide ((60 : Int) < (m : Int)) = true := by simp; omega
  go_enter Try.func4, Try.ntmps4
  go_wp2_with fail
  refine (awake_any _).mono ?_
  rintro e w1 ⟨rfl, B1⟩
  go_wp2_with fail
  go_ret
  exact ⟨rfl, B1⟩

set_option maxRecDepth 100000 in
set_option maxHeartbeats 4000000 in
theorem writes_walk (a0 : Option Addr) (m cap : Nat) (ps : List PutD) (w : World) (hp : Puts w (· < w.heap.size) a0 m ps) (hm : m ≤ 60) :
    Calls Try.prog 4 #[.slice a0 m cap] w fun e w' => e = .returned (.bool true) ∧ Below w.heap.size w w' := by
  have HP := Lib.hid hp
  clear hp
  have d1 : decide ((60 : Int) < (m : Int)) = false := by simp; omega
  go_enter Try.func4, Try.ntmps4
  go_wp2_with fail
  refine (awake_any _).mono ?_
  rintro e w1 ⟨rfl, B1⟩
  go_wp2_with fail
  refine (lay_any _).mono ?_
  rintro e w2 ⟨rfl, he2⟩
  have hP2 : Pair w2 w1.heap.size w1.heap.size (.slice none 0 0) [] none 0 0 [] := by
    rw [← he2]
    exact ⟨Wr.start w1 _ (Nat.le_refl _), World.ownsRow_nil _ _ _ _, fun k e => by cases e⟩
  have B2 : Below w.heap.size w w2 := by rw [← he2]; exact B1.alloc B1.size _
  have HP2 := Lib.hid hP2
  have hbw := B1.size
  generalize w1.heap.size = q at HP2 hbw ⊢
  clear hP2 he2
  go_wp2_with fail
  go_loopw [4, 5] (fun want i wr => WritesRel q q m w want i wr) (fun _ i _ => m - (intOf i).toNat)
  case atStart => exact ⟨0, 0, 0, none, _, [], Nat.zero_le _, rfl, rfl, HP2.out, Nat.le_refl _, B2⟩
  case round =>
    obtain ⟨j, n, c, A, v, bs, hj, rfl, rfl, hpr, hnl, Br⟩ := hrel
    have HPR := Lib.hid hpr
    clear hpr
    by_cases hlt : j < m
    · have hps := HP.out.keep (fun k hk => Br.block k hk)
      obtain ⟨b, o, rfl, hb, hc⟩ := hps.2.1 (by omega)
      have hpd := hps.2.2 j hlt
      have hcj := hc j hlt
      generalize ps.getD j PutD.zero = pd at hpd hcj
      obtain ⟨kd, pn, pa, px, pA, pl, pc, pb⟩ := pd
      simp only at hpd
      have e0 : wr.cell? ⟨b, o + j * 5, none⟩ = some (.int .i64 kd) := hcj 0 (by omega)
      have e1 : wr.cell? ⟨b, o + j * 5 + 1, none⟩ = some (.int .i64 pn) := hcj 1 (by omega)
      have e2 : wr.cell? ⟨b, o + j * 5 + 2, none⟩ = some (.int .i64 pa) := hcj 2 (by omega)
      have e3 : wr.cell? ⟨b, o + j * 5 + 3, none⟩ = some (.int .u64 (px : Int)) := hcj 3 (by omega)
      have e4 : wr.cell? ⟨b, o + j * 5 + 4, none⟩ = some (.slice pA pl pc) := hcj 4 (by omega)
      have HPD := Lib.hid hpd
      clear hpd hcj hc hps
      by_cases hbig : 100 < pl
      · have d2 : decide ((100 : Int) < (pl : Int)) = true := by simp; omega
        go_wp2_with fail
        go_ret
        exact ⟨rfl, Br.alloc Br.size _⟩
      have d2 : decide ((100 : Int) < (pl : Int)) = false := by simp; omega
      obtain ⟨i0, hi0, hz0, hz1, hz2⟩ := info_parts info_u8
      have HZ := Lib.hid hz0; have HI := Lib.hid hi0; have H1 := Lib.hid hz1; have H2 := Lib.hid hz2
      clear hz0 hi0 hz1 hz2
      go_upto_block 2 with fail
      generalize hwb : wr.alloc (.cells #[.int .i64 kd, .int .i64 pn, .int .i64 pa, .int .u64 (px : Int), .slice pA pl pc] 43) = wb
      have hPB : Pair wb q q v bs A n c bs := by rw [← hwb]; exact HPR.out.below ((Below.refl _ _).alloc (Nat.le_refl _) _)
      have hBX : wb.heap[wr.heap.size]? = some (.cells #[.int .i64 kd, .int .i64 pn, .int .i64 pa, .int .u64 (px : Int), .slice pA pl pc] 43 (0, 0)) := by rw [← hwb]; exact heap_alloc_new wr _
      have Bb : Below w.heap.size w wb := by rw [← hwb]; exact Br.alloc Br.size _
      have hvk : Hid (¬ WrS q v wr.heap.size) := by
        intro e
        rcases e with e | e
        · have := HPR.out.1.lt_q; omega
        · have := HPR.out.1.lt_g e; omega
      have HHB : Hid (∀ wz : World, Below w.heap.size w wz → Held wz (· < w.heap.size) pA pl pb) := fun wz hz => HPD.out.1.keep (fun k hk => (hz.block k hk).trans (Br.block k hk).symm)
      have hx64 := HPD.out.2.1
      have HPB := Lib.hid hPB; have HBX := Lib.hid hBX
      have HKP : Hid (∀ wz : World, Kept (WrS q v) wb wz → Below w.heap.size w wz ∧ wz.heap[wr.heap.size]? = some (.cells #[.int .i64 kd, .int .i64 pn, .int .i64 pa, .int .u64 (px : Int), .slice pA pl pc] 43 (0, 0))) := by
        intro wz hk
        refine ⟨Bb.trans (hk.below Bb.size (fun k hlt e => ?_)), (hk.block _ (block_lt HBX.out) hvk.out).trans HBX.out⟩
        rcases e with e | e
        · omega
        · have := (HPB.out.1.2.1.lt k e).1; omega
      have hbl : bs.length = n := HPB.out.len
      have HBL := Lib.hid hbl
      clear hPB hBX hwb hbl e0 e1 e2 e3 e4
      generalize wr.heap.size = pk at HBX hvk HKP ⊢
      go_cut [4] (fun want wx => WritesCut q j w want wx)
      case first =>
        have x1 : wb.cell? ⟨pk, 1, none⟩ = some (.int .i64 pn) := by rw [block_cell HBX.out]; rfl
        have x2 : wb.cell? ⟨pk, 2, none⟩ = some (.int .i64 pa) := by rw [block_cell HBX.out]; rfl
        have x3 : wb.cell? ⟨pk, 3, none⟩ = some (.int .u64 (px : Int)) := by rw [block_cell HBX.out]; rfl
        have x4 : wb.cell? ⟨pk, 4, none⟩ = some (.slice pA pl pc) := by rw [block_cell HBX.out]; rfl
        by_cases k0 : kd = 0
        · as_aux_lemma =>
            subst k0
            go_wp2_with fail
            refine (wbyte_any q q v bs pn wb HPB.out.1 (by rw [HBL.out]; omega)).mono ?_
            rintro e w3 ⟨rfl, hto⟩
            obtain ⟨v', hp3, hk3⟩ := HPB.out.writer hto
            obtain ⟨B3, hbx3⟩ := HKP.out w3 hk3
            have y1 : w3.cell? ⟨pk, 1, none⟩ = some (.int .i64 pn) := by rw [block_cell hbx3]; rfl
            have y2 : w3.cell? ⟨pk, 2, none⟩ = some (.int .i64 pa) := by rw [block_cell hbx3]; rfl
            have y3 : w3.cell? ⟨pk, 3, none⟩ = some (.int .u64 (px : Int)) := by rw [block_cell hbx3]; rfl
            have y4 : w3.cell? ⟨pk, 4, none⟩ = some (.slice pA pl pc) := by rw [block_cell hbx3]; rfl
            have HP3 := Lib.hid hp3
            have HP3a : Hid (Pair (w3.alloc (.cells #[.int .u8 (IntKind.u8.wrap pn)] 5)) q q v' (bs ++ [byteInt pn]) A n c bs) := hp3.below ((Below.refl _ _).alloc (Nat.le_refl _) _)
            clear hp3 hk3 hto hbx3
            have L2 : n + 1 ≤ maxLen := by simp only [maxLen]; omega
            have L3 : (n + 1) * 1 ≤ 140737488355328 := by omega
            go_wp2_with (first | (at_builtin; refine wpList_append_held _ rfl (.tmp 102) (.tmp 106) 22 rfl q 5 i0 _ 1 Try.underlying22 HI.out HZ.out H1.out H2.out rfl _ n (cellsOf bs) rfl HP3a.out.2.1 (some ⟨w3.heap.size, 0, none⟩) 1 1 [.int .u8 (IntKind.u8.wrap pn)] rfl rfl (fun _ => ⟨_, rfl, cell_one_new _ _ _⟩) (by simp [Value.oneCell']) L2 L3 HP3a.out.1.2.2.2 ?_))
            intro A' c' W ho hg ha
            have hq : Pair W q q v' (bs ++ [byteInt pn]) A' (n + 1) c' (bs ++ [byteInt pn]) := HP3a.out.append ho.out hg (by simpa using ha.out) (by rw [cellsOf_append]; simp [cellsOf, wrap_byteInt])
            have BW : Below w.heap.size w W := (B3.alloc B3.size _).grown hg (by have := B3.size; simp; omega) (fun k hk => Nat.le_trans hbw (HP3.out.2.1.lt k hk).1)
            have HQ := Lib.hid hq
            clear ho hg ha hq HP3a y1 y2 y3 y4
            go_wp2_with fail
            go_meet
            exact ⟨n + 1, c', A', v', _, rfl, HQ.out, by omega, BW⟩
        have f0 : (kd == 0) = false := beq_eq_false_iff_ne.2 k0
        by_cases k1 : kd = 1
        · as_aux_lemma =>
            subst k1
            go_wp2_with fail
            refine (raw_any q q v bs pA pl pc pb wb (· < w.heap.size) HPB.out.1 (HHB.out wb Bb) (by rw [HBL.out]; omega)).mono ?_
            rintro e w3 ⟨rfl, hto⟩
            obtain ⟨v', hp3, hk3⟩ := HPB.out.writer hto
            obtain ⟨B3, hbx3⟩ := HKP.out w3 hk3
            have y1 : w3.cell? ⟨pk, 1, none⟩ = some (.int .i64 pn) := by rw [block_cell hbx3]; rfl
            have y2 : w3.cell? ⟨pk, 2, none⟩ = some (.int .i64 pa) := by rw [block_cell hbx3]; rfl
            have y3 : w3.cell? ⟨pk, 3, none⟩ = some (.int .u64 (px : Int)) := by rw [block_cell hbx3]; rfl
            have y4 : w3.cell? ⟨pk, 4, none⟩ = some (.slice pA pl pc) := by rw [block_cell hbx3]; rfl
            have HP3 := Lib.hid hp3
            clear hp3 hk3 hto hbx3
            have HH3 := Lib.hid (HHB.out w3 B3)
            have L1 : Hid ((cellsOf pb).length = pl) := show _ = _ by rw [cellsOf_length, HH3.out.1]
            have L2 : n + pl ≤ maxLen := by simp only [maxLen]; omega
            have L3 : (n + pl) * 1 ≤ 140737488355328 := by omega
            go_wp2_with (first | (at_builtin; refine wpList_append_held _ rfl (.tmp 114) (.tmp 116) 22 rfl q 5 i0 _ 1 Try.underlying22 HI.out HZ.out H1.out H2.out rfl _ n (cellsOf bs) rfl HP3.out.2.1 pA pl pc (cellsOf pb) rfl L1.out HH3.out.cellsAt (cellsOf_one pb) L2 L3 HP3.out.1.2.2.2 ?_))
            intro A' c' W ho hg ha
            have hq : Pair W q q v' (bs ++ pb) A' (n + pl) c' (bs ++ pb) := HP3.out.append ho.out hg ha.out (by rw [cellsOf_append])
            have BW : Below w.heap.size w W := B3.grown hg B3.size (fun k hk => Nat.le_trans hbw (HP3.out.2.1.lt k hk).1)
            have HQ := Lib.hid hq
            clear ho hg ha hq y1 y2 y3 y4
            go_wp2_with fail
            go_meet
            exact ⟨n + pl, c', A', v', _, rfl, HQ.out, by omega, BW⟩
        have f1 : (kd == 1) = false := beq_eq_false_iff_ne.2 k1
        by_cases k2 : kd = 2
        · subst k2
          by_cases hno : pn < 1 ∨ 8 < pn
          · have HNO := Lib.hid hno
            by_cases hlo : pn < 1
            · as_aux_lemma =>
                have z1 : decide (1 ≤ pn) = false := by simp; omega
                clear hno
                go_wp2_with fail
                refine (wlow_no _ _ pn wb HNO.out).mono ?_
                rintro e w3 ⟨rfl, rfl⟩
                go_wp2_with fail
                go_meet
                exact ⟨n, c, A, v, _, rfl, HPB.out, by omega, Bb⟩
            · as_aux_lemma =>
                have z1 : decide (1 ≤ pn) = true := by simp; omega
                have z2 : decide (pn ≤ 8) = false := by simp; omega
                clear hno
                go_wp2_with fail
                refine (wlow_no _ _ pn wb HNO.out).mono ?_
                rintro e w3 ⟨rfl, rfl⟩
                go_wp2_with fail
                go_meet
                exact ⟨n, c, A, v, _, rfl, HPB.out, by omega, Bb⟩
          · as_aux_lemma =>
              obtain ⟨nn, rfl⟩ := Int.eq_ofNat_of_zero_le (show 0 ≤ pn by omega)
              have g1 : 1 ≤ nn := by omega
              have g8 : nn ≤ 8 := by omega
              have z1 : decide ((1 : Int) ≤ (nn : Int)) = true := by simp; omega
              have z2 : decide ((nn : Int) ≤ 8) = true := by simp; omega
              clear hno
              go_wp2_with fail
              refine (wlow_ok q q v bs px nn wb HPB.out.1 hx64 g1 g8 (by rw [HBL.out]; omega)).mono ?_
              rintro e w3 ⟨rfl, hto⟩
              obtain ⟨v', hp3, hk3⟩ := HPB.out.writer hto
              obtain ⟨B3, hbx3⟩ := HKP.out w3 hk3
              have y1 : w3.cell? ⟨pk, 1, none⟩ = some (.int .i64 (nn : Int)) := by rw [block_cell hbx3]; rfl
              have y2 : w3.cell? ⟨pk, 2, none⟩ = some (.int .i64 pa) := by rw [block_cell hbx3]; rfl
              have y3 : w3.cell? ⟨pk, 3, none⟩ = some (.int .u64 (px : Int)) := by rw [block_cell hbx3]; rfl
              have y4 : w3.cell? ⟨pk, 4, none⟩ = some (.slice pA pl pc) := by rw [block_cell hbx3]; rfl
              have HP3 := Lib.hid hp3
              clear hp3 hk3 hto hbx3
              go_wp2_with fail
              refine (putLow_ok px nn w3 hx64 g1 g8).mono ?_
              rintro e w5 ⟨A5, c5, rfl, hown5, hb5⟩
              rw [leBytes_length] at hown5 ⊢
              have B5 : Below w.heap.size w w5 := B3.trans (hb5.mono B3.size)
              have HP5 : Hid (Pair w5 q q v' (bs ++ leBytes px nn) A n c bs) := HP3.out.below hb5
              have HO5 := Lib.hid hown5
              clear hown5 hb5 y1 y2 y3 y4
              have L1 : Hid ((cellsOf (leBytes px nn)).length = nn) := show _ = _ by rw [cellsOf_length, leBytes_length]
              have L2 : n + nn ≤ maxLen := by simp only [maxLen]; omega
              have L3 : (n + nn) * 1 ≤ 140737488355328 := by omega
              go_wp2_with (first | (at_builtin; refine wpList_append_held _ rfl (.tmp 134) (.tmp 139) 22 rfl q 5 i0 _ 1 Try.underlying22 HI.out HZ.out H1.out H2.out rfl _ n (cellsOf bs) rfl HP5.out.2.1 A5 nn c5 (cellsOf (leBytes px nn)) rfl L1.out (own_cellsAt HO5.out) (cellsOf_one _) L2 L3 HP5.out.1.2.2.2 ?_))
              intro A' c' W ho hg ha
              have hq : Pair W q q v' (bs ++ leBytes px nn) A' (n + nn) c' (bs ++ leBytes px nn) := HP5.out.append ho.out hg ha.out (by rw [cellsOf_append])
              have BW : Below w.heap.size w W := B5.grown hg B5.size (fun k hk => Nat.le_trans hbw (HP5.out.2.1.lt k hk).1)
              have HQ := Lib.hid hq
              clear ho hg ha hq
              go_wp2_with fail
              go_meet
              exact ⟨n + nn, c', A', v', _, rfl, HQ.out, by omega, BW⟩
        have f2 : (kd == 2) = false := beq_eq_false_iff_ne.2 k2
        by_cases k3 : kd = 3
        · subst k3
          by_cases hno : pn < 1 ∨ 8 < pn
          · have HNO := Lib.hid hno
            by_cases hlo : pn < 1
            · as_aux_lemma =>
                have z1 : decide (1 ≤ pn) = false := by simp; omega
                clear hno
                go_wp2_with fail
                refine (whigh_no _ _ pn wb HNO.out).mono ?_
                rintro e w3 ⟨rfl, rfl⟩
                go_wp2_with fail
                go_meet
                exact ⟨n, c, A, v, _, rfl, HPB.out, by omega, Bb⟩
            · as_aux_lemma =>
                have z1 : decide (1 ≤ pn) = true := by simp; omega
                have z2 : decide (pn ≤ 8) = false := by simp; omega
                clear hno
                go_wp2_with fail
                refine (whigh_no _ _ pn wb HNO.out).mono ?_
                rintro e w3 ⟨rfl, rfl⟩
                go_wp2_with fail
                go_meet
                exact ⟨n, c, A, v, _, rfl, HPB.out, by omega, Bb⟩
          · as_aux_lemma =>
              obtain ⟨nn, rfl⟩ := Int.eq_ofNat_of_zero_le (show 0 ≤ pn by omega)
              have g1 : 1 ≤ nn := by omega
              have g8 : nn ≤ 8 := by omega
              have z1 : decide ((1 : Int) ≤ (nn : Int)) = true := by simp; omega
              have z2 : decide ((nn : Int) ≤ 8) = true := by simp; omega
              clear hno
              go_wp2_with fail
              refine (whigh_ok q q v bs px nn wb HPB.out.1 hx64 g1 g8 (by rw [HBL.out]; omega)).mono ?_
              rintro e w3 ⟨rfl, hto⟩
              obtain ⟨v', hp3, hk3⟩ := HPB.out.writer hto
              obtain ⟨B3, hbx3⟩ := HKP.out w3 hk3
              have y1 : w3.cell? ⟨pk, 1, none⟩ = some (.int .i64 (nn : Int)) := by rw [block_cell hbx3]; rfl
              have y2 : w3.cell? ⟨pk, 2, none⟩ = some (.int .i64 pa) := by rw [block_cell hbx3]; rfl
              have y3 : w3.cell? ⟨pk, 3, none⟩ = some (.int .u64 (px : Int)) := by rw [block_cell hbx3]; rfl
              have y4 : w3.cell? ⟨pk, 4, none⟩ = some (.slice pA pl pc) := by rw [block_cell hbx3]; rfl
              have HP3 := Lib.hid hp3
              clear hp3 hk3 hto hbx3
              go_wp2_with fail
              refine (putHigh_ok px nn w3 hx64 g1 g8).mono ?_
              rintro e w5 ⟨A5, c5, rfl, hown5, hb5⟩
              rw [beTo_length] at hown5 ⊢
              have B5 : Below w.heap.size w w5 := B3.trans (hb5.mono B3.size)
              have HP5 : Hid (Pair w5 q q v' (bs ++ beTo px nn nn) A n c bs) := HP3.out.below hb5
              have HO5 := Lib.hid hown5
              clear hown5 hb5 y1 y2 y3 y4
              have L1 : Hid ((cellsOf (beTo px nn nn)).length = nn) := show _ = _ by rw [cellsOf_length, beTo_length]
              have L2 : n + nn ≤ maxLen := by simp only [maxLen]; omega
              have L3 : (n + nn) * 1 ≤ 140737488355328 := by omega
              go_wp2_with (first | (at_builtin; refine wpList_append_held _ rfl (.tmp 157) (.tmp 162) 22 rfl q 5 i0 _ 1 Try.underlying22 HI.out HZ.out H1.out H2.out rfl _ n (cellsOf bs) rfl HP5.out.2.1 A5 nn c5 (cellsOf (beTo px nn nn)) rfl L1.out (own_cellsAt HO5.out) (cellsOf_one _) L2 L3 HP5.out.1.2.2.2 ?_))
              intro A' c' W ho hg ha
              have hq : Pair W q q v' (bs ++ beTo px nn nn) A' (n + nn) c' (bs ++ beTo px nn nn) := HP5.out.append ho.out hg ha.out (by rw [cellsOf_append])
              have BW : Below w.heap.size w W := B5.grown hg B5.size (fun k hk => Nat.le_trans hbw (HP5.out.2.1.lt k hk).1)
              have HQ := Lib.hid hq
              clear ho hg ha hq
              go_wp2_with fail
              go_meet
              exact ⟨n + nn, c', A', v', _, rfl, HQ.out, by omega, BW⟩
        have f3 : (kd == 3) = false := beq_eq_false_iff_ne.2 k3
        by_cases c1 : pn < 1
        · as_aux_lemma =>
            have HNO : Hid (NoSet bs pa pn) := .inl c1
            have HNP : Hid (pn < 1 ∨ 8 < pn) := .inl c1
            have z1 : decide (1 ≤ pn) = false := by simp; omega
            go_wp2_with fail
            refine (set_no q q v bs pa _ _ wb HPB.out.1 HNO.out).mono ?_
            rintro e w3 ⟨rfl, rfl⟩
            go_wp2_with fail
            refine (putLow_no _ pn wb HNP.out).mono ?_
            rintro e w5 ⟨A5, c5, rfl, _, hb5⟩
            rw [List.length_nil]
            have B5 : Below w.heap.size w w5 := Bb.trans (hb5.mono Bb.size)
            have HP5 : Hid (Pair w5 q q v bs A n c bs) := HPB.out.below hb5
            clear hb5
            go_wp2_with fail
            refine wp_loop_rounds 1 ?_
            rw [rounds_succ]
            go_wp2_with fail
            go_meet
            exact ⟨n, c, A, v, _, rfl, HP5.out, by omega, B5⟩
        have z1 : decide (1 ≤ pn) = true := by simp; omega
        by_cases c2 : 8 < pn
        · as_aux_lemma =>
            have HNO : Hid (NoSet bs pa pn) := .inr (.inl c2)
            have HNP : Hid (pn < 1 ∨ 8 < pn) := .inr c2
            have z2 : decide (pn ≤ 8) = false := by simp; omega
            go_wp2_with fail
            refine (set_no q q v bs pa _ _ wb HPB.out.1 HNO.out).mono ?_
            rintro e w3 ⟨rfl, rfl⟩
            go_wp2_with fail
            refine (putLow_no _ pn wb HNP.out).mono ?_
            rintro e w5 ⟨A5, c5, rfl, _, hb5⟩
            rw [List.length_nil]
            have B5 : Below w.heap.size w w5 := Bb.trans (hb5.mono Bb.size)
            have HP5 : Hid (Pair w5 q q v bs A n c bs) := HPB.out.below hb5
            clear hb5
            go_wp2_with fail
            refine wp_loop_rounds 1 ?_
            rw [rounds_succ]
            go_wp2_with fail
            go_meet
            exact ⟨n, c, A, v, _, rfl, HP5.out, by omega, B5⟩
        have z2 : decide (pn ≤ 8) = true := by simp; omega
        by_cases c3 : pa < 0
        · as_aux_lemma =>
            have HNO : Hid (NoSet bs pa pn) := .inr (.inr (.inl c3))
            have z3 : decide (0 ≤ pa) = false := by simp; omega
            obtain ⟨nn, rfl⟩ := Int.eq_ofNat_of_zero_le (show 0 ≤ pn by omega)
            have g1 : 1 ≤ nn := by omega
            have g8 : nn ≤ 8 := by omega
            have z9 : decide ((0 : Int) < (nn : Int)) = true := by simp; omega
            have z9' : decide (0 < nn) = true := by simp; omega
            go_wp2_with fail
            refine (set_no q q v bs pa _ _ wb HPB.out.1 HNO.out).mono ?_
            rintro e w3 ⟨rfl, rfl⟩
            go_wp2_with fail
            refine (putLow_ok px nn wb hx64 g1 g8).mono ?_
            rintro e w5 ⟨A5, c5, rfl, _, hb5⟩
            rw [leBytes_length]
            have B5 : Below w.heap.size w w5 := Bb.trans (hb5.mono Bb.size)
            have HP5 : Hid (Pair w5 q q v bs A n c bs) := HPB.out.below hb5
            clear hb5
            go_wp2_with fail
            refine wp_loop_rounds 1 ?_
            rw [rounds_succ]
            go_wp2_with fail
            go_meet
            exact ⟨n, c, A, v, _, rfl, HP5.out, by omega, B5⟩
        have z3 : decide (0 ≤ pa) = true := by simp; omega
        by_cases c4 : (n : Int) < pa
        · as_aux_lemma =>
            have HNO : Hid (NoSet bs pa pn) := .inr (.inr (.inr (by rw [HBL.out]; omega)))
            have z4 : decide (pa ≤ (n : Int)) = false := by simp; omega
            obtain ⟨nn, rfl⟩ := Int.eq_ofNat_of_zero_le (show 0 ≤ pn by omega)
            have g1 : 1 ≤ nn := by omega
            have g8 : nn ≤ 8 := by omega
            have z9 : decide ((0 : Int) < (nn : Int)) = true := by simp; omega
            have z9' : decide (0 < nn) = true := by simp; omega
            go_wp2_with fail
            refine (set_no q q v bs pa _ _ wb HPB.out.1 HNO.out).mono ?_
            rintro e w3 ⟨rfl, rfl⟩
            go_wp2_with fail
            refine (putLow_ok px nn wb hx64 g1 g8).mono ?_
            rintro e w5 ⟨A5, c5, rfl, _, hb5⟩
            rw [leBytes_length]
            have B5 : Below w.heap.size w w5 := Bb.trans (hb5.mono Bb.size)
            have HP5 : Hid (Pair w5 q q v bs A n c bs) := HPB.out.below hb5
            clear hb5
            go_wp2_with fail
            refine wp_loop_rounds 1 ?_
            rw [rounds_succ]
            go_wp2_with fail
            go_meet
            exact ⟨n, c, A, v, _, rfl, HP5.out, by omega, B5⟩
        have z4 : decide (pa ≤ (n : Int)) = true := by simp; omega
        by_cases c5 : (n : Int) - pa < pn
        · as_aux_lemma =>
            have HNO : Hid (NoSet bs pa pn) := .inr (.inr (.inr (by rw [HBL.out]; omega)))
            have z5 : decide (pn ≤ (n : Int) - pa) = false := by simp; omega
            obtain ⟨nn, rfl⟩ := Int.eq_ofNat_of_zero_le (show 0 ≤ pn by omega)
            have g1 : 1 ≤ nn := by omega
            have g8 : nn ≤ 8 := by omega
            have z9 : decide ((0 : Int) < (nn : Int)) = true := by simp; omega
            have z9' : decide (0 < nn) = true := by simp; omega
            go_wp2_with fail
            refine (set_no q q v bs pa _ _ wb HPB.out.1 HNO.out).mono ?_
            rintro e w3 ⟨rfl, rfl⟩
            go_wp2_with fail
            refine (putLow_ok px nn wb hx64 g1 g8).mono ?_
            rintro e w5 ⟨A5, c5, rfl, _, hb5⟩
            rw [leBytes_length]
            have B5 : Below w.heap.size w w5 := Bb.trans (hb5.mono Bb.size)
            have HP5 : Hid (Pair w5 q q v bs A n c bs) := HPB.out.below hb5
            clear hb5
            go_wp2_with fail
            refine wp_loop_rounds 1 ?_
            rw [rounds_succ]
            go_wp2_with fail
            go_meet
            exact ⟨n, c, A, v, _, rfl, HP5.out, by omega, B5⟩
        clear z1 z2 z3 z4
        as_aux_lemma =>
          obtain ⟨nn, rfl⟩ := Int.eq_ofNat_of_zero_le (show 0 ≤ pn by omega)
          obtain ⟨aa, rfl⟩ := Int.eq_ofNat_of_zero_le (show 0 ≤ pa by omega)
          have g1 : 1 ≤ nn := by omega
          have g8 : nn ≤ 8 := by omega
          have gn : aa + nn ≤ n := by omega
          have z1 : decide ((1 : Int) ≤ (nn : Int)) = true := by simp; omega
          have z2 : decide ((nn : Int) ≤ 8) = true := by simp; omega
          have z3 : decide ((0 : Int) ≤ (aa : Int)) = true := by simp
          have z4 : decide ((aa : Int) ≤ (n : Int)) = true := by simp; omega
          have z4' : decide (aa ≤ n) = true := by simp; omega
          have z5 : decide ((nn : Int) ≤ (n : Int) - (aa : Int)) = true := by simp; omega
          clear c1 c2 c3 c4 c5
          go_wp2_with fail
          refine (set_ok q q v bs aa px nn wb HPB.out.1 hx64 g1 g8 (by rw [HBL.out]; exact gn)).mono ?_
          rintro e w3 ⟨rfl, hw3, hk3⟩
          have hto : WrTo q q v wb (over bs aa (leBytes px nn)) w3 := ⟨v, hw3, hk3.weaken (fun _ _ e => .inr e), .inl rfl⟩
          obtain ⟨v', hp3, hk3'⟩ := HPB.out.writer hto
          obtain ⟨B3, hbx3⟩ := HKP.out w3 hk3'
          have y1 : w3.cell? ⟨pk, 1, none⟩ = some (.int .i64 (nn : Int)) := by rw [block_cell hbx3]; rfl
          have y3 : w3.cell? ⟨pk, 3, none⟩ = some (.int .u64 (px : Int)) := by rw [block_cell hbx3]; rfl
          have HP3 := Lib.hid hp3; have HBX3 := Lib.hid hbx3
          clear hp3 hk3 hk3' hto hbx3 hw3
          go_wp2_with fail
          refine (putLow_ok px nn w3 hx64 g1 g8).mono ?_
          rintro e w5 ⟨A5, cp5, rfl, hown5, hb5⟩
          rw [leBytes_length] at hown5 ⊢
          have B5 : Below w.heap.size w w5 := B3.trans (hb5.mono B3.size)
          have HP5 : Hid (Pair w5 q q v' (over bs aa (leBytes px nn)) A n c bs) := HP3.out.below hb5
          have HBX5 : Hid (w5.heap[pk]? = some (.cells #[.int .i64 kd, .int .i64 (nn : Int), .int .i64 (aa : Int), .int .u64 (px : Int), .slice pA pl pc] 43 (0, 0))) := (hb5.block _ (block_lt HBX3.out)).trans HBX3.out
          obtain ⟨gl, rfl⟩ : ∃ gl, A5 = some ⟨gl, 0, none⟩ := by
            rcases hown5.2 with ⟨_, e⟩ | ⟨g, cap', cur, e, _⟩
            · omega
            · injection e with e1
              exact ⟨g, e1⟩
          obtain ⟨gw, rfl⟩ : ∃ gw, A = some ⟨gw, 0, none⟩ := by
            rcases HP5.out.2.1.2 with ⟨_, e⟩ | ⟨g, cap', cur, e, _⟩
            · omega
            · injection e with e1
              exact ⟨g, e1⟩
          have hgl := hown5.lt gl rfl
          have HL5 : Hid (∀ i, i < nn → w5.cell? ⟨gl, i, none⟩ = some (.int .u8 ((byteAt px i).toNat : Int))) := by
            intro i hi
            have h := World.ownsRow.cells hown5 (g := gl) rfl i _ (cellsOf_get (leBytes px nn) i (by rw [leBytes_length]; exact hi))
            rw [Addr.add_lit, Nat.zero_add, leBytes_getD px nn i hi] at h
            exact h
          have hgw3 := (HP3.out.2.1.lt gw rfl).2
          have hgw0 := (HP3.out.2.1.lt gw rfl).1
          have hne1 : gl ≠ gw := by omega
          have hne2 : pk ≠ gw := by
            intro e
            have h := HP3.out.2.1
            rcases h.2 with ⟨e1, _⟩ | ⟨g', cap', cur, e1, _, hh, _⟩
            · cases e1
            · injection e1 with e1
              injection e1 with e1
              injection e1 with e1
              subst e1
              rw [← e, HBX3.out] at hh
              injection hh with hh
              injection hh with _ ht
              exact absurd ht (by decide)
          have hpk5 := block_lt HBX5.out
          clear hown5 hb5 y1 y3 HP3 HBX3 x1 x2 x3 x4
          go_wp2_with fail
          go_loopw [9] (fun k wr => SetLoop q gw n c nn aa px v' (over bs aa (leBytes px nn)) bs w5 k wr) (fun k _ => nn - (intOf k).toNat)
          case atStart => exact ⟨0, Nat.zero_le _, rfl, by rw [leBytes, over_nil]; exact HP5.out, Kept.refl _ _⟩
          case round =>
            obtain ⟨i, hi, rfl, hpi, hki⟩ := hrel
            have HPI := Lib.hid hpi
            clear hpi
            have Bi : Below w.heap.size w wr := B5.trans (hki.below B5.size (by intro k hk e; omega))
            by_cases hlt : i < nn
            · have t1 : decide ((i : Int) < (nn : Int)) = true := by simp; omega
              have t1' : decide (i < nn) = true := by simp; omega
              have hcl : wr.cell? ⟨gl, i, none⟩ = some (.int .u8 ((byteAt px i).toNat : Int)) := (World.cell?_of_block (a := ⟨gl, i, none⟩) (hki.block gl hgl.2 hne1)).trans (HL5.out i hlt)
              have hcb : wr.cell? ⟨pk, 2, none⟩ = some (.int .i64 (aa : Int)) := by rw [block_cell ((hki.block pk hpk5 hne2).trans HBX5.out)]; rfl
              have hlo : aa + (leBytes px i).length ≤ bs.length := by rw [leBytes_length, HBL.out]; omega
              obtain ⟨⟨old, o1, o2⟩, hpp⟩ := HPI.out.poke (i := aa + i) (b := byteAt px i) (by omega)
              rw [show (over bs aa (leBytes px i)).set (aa + i) (byteAt px i) = over bs aa (leBytes px (i + 1)) by
                rw [leBytes, over_snoc _ _ _ _ (by rw [leBytes_length, HBL.out]; omega), leBytes_length]] at hpp
              have HPP := Lib.hid hpp
              have hy8 : (byteAt px i).toNat < 256 := (byteAt px i).toNat_lt
              obtain ⟨y, ey⟩ : ∃ y, y = (byteAt px i).toNat := ⟨_, rfl⟩
              rw [← ey] at hcl hy8
              have HY := Lib.hid ey
              clear hpp hlo ey
              have s1 : (0 : Int) ≤ (aa : Int) + (i : Int) := by omega
              have s2 : (aa : Int) + (i : Int) < (n : Int) := by omega
              have s3 : IntKind.i64.wrap ((aa : Int) + (i : Int)) = (aa : Int) + (i : Int) := IntWalk.i64_in _ (by omega)
              have s4 : ((aa : Int) + (i : Int)).toNat = aa + i := by omega
              have s5 : (i : Int) < (nn : Int) := by omega
              go_wp2_with fail
              go_still_tail 10, (by kernel_rfl)
              change wpList _ _ _ _ _ wr.drew
              have o1' : wr.drew.cell? ⟨gw, aa + i, none⟩ = some old := o1
              have o2' : wr.drew.frozen? ⟨gw, aa + i, none⟩ = false := o2
              have hto : Pair (wr.drew.setCell ⟨gw, aa + i, none⟩ (.int .u8 (y : Int))) q q v' (over bs aa (leBytes px nn)) (some ⟨gw, 0, none⟩) n c (over bs aa (leBytes px (i + 1))) := by rw [HY.out]; exact HPP.out
              have hk2 : Kept (· = gw) w5 (wr.drew.setCell ⟨gw, aa + i, none⟩ (.int .u8 (y : Int))) := hki.drew.setCell (p := ⟨gw, aa + i, none⟩) (fun _ => rfl) _
              have HTO := Lib.hid hto; have HK2 := Lib.hid hk2
              clear hto hk2 s1 s2 s3 s4 s5 o1 o2 hcl hcb
              generalize wr.drew = wd at o1' o2' HTO HK2 ⊢
              go_wp2_with fail
              go_roundw
              case rel => exact ⟨i + 1, by omega, by go_num, HTO.out, HK2.out⟩
              case measure => simp [intOf]; omega
            · have hin : i = nn := by omega
              have HF : Hid (Pair wr q q v' (over bs aa (leBytes px nn)) (some ⟨gw, 0, none⟩) n c (over bs aa (leBytes px nn))) := by
                have h := HPI.out
                rw [hin] at h
                exact h
              have t1 : decide ((i : Int) < (nn : Int)) = false := by simp; omega
              have t1' : decide (i < nn) = false := by simp; omega
              clear hin
              go_wp2_with fail
              go_meet
              exact ⟨n, c, _, v', _, rfl, HF.out, by omega, Bi⟩
      case rest =>
        as_aux_lemma =>
          obtain ⟨n', c', A', v', zs, rfl, hq, hnn, BW⟩ := hcut
          have HQ := Lib.hid hq
          clear hq
          generalize wc = W at HQ BW ⊢
          have hlen : zs.length = n' := HQ.out.len
          have HLen := Lib.hid hlen
          have HQd : Hid (Wr W.drew q q v' zs) := HQ.out.1
          have hS0 := run_string (P := Try.prog) (w := W.drew) 22 9 5 Try.underlying22 Try.underlying5 Try.underlying9 (Held.keep HQ.out.held (fun _ _ => rfl)) c'
          obtain ⟨t, ht⟩ : ∃ t : ByteArray, t = ⟨zs.toArray⟩ := ⟨_, rfl⟩
          rw [← ht] at hS0
          have HT := Lib.hid ht
          clear hlen ht
          go_wp2_with fail
          go_region_law
            (first
              | (go_simp
                 go_at_call 26
                 refine (len_any q q v' zs _ HQd.out).mono ?_
                 rw [HLen.out]
                 rintro e wL ⟨rfl, rfl⟩)
              | (go_simp
                 go_at_call 27
                 refine (bytes_any q q v' zs _ HQd.out).mono ?_
                 rw [HLen.out]
                 rintro e wB ⟨rfl, hgB, hbB⟩
                 have HB : Hid (Below W.heap.size W wB) := (Below.refl _ _).drew.trans hbB
                 have hS1 : (convert 22 9 (.slice (some ⟨W.heap.size, 0, none⟩) n' n')).run Try.prog wB = .ok (.string t) wB := by
                   rw [HT.out]
                   exact run_string 22 9 5 Try.underlying22 Try.underlying5 Try.underlying9 (Held.of_row (M := fun _ => True) (bs := zs) hgB HLen.out trivial) n'
                 have hS2 : (convert 22 9 (.slice A' n' c')).run Try.prog wB = .ok (.string t) wB := by
                   rw [HT.out]
                   exact run_string 22 9 5 Try.underlying22 Try.underlying5 Try.underlying9 (HQ.out.below HB.out).held c'
                 clear hgB hbB))
          all_goals
            clear hS0 hS1 hS2
            go_wp2_with fail
            go_roundw
            case rel => exact ⟨j + 1, n', c', A', v', zs, by omega, by go_num, rfl, HQ.out.below HB.out, by omega, BW.trans (HB.out.mono BW.size)⟩
            case measure => simp [intOf]; omega
    · go_wp2_with fail
      go_ret
      exact ⟨rfl, Br⟩

end Go.Proofs.Ytfmkccimpmjmiaa
