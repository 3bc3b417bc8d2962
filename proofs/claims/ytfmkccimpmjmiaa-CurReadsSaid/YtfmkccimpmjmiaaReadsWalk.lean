/-
  The law CurReads, walked: it returns true and writes nothing that was there; for every slice of bytes and every slice of acts.
-/
import Derived.Test.YtfmkccimpmjmiaaRefA
namespace Go.Proofs.Ytfmkccimpmjmiaa
open Go.RowKit

/-- The slice of Acts that begins at A and is m long reads as the pairs ks. -/
def Acts (w : World) (M : Nat → Prop) (A : Option Addr) (m : Nat) (ks : List (Int × Int)) : Prop :=
  ks.length = m ∧ (0 < m → ∃ b o, A = some ⟨b, o, none⟩ ∧ M b ∧ ∀ i, i < m → w.cell? ⟨b, o + i * 2, none⟩ = some (.int .i64 (ks.getD i (0, 0)).1) ∧ w.cell? ⟨b, o + i * 2 + 1, none⟩ = some (.int .i64 (ks.getD i (0, 0)).2)) ∧
    ∀ i, -9223372036854775808 ≤ (ks.getD i (0, 0)).2 ∧ (ks.getD i (0, 0)).2 ≤ 9223372036854775807
theorem Acts.keep {w w' : World} {M : Nat → Prop} {A : Option Addr} {m : Nat} {ks : List (Int × Int)} (h : Acts w M A m ks) (hk : ∀ k, M k → w'.heap[k]? = w.heap[k]?) : Acts w' M A m ks :=
  ⟨h.1, fun hn => by
    obtain ⟨b, o, e, hm, hc⟩ := h.2.1 hn
    exact ⟨b, o, e, hm, fun i hi => ⟨(World.cell?_of_block (hk b hm)).trans (hc i hi).1, (World.cell?_of_block (hk b hm)).trans (hc i hi).2⟩⟩, h.2.2⟩

def ReadsRel (q g : Nat) (bs : List UInt8) (m : Nat) (w : World) (k i : Value) (wr : World) : Prop :=
  ∃ at_ j : Nat, j ≤ m ∧ i = .int .i64 (j : Int) ∧ k = .int .i64 (at_ : Int) ∧ Rd wr q g bs at_ ∧ Below w.heap.size w wr

set_option maxRecDepth 100000 in
set_option maxHeartbeats 4000000 in
theorem reads_walk (a0 a1 : Option Addr) (len cap m mcap : Nat) (bs : List UInt8) (ks : List (Int × Int)) (w : World) (hh : Held w (· < w.heap.size) a0 len bs) (hcap : len ≤ cap) (ha : Acts w (· < w.heap.size) a1 m ks) (hl : len ≤ 200) (hm : m ≤ 60) :
    Calls Try.prog 3 #[.slice a0 len cap, .slice a1 m mcap] w fun e w' => e = .returned (.bool true) ∧ Below w.heap.size w w' := by
  have HBL := Lib.hid hh.1
  have HH := Lib.hid hh
  have HA := Lib.hid ha
  clear hh ha
  have d1 : decide ((200 : Int) < (len : Int)) = false := by simp; omega
  have d2 : decide ((60 : Int) < (m : Int)) = false := by simp; omega
  go_enter Try.func3, Try.ntmps3
  go_wp2_with fail
  refine (awake_any _).mono ?_
  rintro e w1 ⟨rfl, B1⟩
  go_wp2_with fail
  refine (new_any a0 len cap bs w1 (· < w.heap.size) (HH.out.keep (fun k hk => B1.block k hk)) (fun k hk => Nat.lt_of_lt_of_le hk B1.size) (by omega)).mono ?_
  rintro e w2 ⟨q, g, rfl, hr2, hb2, hq2, hg2⟩
  have B2 : Below w.heap.size w w2 := B1.trans (hb2.mono B1.size)
  have hqw : w.heap.size ≤ q := Nat.le_trans B1.size hq2
  have HR2 := Lib.hid hr2
  clear hr2 hb2 hq2 hg2
  go_wp2_with fail
  go_loopw [6, 7] (fun k i wr => ReadsRel q g bs m w k i wr) (fun _ i _ => m - (intOf i).toNat)
  case atStart => exact ⟨0, 0, Nat.zero_le _, rfl, rfl, HR2.out, B2⟩
  case round =>
    obtain ⟨k, j, hj, rfl, rfl, hr, Br⟩ := hrel
    have HR := Lib.hid hr
    have hkl : k ≤ len := by rw [← HBL.out]; exact hr.2.2.1
    clear hr
    by_cases hlt : j < m
    · obtain ⟨b, o, rfl, hbw, hc⟩ := (HA.out.keep (fun k hk => Br.block k hk)).2.1 (by omega)
      have hc0 := (hc j hlt).1
      have hc1 := (hc j hlt).2
      have hnb := HA.out.2.2 j
      generalize (ks.getD j (0, 0)).1 = kd at hc0
      generalize (ks.getD j (0, 0)).2 = n at hc1 hnb
      clear hc
      by_cases k0 : kd = 0
      · subst k0
        by_cases hk : k < len
        · as_aux_lemma =>
            have b1 : decide ((k : Int) < (len : Int)) = true := by simp; omega
            have b1' : decide (k < len) = true := by simp; omega
            obtain ⟨b0, o0, rfl, hb0, hcb⟩ := HH.out.2 (by omega)
            have hx8 : (bs.getD k 0).toNat < 256 := (bs.getD k 0).toNat_lt
            obtain ⟨x, ex⟩ : ∃ x, x = (bs.getD k 0).toNat := ⟨_, rfl⟩
            have hcx := hcb k hk
            rw [← ex] at hx8 hcx
            have HCX := Lib.hid hcx
            have HX := Lib.hid ex
            clear ex hcb hcx
            go_wp2_with fail
            refine (byte_ok q g bs k _ HR.out (by rw [HBL.out]; exact hk)).mono ?_
            rw [← HX.out]
            rintro e w3 ⟨rfl, hr3, hk3⟩
            have B3 : Below w.heap.size w w3 := Br.trans (hk3.below Br.size (by intro k hk e; omega))
            have hcx3 : w3.cell? ⟨b0, o0 + k, none⟩ = some (.int .u8 (x : Int)) := (B3.cell (p := ⟨b0, o0 + k, none⟩) hb0).trans HCX.out
            have HR3 := Lib.hid hr3
            clear hr3 hk3
            go_wp2_with fail
            refine (at_any q g bs (k + 1) _ HR3.out).mono ?_
            rintro e wA ⟨rfl, rfl⟩
            go_wp2_with fail
            refine (left_any q g bs (k + 1) _ HR3.out).mono ?_
            rw [HBL.out]
            rintro e wB ⟨rfl, c, rfl⟩
            go_wp2_with fail
            go_roundw
            case rel => exact ⟨k + 1, j + 1, by omega, by go_num, by go_num, HR3.out.drewN c, ⟨B3.os, B3.tape, B3.output, B3.size, B3.block⟩⟩
            case measure => simp [intOf]; omega
        · as_aux_lemma =>
            have b1 : decide ((k : Int) < (len : Int)) = false := by simp; omega
            have b1' : decide (k < len) = false := by simp; omega
            go_wp2_with fail
            refine (byte_no q g bs k _ HR.out (by rw [HBL.out]; omega)).mono ?_
            rintro e w3 ⟨rfl, c3, rfl⟩
            have hR3 : Rd (wr.drewN c3) q g bs k := HR.out.drewN c3
            have B3 : Below w.heap.size w (wr.drewN c3) := ⟨Br.os, Br.tape, Br.output, Br.size, Br.block⟩
            have HR3 := Lib.hid hR3
            clear hR3
            generalize wr.drewN c3 = w3 at HR3 B3 ⊢
            go_wp2_with fail
            refine (at_any q g bs (k) _ HR3.out).mono ?_
            rintro e wA ⟨rfl, rfl⟩
            go_wp2_with fail
            refine (left_any q g bs (k) _ HR3.out).mono ?_
            rw [HBL.out]
            rintro e wB ⟨rfl, c, rfl⟩
            go_wp2_with fail
            go_roundw
            case rel => exact ⟨k, j + 1, by omega, by go_num, by go_num, HR3.out.drewN c, ⟨B3.os, B3.tape, B3.output, B3.size, B3.block⟩⟩
            case measure => simp [intOf]; omega
      have e0 : (kd == 0) = false := beq_eq_false_iff_ne.2 k0
      by_cases k1 : kd = 1
      · subst k1
        by_cases hno : n < 0 ∨ (len : Int) - (k : Int) < n
        · have HNO := Lib.hid hno
          by_cases hneg : n < 0
          · as_aux_lemma =>
              have f1 : decide (0 ≤ n) = false := by simp; omega
              clear hno
              go_wp2_with fail
              refine (take_no q g bs k n _ HR.out (by rw [HBL.out]; exact HNO.out)).mono ?_
              rintro e w3 ⟨rfl, c3, rfl⟩
              have hR3 : Rd (wr.drewN c3) q g bs k := HR.out.drewN c3
              have B3 : Below w.heap.size w (wr.drewN c3) := ⟨Br.os, Br.tape, Br.output, Br.size, Br.block⟩
              have HR3 := Lib.hid hR3
              clear hR3
              generalize wr.drewN c3 = w3 at HR3 B3 ⊢
              go_wp2_with fail
              go_quiet (fail)
              have hR4 : Rd (w3.drewN nq) q g bs (k) := HR3.out.drewN nq
              have B4 : Below w.heap.size w (w3.drewN nq) := ⟨B3.os, B3.tape, B3.output, B3.size, B3.block⟩
              have HR4 := Lib.hid hR4
              clear hR4
              generalize w3.drewN nq = w4 at HR4 B4 ⊢
              go_wp2_with fail
              refine (at_any q g bs (k) _ HR4.out).mono ?_
              rintro e wA ⟨rfl, rfl⟩
              go_wp2_with fail
              refine (left_any q g bs (k) _ HR4.out).mono ?_
              rw [HBL.out]
              rintro e wB ⟨rfl, c, rfl⟩
              go_wp2_with fail
              go_roundw
              case rel => exact ⟨k, j + 1, by omega, by go_num, by go_num, HR4.out.drewN c, ⟨B4.os, B4.tape, B4.output, B4.size, B4.block⟩⟩
              case measure => simp [intOf]; omega
          · as_aux_lemma =>
              have f1 : decide (0 ≤ n) = true := by simp; omega
              have f2 : decide (n ≤ (len : Int) - (k : Int)) = false := by simp; omega
              clear hno
              go_wp2_with fail
              refine (take_no q g bs k n _ HR.out (by rw [HBL.out]; exact HNO.out)).mono ?_
              rintro e w3 ⟨rfl, c3, rfl⟩
              have hR3 : Rd (wr.drewN c3) q g bs k := HR.out.drewN c3
              have B3 : Below w.heap.size w (wr.drewN c3) := ⟨Br.os, Br.tape, Br.output, Br.size, Br.block⟩
              have HR3 := Lib.hid hR3
              clear hR3
              generalize wr.drewN c3 = w3 at HR3 B3 ⊢
              go_wp2_with fail
              go_quiet (fail)
              have hR4 : Rd (w3.drewN nq) q g bs (k) := HR3.out.drewN nq
              have B4 : Below w.heap.size w (w3.drewN nq) := ⟨B3.os, B3.tape, B3.output, B3.size, B3.block⟩
              have HR4 := Lib.hid hR4
              clear hR4
              generalize w3.drewN nq = w4 at HR4 B4 ⊢
              go_wp2_with fail
              refine (at_any q g bs (k) _ HR4.out).mono ?_
              rintro e wA ⟨rfl, rfl⟩
              go_wp2_with fail
              refine (left_any q g bs (k) _ HR4.out).mono ?_
              rw [HBL.out]
              rintro e wB ⟨rfl, c, rfl⟩
              go_wp2_with fail
              go_roundw
              case rel => exact ⟨k, j + 1, by omega, by go_num, by go_num, HR4.out.drewN c, ⟨B4.os, B4.tape, B4.output, B4.size, B4.block⟩⟩
              case measure => simp [intOf]; omega
        · as_aux_lemma =>
            obtain ⟨nn, rfl⟩ := Int.eq_ofNat_of_zero_le (show 0 ≤ n by omega)
            have gk : k + nn ≤ len := by omega
            have f1 : decide ((0 : Int) ≤ (nn : Int)) = true := by simp
            have f2 : decide ((nn : Int) ≤ (len : Int) - (k : Int)) = true := by simp; omega
            have f3 : (k : Int) + (nn : Int) ≤ (cap : Int) := by omega
            have s3 : IntKind.i64.wrap ((k : Int) + (nn : Int)) = (k : Int) + (nn : Int) := IntWalk.i64_in _ (by omega)
            have s4 : ((k : Int) + (nn : Int)).toNat = k + nn := by omega
            have S3 := Lib.hid s3; have S4 := Lib.hid s4
            clear hno hnb s3 s4
            obtain ⟨t, ht⟩ : ∃ t : ByteArray, t = ⟨((bs.drop k).take nn).toArray⟩ := ⟨_, rfl⟩
            have HT := Lib.hid ht
            clear ht
            go_wp2_with fail
            refine (take_ok q g bs k nn _ HR.out (by rw [HBL.out]; exact gk)).mono ?_
            rintro e w3 ⟨ga, rfl, hga, hca, hr3, hk3⟩
            have B3 : Below w.heap.size w w3 := Br.trans (hk3.below Br.size (by intro k hk e; omega))
            have HR3 := Lib.hid hr3
            have k1 : ∀ nq : Nat, (convert 22 9 (.slice (some ⟨ga, 0, none⟩) nn nn)).run Try.prog (w3.drewN nq) = .ok (.string t) (w3.drewN nq) := by
              intro nq
              rw [HT.out]
              exact run_string 22 9 5 Try.underlying22 Try.underlying5 Try.underlying9 (Held.of_row (w := w3.drewN nq) (M := fun _ => True) hca (by rw [List.length_take, List.length_drop, HBL.out]; omega) trivial) nn
            have K1 := Lib.hid k1
            clear hr3 hk3 hca k1
            have HB3 : Hid (Held w3 (· < w.heap.size) a0 len bs) := HH.out.keep (fun k hk => B3.block k hk)
            by_cases hz : nn = 0
            case' neg =>
              obtain ⟨b0, o0, rfl, _, _⟩ := HB3.out.2 (by omega)
              have k2 : ∀ c nq : Nat, (convert 22 9 (.slice (some ⟨b0, o0 + k, none⟩) nn c)).run Try.prog (w3.drewN nq) = .ok (.string t) (w3.drewN nq) := by
                intro c nq
                rw [HT.out]
                exact run_string (w := w3.drewN nq) 22 9 5 Try.underlying22 Try.underlying5 Try.underlying9 (HB3.out.part (k := k) (l := nn) gk (some ⟨b0, o0 + k, none⟩) (by intro _ b' o' e; injection e with e; injection e with e1 e2; rw [← e1, ← e2])) c
              have hck : ¬ cap = k := by omega
            case' pos =>
              have k2 : ∀ (A : Option Addr) (c nq : Nat), (convert 22 9 (.slice A nn c)).run Try.prog (w3.drewN nq) = .ok (.string t) (w3.drewN nq) := by
                intro A c nq
                rw [HT.out, hz]
                exact run_string 22 9 5 Try.underlying22 Try.underlying5 Try.underlying9 (Held.nothing (M := fun _ => True) (by simp)) c
              clear hz
              by_cases hck : cap = k
              case' pos =>
                have hck' := hck.symm
                subst hck'
            all_goals
              have k1 := K1.out
              have s3 := S3.out; have s4 := S4.out
              go_wp2_with fail
              go_quiet (fail)
              clear k1 k2 s3 s4
              have hR4 : Rd (w3.drewN nq) q g bs (k + nn) := HR3.out.drewN nq
              have B4 : Below w.heap.size w (w3.drewN nq) := ⟨B3.os, B3.tape, B3.output, B3.size, B3.block⟩
              have HR4 := Lib.hid hR4
              clear hR4
              generalize w3.drewN nq = w4 at HR4 B4 ⊢
              go_wp2_with fail
              refine (at_any q g bs (k + nn) _ HR4.out).mono ?_
              rintro e wA ⟨rfl, rfl⟩
              go_wp2_with fail
              refine (left_any q g bs (k + nn) _ HR4.out).mono ?_
              rw [HBL.out]
              rintro e wB ⟨rfl, c, rfl⟩
              go_wp2_with fail
              go_roundw
              case rel => exact ⟨k + nn, j + 1, by omega, by go_num, by go_num, HR4.out.drewN c, ⟨B4.os, B4.tape, B4.output, B4.size, B4.block⟩⟩
              case measure => simp [intOf]; omega
      have e1 : (kd == 1) = false := beq_eq_false_iff_ne.2 k1
      by_cases k2 : kd = 2
      · subst k2
        by_cases hno : n < 1 ∨ 8 < n ∨ (len : Int) - (k : Int) < n
        · as_aux_lemma =>
            have HNO := Lib.hid hno
            clear hno
            go_wp2_with fail
            refine (rlow_no q g bs k n _ HR.out (by unfold NoNum; rw [HBL.out]; exact HNO.out)).mono ?_
            rintro e w3 ⟨rfl, c3, rfl⟩
            have hR3 : Rd (wr.drewN c3) q g bs k := HR.out.drewN c3
            have B3 : Below w.heap.size w (wr.drewN c3) := ⟨Br.os, Br.tape, Br.output, Br.size, Br.block⟩
            have HR3 := Lib.hid hR3
            clear hR3
            generalize wr.drewN c3 = w3 at HR3 B3 ⊢
            go_wp2_with fail
            refine (refLow_no a0 len cap k n _ (by omega) hkl HNO.out).mono ?_
            rintro e w4 ⟨rfl, rfl⟩
            go_wp2_with fail
            refine (at_any q g bs (k) _ HR3.out).mono ?_
            rintro e wA ⟨rfl, rfl⟩
            go_wp2_with fail
            refine (left_any q g bs (k) _ HR3.out).mono ?_
            rw [HBL.out]
            rintro e wB ⟨rfl, c, rfl⟩
            go_wp2_with fail
            go_roundw
            case rel => exact ⟨k, j + 1, by omega, by go_num, by go_num, HR3.out.drewN c, ⟨B3.os, B3.tape, B3.output, B3.size, B3.block⟩⟩
            case measure => simp [intOf]; omega
        · as_aux_lemma =>
            obtain ⟨nn, rfl⟩ := Int.eq_ofNat_of_zero_le (show 0 ≤ n by omega)
            have g1 : 1 ≤ nn := by omega
            have g8 : nn ≤ 8 := by omega
            have gk : k + nn ≤ len := by omega
            clear hno hnb
            obtain ⟨y, hy⟩ : ∃ y, y = leNat ((bs.drop k).take nn) := ⟨_, rfl⟩
            have HY := Lib.hid hy
            clear hy
            go_wp2_with fail
            refine (rlow_ok q g bs k nn _ HR.out g1 g8 (by rw [HBL.out]; exact gk)).mono ?_
            rw [← HY.out]
            rintro e w3 ⟨rfl, hr3, hk3⟩
            have B3 : Below w.heap.size w w3 := Br.trans (hk3.below Br.size (by intro k hk e; omega))
            have HR3 := Lib.hid hr3
            clear hr3 hk3
            go_wp2_with fail
            refine (refLow_ok a0 len cap bs k nn w3 (· < w.heap.size) (HH.out.keep (fun k hk => B3.block k hk)) (by omega) g1 g8 gk).mono ?_
            rw [← HY.out]
            rintro e w4 ⟨rfl, rfl⟩
            go_wp2_with fail
            refine (at_any q g bs (k + nn) _ HR3.out).mono ?_
            rintro e wA ⟨rfl, rfl⟩
            go_wp2_with fail
            refine (left_any q g bs (k + nn) _ HR3.out).mono ?_
            rw [HBL.out]
            rintro e wB ⟨rfl, c, rfl⟩
            go_wp2_with fail
            go_roundw
            case rel => exact ⟨k + nn, j + 1, by omega, by go_num, by go_num, HR3.out.drewN c, ⟨B3.os, B3.tape, B3.output, B3.size, B3.block⟩⟩
            case measure => simp [intOf]; omega
      have e2 : (kd == 2) = false := beq_eq_false_iff_ne.2 k2
      by_cases hno : n < 1 ∨ 8 < n ∨ (len : Int) - (k : Int) < n
      · as_aux_lemma =>
          have HNO := Lib.hid hno
          clear hno
          go_wp2_with fail
          refine (rhigh_no q g bs k n _ HR.out (by unfold NoNum; rw [HBL.out]; exact HNO.out)).mono ?_
          rintro e w3 ⟨rfl, c3, rfl⟩
          have hR3 : Rd (wr.drewN c3) q g bs k := HR.out.drewN c3
          have B3 : Below w.heap.size w (wr.drewN c3) := ⟨Br.os, Br.tape, Br.output, Br.size, Br.block⟩
          have HR3 := Lib.hid hR3
          clear hR3
          generalize wr.drewN c3 = w3 at HR3 B3 ⊢
          go_wp2_with fail
          refine (refHigh_no a0 len cap k n _ (by omega) hkl HNO.out).mono ?_
          rintro e w4 ⟨rfl, rfl⟩
          go_wp2_with fail
          refine (at_any q g bs (k) _ HR3.out).mono ?_
          rintro e wA ⟨rfl, rfl⟩
          go_wp2_with fail
          refine (left_any q g bs (k) _ HR3.out).mono ?_
          rw [HBL.out]
          rintro e wB ⟨rfl, c, rfl⟩
          go_wp2_with fail
          go_roundw
          case rel => exact ⟨k, j + 1, by omega, by go_num, by go_num, HR3.out.drewN c, ⟨B3.os, B3.tape, B3.output, B3.size, B3.block⟩⟩
          case measure => simp [intOf]; omega
      · as_aux_lemma =>
          obtain ⟨nn, rfl⟩ := Int.eq_ofNat_of_zero_le (show 0 ≤ n by omega)
          have g1 : 1 ≤ nn := by omega
          have g8 : nn ≤ 8 := by omega
          have gk : k + nn ≤ len := by omega
          clear hno hnb
          obtain ⟨y, hy⟩ : ∃ y, y = beNat ((bs.drop k).take nn) := ⟨_, rfl⟩
          have HY := Lib.hid hy
          clear hy
          go_wp2_with fail
          refine (rhigh_ok q g bs k nn _ HR.out g1 g8 (by rw [HBL.out]; exact gk)).mono ?_
          rw [← HY.out]
          rintro e w3 ⟨rfl, hr3, hk3⟩
          have B3 : Below w.heap.size w w3 := Br.trans (hk3.below Br.size (by intro k hk e; omega))
          have HR3 := Lib.hid hr3
          clear hr3 hk3
          go_wp2_with fail
          refine (refHigh_ok a0 len cap bs k nn w3 (· < w.heap.size) (HH.out.keep (fun k hk => B3.block k hk)) (by omega) g1 g8 gk).mono ?_
          rw [← HY.out]
          rintro e w4 ⟨rfl, rfl⟩
          go_wp2_with fail
          refine (at_any q g bs (k + nn) _ HR3.out).mono ?_
          rintro e wA ⟨rfl, rfl⟩
          go_wp2_with fail
          refine (left_any q g bs (k + nn) _ HR3.out).mono ?_
          rw [HBL.out]
          rintro e wB ⟨rfl, c, rfl⟩
          go_wp2_with fail
          go_roundw
          case rel => exact ⟨k + nn, j + 1, by omega, by go_num, by go_num, HR3.out.drewN c, ⟨B3.os, B3.tape, B3.output, B3.size, B3.block⟩⟩
          case measure => simp [intOf]; omega
    · go_wp2_with fail
      go_ret
      exact ⟨rfl, Br⟩

end Go.Proofs.Ytfmkccimpmjmiaa
