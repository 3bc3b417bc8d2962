/-
  What base.Text does: a machine of states, by goto; no condition beyond what the contract asks.
-/
import Derived.Test.YtlimkiebbmidiaaSixT
namespace Go.Proofs.Ytlimkiebbmidiaa
open Go.RowKit

set_option maxHeartbeats 4000000 in
set_option maxRecDepth 100000 in
theorem text_any (A : Option Addr) (n c : Nat) (bs : List UInt8) (w : World) (hh : Held w (· < w.heap.size) A n bs) (hn : n ≤ 1000000) :
    Calls Try.prog 12 #[.slice A n c] w fun e w' => e = .returned (.string ⟨(b64 bs).toArray⟩) ∧ Below w.heap.size w w' := by
  have HH := Lib.hid hh
  have HLen := Lib.hid hh.1
  clear hh
  obtain ⟨out, ho⟩ : ∃ l, l = b64 bs := ⟨_, rfl⟩
  rw [← ho]
  have HO := Lib.hid ho
  have HOL : Hid (out.length ≤ 2000000) := show _ ≤ _ by rw [ho, b64_length, HLen.out]; omega
  clear ho
  go_enter Try.func12, Try.ntmps12
  go_wp2_with fail
  refine wp_scope_turns (TextJ w A n c bs out) ?_ ?_
  · rintro m l a' w0 (⟨rfl, K, x, k, hF, rfl, hk, h3, hb, B0, rfl⟩ | ⟨rfl, K, x, hF, hb, B0, rfl⟩ | ⟨h23, K, X, x, t, hF, rfl, hx, htl, ht, hb, B0, rfl⟩)
    · refine hF.elim (motive := fun a => ∃ rest, findLabel _ _ = some (.seq .skip rest) ∧ rest.wp _ (Jumps (LessJ (TextJ w A n c bs out) _) _) a w0) ?_
      intro u1 u2 u6 u7 u8 u9 u10 u11 u12 u13 u14 u15 u16 u17 u18 u19 u20 u21 u22 u23 u24 u25 u26 u27 u28 u29 u30 u31 u32 u33 u34 u35 u36 u37 u38 u39 u40 u41 u42 u43 u44 u45 u46 u47 u48 u49 u50 u51 u52 u53 u54 u55 u56 u57 u58 u59 u60 u61 u62 u63 u64 u65 u66 u67 u68 u69 u70 u71 u72 u73 u74 u75 u76 u77 u78 u79 u80 u81 u82
      clear hF
      have HB0 := Lib.hid hb
      clear hb
      by_cases hc0 : n = k
      · have d : ((k : Int) == (n : Int)) = true := by simp; omega
        have HB1 : Hid (Bld w.heap.size w.heap.size out w0) := show _ by rw [HO.out, ← b64_at0 (HLen.out.trans hc0)]; exact HB0.out
        clear HB0 hc0
        refine ⟨_, rfl, ?_⟩
        go_wp2_with fail
        go_step3
        exact ⟨0, by omega, .inr (.inl ⟨rfl, _, _, ⟨_, _, _, _, _, _, _, _, _, _, _, _, _, _, _, _, _, _, _, _, _, _, _, _, _, _, _, _, _, _, _, _, _, _, _, _, _, _, _, _, _, _, _, _, _, _, _, _, _, _, _, _, _, _, _, _, _, _, _, _, _, _, _, _, _, _, _, _, _, _, _, _, _, _, _, _, _, _, _, rfl⟩, HB1.out, B0, rfl⟩)⟩
      · have d : ((k : Int) == (n : Int)) = false := by simp; omega
        obtain ⟨b, o, rfl, hblk, hc⟩ := HH.out.2 (by omega)
        have HC : Hid (∀ W, Below w.heap.size w W → ∀ i, i < n → W.cell? ⟨b, o + i, none⟩ = some (.int .u8 ((bs.getD i 0).toNat : Int))) := show ∀ W, _ from fun W hW i hi => (World.cell?_of_block (hW.block b hblk)).trans (hc i hi)
        clear hblk hc
        have hc1 := HC.out w0 B0 k (by omega)
        obtain ⟨x0, hx0⟩ : ∃ x0, x0 = (bs.getD k 0).toNat := ⟨_, rfl⟩
        have hx0l : x0 < 256 := by rw [hx0]; exact UInt8.toNat_lt _
        have HX0 := Lib.hid hx0
        rw [← hx0] at hc1
        clear hx0
        have a3 : bits .and .u8 (x0 : Int) 3 = (x0 : Int) % 4 := bits_mask .u8 8 (by decide) wraps_u8 2 (by decide) _ (by omega) (by omega)
        have m3 : (x0 : Int) % 4 * 16 % 256 = (x0 : Int) % 4 * 16 := by omega
        have g1 := fun w => at_sgn .u8 ((x0 : Int) / 4) (x0 / 4) (by omega) (by omega) w
        have htl : (b64 (bs.take k)).length ≤ 1999990 := by rw [b64_length, List.length_take]; omega
        have E1 : Hid (n = k + 1 → out = b64 (bs.take k) ++ [sgn (x0 / 4)] ++ [sgn (x0 % 4 * 16)] ++ [61, 61]) := show _ → _ from fun h => by rw [HO.out, b64_at1 (HLen.out.trans h) h3, ← HX0.out]
        have E2 : Hid (∀ y, y = (bs.getD (k + 1) 0).toNat → n = k + 2 → out = b64 (bs.take k) ++ [sgn (x0 / 4)] ++ [sgn (x0 % 4 * 16 + y / 16)] ++ [sgn (y % 16 * 4)] ++ [61]) := show ∀ y, _ from fun y hy h => by rw [HO.out, b64_at2 (HLen.out.trans h) h3, ← HX0.out, ← hy]
        have E3 : Hid (∀ y z, y = (bs.getD (k + 1) 0).toNat → z = (bs.getD (k + 2) 0).toNat → k + 3 ≤ n → b64 (bs.take (k + 3)) = b64 (bs.take k) ++ [sgn (x0 / 4)] ++ [sgn (x0 % 4 * 16 + y / 16)] ++ [sgn (y % 16 * 4 + z / 64)] ++ [sgn (z % 64)]) := show ∀ y z, _ from fun y z hy hz h => by rw [b64_at3 (by rw [HLen.out]; exact h) h3, ← HX0.out, ← hy, ← hz]
        generalize b64 (bs.take k) = t at *
        refine ⟨_, rfl, ?_⟩
        go_wp2_with fail
        refine (writeByte_any w.heap.size w.heap.size t (sgn (x0 / 4)) w0 HB0.out (by omega) B0.size).mono ?_
        rintro e w1 ⟨rfl, hb1, B1⟩
        have B1' : Below w.heap.size w w1 := B0.trans B1
        have HB1 := Lib.hid hb1
        clear hb1 B1 HB0
        have hc1 := HC.out w1 B1' k (by omega)
        rw [← HX0.out] at hc1
        by_cases hcn1 : n = k + 1
        · have d1 : ((k : Int) + 1 == (n : Int)) = true := by simp; omega
          have HE := Lib.hid (E1.out hcn1)
          have hm : 1 < 2 + (n - k) := by omega
          clear E1 E2 E3 HC hcn1 HX0 HLen
          go_wp2_with fail
          go_step3
          exact ⟨1, hm, .inr (.inr ⟨.inl rfl, _, _, x0 % 4 * 16, t ++ [sgn (x0 / 4)], ⟨_, _, _, _, _, _, _, _, _, _, _, _, _, _, _, _, _, _, _, _, _, _, _, _, _, _, _, _, _, _, _, _, _, _, _, _, _, _, _, _, _, _, _, _, _, _, _, _, _, _, _, _, _, _, _, _, _, _, _, _, _, _, _, _, _, _, _, _, _, _, _, _, _, _, _, _, _, _, _, rfl⟩, by omega, by omega, by simp; omega, HE.out, HB1.out, B1', rfl⟩)⟩
        · have d1 : ((k : Int) + 1 == (n : Int)) = false := by simp; omega
          have hc2 := HC.out w1 B1' (k + 1) (by omega)
          obtain ⟨x1, hx1⟩ : ∃ x1, x1 = (bs.getD (k + 1) 0).toNat := ⟨_, rfl⟩
          have hx1l : x1 < 256 := by rw [hx1]; exact UInt8.toNat_lt _
          have HX1 := Lib.hid hx1
          rw [← hx1] at hc2
          clear hx1 E1
          have a15 : bits .and .u8 (x1 : Int) 15 = (x1 : Int) % 16 := bits_mask .u8 8 (by decide) wraps_u8 4 (by decide) _ (by omega) (by omega)
          have m15 : (x1 : Int) % 16 * 4 % 256 = (x1 : Int) % 16 * 4 := by omega
          have j2 : bits .or .u8 ((x0 : Int) % 4 * 16) ((x1 : Int) / 16) = (x0 : Int) % 4 * 16 + (x1 : Int) / 16 := bits_join .u8 8 (by decide) wraps_u8 4 _ _ (by omega) (by omega) (by omega) (by omega) (by omega) (by omega)
          have g2 := fun w => at_sgn .u8 ((x0 : Int) % 4 * 16 + (x1 : Int) / 16) (x0 % 4 * 16 + x1 / 16) (by omega) (by omega) w
          go_wp2_with fail
          refine (writeByte_any w.heap.size w.heap.size _ (sgn (x0 % 4 * 16 + x1 / 16)) w1 HB1.out (by simp; omega) B1'.size).mono ?_
          rintro e w2 ⟨rfl, hb2, B2⟩
          have B2' : Below w.heap.size w w2 := B1'.trans B2
          have HB2 := Lib.hid hb2
          clear hb2 B2 HB1 hc1 hc2
          have hc2 := HC.out w2 B2' (k + 1) (by omega)
          rw [← HX1.out] at hc2
          by_cases hcn2 : n = k + 2
          · have d2 : ((k : Int) + 1 + 1 == (n : Int)) = true := by simp; omega
            have d2' : ((k : Int) + 2 == (n : Int)) = true := by simp; omega
            have HE := Lib.hid (E2.out x1 HX1.out hcn2)
            have hm : 1 < 2 + (n - k) := by omega
            have hlt1 : (k : Int) + 1 < (n : Int) := by omega
            clear E2 E3 HC hcn2 HX0 HX1 HLen hcn1
            go_wp2_with fail
            go_step3
            exact ⟨1, hm, .inr (.inr ⟨.inr rfl, _, _, x1 % 16 * 4, t ++ [sgn (x0 / 4)] ++ [sgn (x0 % 4 * 16 + x1 / 16)], ⟨_, _, _, _, _, _, _, _, _, _, _, _, _, _, _, _, _, _, _, _, _, _, _, _, _, _, _, _, _, _, _, _, _, _, _, _, _, _, _, _, _, _, _, _, _, _, _, _, _, _, _, _, _, _, _, _, _, _, _, _, _, _, _, _, _, _, _, _, _, _, _, _, _, _, _, _, _, _, _, rfl⟩, by omega, by omega, by simp; omega, HE.out, HB2.out, B2', rfl⟩)⟩
          · have d2 : ((k : Int) + 1 + 1 == (n : Int)) = false := by simp; omega
            have d2' : ((k : Int) + 2 == (n : Int)) = false := by simp; omega
            have hc3 := HC.out w2 B2' (k + 2) (by omega)
            obtain ⟨x2, hx2⟩ : ∃ x2, x2 = (bs.getD (k + 2) 0).toNat := ⟨_, rfl⟩
            have hx2l : x2 < 256 := by rw [hx2]; exact UInt8.toNat_lt _
            have HX2 := Lib.hid hx2
            rw [← hx2] at hc3
            clear hx2
            have HE := Lib.hid (E3.out x1 x2 HX1.out HX2.out (by omega))
            have a63 : bits .and .u8 (x2 : Int) 63 = (x2 : Int) % 64 := bits_mask .u8 8 (by decide) wraps_u8 6 (by decide) _ (by omega) (by omega)
            have j3 : bits .or .u8 ((x1 : Int) % 16 * 4) ((x2 : Int) / 64) = (x1 : Int) % 16 * 4 + (x2 : Int) / 64 := bits_join .u8 8 (by decide) wraps_u8 2 _ _ (by omega) (by omega) (by omega) (by omega) (by omega) (by omega)
            have g3 := fun w => at_sgn .u8 ((x1 : Int) % 16 * 4 + (x2 : Int) / 64) (x1 % 16 * 4 + x2 / 64) (by omega) (by omega) w
            have g4 := fun w => at_sgn .u8 ((x2 : Int) % 64) (x2 % 64) (by omega) (by omega) w
            clear E2 E3 g1 g2 j2
            go_wp2_with fail
            refine (writeByte_any w.heap.size w.heap.size _ (sgn (x1 % 16 * 4 + x2 / 64)) w2 HB2.out (by simp; omega) B2'.size).mono ?_
            rintro e w3 ⟨rfl, hb3, B3⟩
            have B3' : Below w.heap.size w w3 := B2'.trans B3
            have HB3 := Lib.hid hb3
            clear hb3 B3 HB2 hc2 hc3
            have hc3 := HC.out w3 B3' (k + 2) (by omega)
            rw [← HX2.out] at hc3
            go_wp2_with fail
            refine (writeByte_any w.heap.size w.heap.size _ (sgn (x2 % 64)) w3 HB3.out (by simp; omega) B3'.size).mono ?_
            rintro e w4 ⟨rfl, hb4, B4⟩
            have B4' : Below w.heap.size w w4 := B3'.trans B4
            have HB4 := Lib.hid hb4
            clear hb4 B4 HB3 hc3
            rw [← HE.out] at HB4
            have hm : 2 + (n - (k + 3)) < 2 + (n - k) := by omega
            have hk3 : k + 3 ≤ n := by omega
            have h33 : (k + 3) % 3 = 0 := by omega
            clear HE HC HX0 HX1 HX2 HLen hcn1 hcn2
            go_wp2_with fail
            go_step3
            exact ⟨2 + (n - (k + 3)), hm, .inl ⟨rfl, _, _, k + 3, ⟨_, _, _, _, _, _, _, _, _, _, _, _, _, _, _, _, _, _, _, _, _, _, _, _, _, _, _, _, _, _, _, _, _, _, _, _, _, _, _, _, _, _, _, _, _, _, _, _, _, _, _, _, _, _, _, _, _, _, _, _, _, _, _, _, _, _, _, _, _, _, _, _, _, _, _, _, _, _, _, rfl⟩, by omega, hk3, h33, HB4.out, B4', rfl⟩⟩
    · refine hF.elim (motive := fun a => ∃ rest, findLabel _ _ = some (.seq .skip rest) ∧ rest.wp _ (Jumps (LessJ (TextJ w A n c bs out) _) _) a w0) ?_
      intro u1 u2 u6 u7 u8 u9 u10 u11 u12 u13 u14 u15 u16 u17 u18 u19 u20 u21 u22 u23 u24 u25 u26 u27 u28 u29 u30 u31 u32 u33 u34 u35 u36 u37 u38 u39 u40 u41 u42 u43 u44 u45 u46 u47 u48 u49 u50 u51 u52 u53 u54 u55 u56 u57 u58 u59 u60 u61 u62 u63 u64 u65 u66 u67 u68 u69 u70 u71 u72 u73 u74 u75 u76 u77 u78 u79 u80 u81 u82
      clear hF
      have HB0 := Lib.hid hb
      clear hb
      refine ⟨_, rfl, ?_⟩
      go_wp2_with fail
      refine (builderString_any w.heap.size w.heap.size out w0 HB0.out B0.size).mono ?_
      rintro e w2 ⟨rfl, B2⟩
      have B2' : Below w.heap.size w w2 := B0.trans B2
      clear B2
      go_wp2_with fail
      rw [jumps_ret]
      go_ret
      exact ⟨rfl, B2'⟩
    · refine hF.elim (motive := fun a => ∃ rest, findLabel _ _ = some (.seq .skip rest) ∧ rest.wp _ (Jumps (LessJ (TextJ w A n c bs out) _) _) a w0) ?_
      intro u1 u2 u6 u7 u8 u9 u10 u11 u12 u13 u14 u15 u16 u17 u18 u19 u20 u21 u22 u23 u24 u25 u26 u27 u28 u29 u30 u31 u32 u33 u34 u35 u36 u37 u38 u39 u40 u41 u42 u43 u44 u45 u46 u47 u48 u49 u50 u51 u52 u53 u54 u55 u56 u57 u58 u59 u60 u61 u62 u63 u64 u65 u66 u67 u68 u69 u70 u71 u72 u73 u74 u75 u76 u77 u78 u79 u80 u81 u82
      clear hF
      have HB0 := Lib.hid hb
      have HT := Lib.hid ht
      clear hb ht
      have g1 := fun w => at_sgn .u8 (x : Int) x rfl hx w
      rcases h23 with rfl | rfl
      · refine ⟨_, rfl, ?_⟩
        go_wp2_with fail
        refine (writeByte_any w.heap.size w.heap.size t (sgn x) w0 HB0.out (by omega) B0.size).mono ?_
        rintro e w1 ⟨rfl, hb1, B1⟩
        have B1' : Below w.heap.size w w1 := B0.trans B1
        have HB1 := Lib.hid hb1
        clear hb1 B1 HB0
        go_wp2_with fail
        refine (writeString_any w.heap.size w.heap.size (t ++ [sgn x]) [61, 61] w1 HB1.out (by simp; omega) B1'.size).mono ?_
        rintro e w2 ⟨rfl, hb2, B2⟩
        have B2' : Below w.heap.size w w2 := B1'.trans B2
        have HB2 : Hid (Bld w.heap.size w.heap.size out w2) := show _ by rw [HT.out]; exact hb2
        clear hb2 B2 HB1
        go_wp2_with fail
        go_step3
        exact ⟨0, by omega, .inr (.inl ⟨rfl, _, _, ⟨_, _, _, _, _, _, _, _, _, _, _, _, _, _, _, _, _, _, _, _, _, _, _, _, _, _, _, _, _, _, _, _, _, _, _, _, _, _, _, _, _, _, _, _, _, _, _, _, _, _, _, _, _, _, _, _, _, _, _, _, _, _, _, _, _, _, _, _, _, _, _, _, _, _, _, _, _, _, _, rfl⟩, HB2.out, B2', rfl⟩)⟩
      · refine ⟨_, rfl, ?_⟩
        go_wp2_with fail
        refine (writeByte_any w.heap.size w.heap.size t (sgn x) w0 HB0.out (by omega) B0.size).mono ?_
        rintro e w1 ⟨rfl, hb1, B1⟩
        have B1' : Below w.heap.size w w1 := B0.trans B1
        have HB1 := Lib.hid hb1
        clear hb1 B1 HB0
        go_wp2_with fail
        refine (writeString_any w.heap.size w.heap.size (t ++ [sgn x]) [61] w1 HB1.out (by simp; omega) B1'.size).mono ?_
        rintro e w2 ⟨rfl, hb2, B2⟩
        have B2' : Below w.heap.size w w2 := B1'.trans B2
        have HB2 : Hid (Bld w.heap.size w.heap.size out w2) := show _ by rw [HT.out]; exact hb2
        clear hb2 B2 HB1
        go_wp2_with fail
        go_step3
        go_wp2_with fail
        refine (builderString_any w.heap.size w.heap.size out w2 HB2.out B2'.size).mono ?_
        rintro e w3 ⟨rfl, B3⟩
        have B3' : Below w.heap.size w w3 := B2'.trans B3
        clear B3
        go_wp2_with fail
        rw [jumps_ret]
        go_ret
        exact ⟨rfl, B3'⟩
  · intro again
    have HA := Lib.hid again
    clear again
    go_wp2_with fail
    rw [show ((n : Int) + 2) / 3 * 4 = (((n + 2) / 3 * 4 : Nat) : Int) by omega]
    refine (grow_any w.heap.size w.heap.size ((n + 2) / 3 * 4) _ (Nat.le_refl _) (heap_alloc_new w _) (by simp) (by omega)).mono ?_
    rintro e w1 ⟨rfl, hb1, B1⟩
    have B1' : Below w.heap.size w w1 := ((Below.refl _ _).alloc (Nat.le_refl _) _).trans B1
    have HB1 := Lib.hid hb1
    clear hb1 B1
    go_wp2_with fail
    go_step3
    simp only [Exit.then]
    refine ‹∀ a w, _ → _› _ _ ?_
    obtain ⟨rest, hf, hp⟩ := HA.out (2 + n) 1 _ w1 (.inl ⟨rfl, 0, 0, 0, ⟨_, _, _, _, _, _, _, _, _, _, _, _, _, _, _, _, _, _, _, _, _, _, _, _, _, _, _, _, _, _, _, _, _, _, _, _, _, _, _, _, _, _, _, _, _, _, _, _, _, _, _, _, _, _, _, _, _, _, _, _, _, _, _, _, _, _, _, _, _, _, _, _, _, _, _, _, _, _, _, rfl⟩, rfl, Nat.zero_le _, rfl, HB1.out, B1', rfl⟩)
    cases hf
    exact hp

end Go.Proofs.Ytlimkiebbmidiaa
