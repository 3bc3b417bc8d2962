/-
  What carried does. No condition beyond what each contract says.
-/
import Derived.Test.YtcejbkmmiklhbaaBigC
namespace Go.Proofs.Ytcejbkmmiklhbaa
open Go.RowKit

theorem info_u16 : (Try.prog.info? 45).map (fun i => (i.zero, i.size, i.bytes)) = some (some (.int .u16 0), 1, 2) := by kernel_rfl
theorem own_cap {w : World} {base n c : Nat} {e : TypeId} {A : Option Addr} {zs : List Value} (h : w.ownsRow base e 1 (.slice A n c) n zs) : n ≤ c ∧ c ≤ 9223372036854775807 := by
  rcases h.2 with ⟨e, h0⟩ | ⟨g, cap, cur, e, hb, hg, hnc, hm, hs, ht⟩
  · injection e with e1 e2 e3
    omega
  · injection e with e1 e2 e3
    subst e3
    refine ⟨hnc, ?_⟩
    unfold maxLen at hm
    omega
theorem make_nat (n : Nat) (hn : n ≤ 1000000) (w : World) : ∃ w', (Instr.makeSlice 23 (.int .i64 0) (.int .i64 (n : Int))).run Try.prog w = .ok (.slice (some ⟨w.heap.size, 0, none⟩) 0 n) w' ∧
    w'.ownsRow w.heap.size 45 1 (.slice (some ⟨w.heap.size, 0, none⟩) 0 n) 0 (dc []) ∧ Below w.heap.size w w' := by
  obtain ⟨i, hi, hz, hs, hb⟩ := info_parts (P := Try.prog) (e := 45) (z := .int .u16 0) (size := 1) (bytes := 2) (by kernel_rfl)
  have h := run_makeSlice (P := Try.prog) w 23 45 i _ Try.underlying23 hi hz .i64 .i64 0 (n : Int) (by omega) (by omega) (by rw [hs]; simp; omega) (by rw [hb]; omega) (by omega)
  refine ⟨_, h, ⟨rfl, .inr ⟨w.heap.size, n, _, rfl, Nat.le_refl _, heap_alloc_new _ _, Nat.zero_le _, by unfold maxLen; omega, by simp [madeCells, hs, Value.cells], rfl⟩⟩, (Below.refl _ _).alloc (Nat.le_refl _) _⟩

/-- Behind i numbers. -/
def CarAt (w : World) (xs : List Int) (v3 v4 v13 : Value) (wr : World) : Prop :=
  ∃ (i : Nat) (A : Option Addr) (c : Nat) (zs : List Nat) (k : Int), i ≤ xs.length ∧ v3 = .slice A i c ∧ v4 = .int .i64 k ∧ v13 = .int .i64 (i : Int) ∧ wr.ownsRow w.heap.size 45 1 (.slice A i c) i (dc zs) ∧ Dg zs ∧
    (nv zs : Int) + 65536 ^ i * k = ev 65536 (xs.take i) ∧ -281474976710656 ≤ k ∧ k ≤ 281474976710656 ∧ Below w.heap.size w wr
/-- What is left is carried on. -/
def CarOn (w : World) (t : Nat) (v3 v4 : Value) (wr : World) : Prop :=
  ∃ (i : Nat) (A : Option Addr) (c : Nat) (zs : List Nat) (k : Nat), i + (dg k).length ≤ 1010 ∧ k ≤ 281474976710656 ∧ v3 = .slice A i c ∧ v4 = .int .i64 (k : Int) ∧ wr.ownsRow w.heap.size 45 1 (.slice A i c) i (dc zs) ∧ Dg zs ∧
    nv zs + 65536 ^ i * k = t ∧ Below w.heap.size w wr

set_option maxHeartbeats 4000000 in
theorem carried_any (A : Option Addr) (n c : Nat) (xs : List Int) (w : World) (h : Ints w (· < w.heap.size) A n xs) (hb : ∀ i, i < n → -281474976710656 ≤ xs.getD i 0 ∧ xs.getD i 0 ≤ 281474976710656) (hn : n ≤ 1000) (t : Nat) (ht : ev 65536 xs = (t : Int)) :
    Calls Try.prog 36 #[.slice A n c] w fun e w' => ∃ R k, e = .returned (.slice R (dg t).length k) ∧ Digs w' R (dg t).length (dg t) ∧ Below w.heap.size w w' := by
  have H := Lib.hid h
  have hl := Lib.hid h.1
  have HB := Lib.hid hb
  have HT := Lib.hid ht
  obtain ⟨W, mk, OW, BW⟩ := make_nat (n + 1) (by omega) w
  have HOW := Lib.hid OW
  have e1 : ((n + 1 : Nat) : Int) = (n : Int) + 1 := by omega
  rw [e1] at mk
  clear h hb ht OW e1
  go_enter Try.func36, Try.ntmps36
  go_wp2_with fail
  go_loopw [3, 4, 13] (fun v3 v4 v13 wr => CarAt w xs v3 v4 v13 wr) (fun _ _ v _ => n - (intOf v).toNat)
  case atStart => exact ⟨0, _, _, [], 0, by omega, rfl, rfl, rfl, HOW.out, Dg.nil, by simp [nv, ev], by omega, by omega, BW⟩
  case round =>
    obtain ⟨i, R, cc, zs, k, hi, rfl, rfl, rfl, hO, hz, hv, hk1, hk2, B⟩ := hrel
    have HO := Lib.hid hO
    have HZ := Lib.hid hz
    have HV := Lib.hid hv
    clear hO hz hv
    by_cases hlt : i < n
    · have d1 := lt_t hlt
      have d1n := ltn_t hlt
      obtain ⟨b0, o, rfl, m1, hc⟩ := H.out.2 (by omega)
      have x1 := (B.cell (p := ⟨b0, o + i, none⟩) m1).trans (hc i hlt)
      have hx := HB.out i hlt
      have HS := Lib.hid (ev_take xs i (by rw [hl.out]; exact hlt))
      generalize xs.getD i 0 = x at *
      obtain ⟨v, hvv⟩ : ∃ v, v = k + x := ⟨_, rfl⟩
      obtain ⟨d, hd⟩ : ∃ d : Nat, (d : Int) = v % 65536 := ⟨(v % 65536).toNat, by omega⟩
      obtain ⟨q, hq⟩ : ∃ q : Int, q = v / 65536 := ⟨_, rfl⟩
      have HC := Lib.hid (carry_step HV.out hvv)
      rw [← hd, ← hq] at HC
      have HQ : Hid (-281474976710656 ≤ q ∧ q ≤ 281474976710656) := show _ ∧ _ by omega
      have HD : Hid (d < 65536) := show _ < _ by omega
      have z1 : wrap64 (k + x) = v := by unfold wrap64; omega
      have z2 : IntKind.u16.wrap v = (d : Int) := by rw [hd, IntKind.wrap_u16]
      have z3 : v / 65536 = q := hq.symm
      clear hd hq hvv hx hc m1 hk1 hk2
      obtain ⟨i0, hi0, hz0, hz1, hz2⟩ := info_parts info_u16
      have HZ0 := Lib.hid hz0; have HI0 := Lib.hid hi0; have H1 := Lib.hid hz1; have H2 := Lib.hid hz2
      clear hz0 hi0 hz1 hz2
      have hgn := heap_alloc_new wr (.cells #[.int .u16 (d : Int)] 45)
      have HOA : Hid ((wr.alloc (.cells #[.int .u16 (d : Int)] 45)).ownsRow w.heap.size 45 1 (.slice R i cc) i (dc zs)) := HO.out.alloc _
      have BA : Below w.heap.size w (wr.alloc (.cells #[.int .u16 (d : Int)] 45)) := B.alloc B.size _
      have HSr : Hid (0 < 1 → ∃ ad, some (⟨wr.heap.size, 0, none⟩ : Addr) = some ad ∧ ∀ j u, ([.int .u16 (d : Int)] : List Value)[j]? = some u → (wr.alloc (.cells #[.int .u16 (d : Int)] 45)).cell? (ad.add j) = some u) := fun _ =>
        ⟨_, rfl, World.news_of_block (cs := #[.int .u16 (d : Int)]) (t := 45) (fr := (0, 0)) hgn⟩
      have l2 : i + 1 ≤ maxLen := by simp only [maxLen]; omega
      have l3 : (i + 1) * 2 ≤ 140737488355328 := by omega
      have hsz : w.heap.size ≤ (wr.alloc (.cells #[.int .u16 (d : Int)] 45)).heap.size := by have := B.size; simp; omega
      have l4 : ∀ u ∈ ([.int .u16 (d : Int)] : List Value), u.oneCell' = true := by simp [Value.oneCell']
      have HI := Lib.hid hlt
      have HBA := Lib.hid BA
      clear hgn HO B BA hi
      go_wp2_with (first | (at_builtin; refine wpList_append_held _ rfl (.tmp 20) (.tmp 23) 23 rfl w.heap.size 45 i0 _ 2 Try.underlying23 HI0.out HZ0.out H1.out H2.out rfl _ i _ rfl HOA.out (some ⟨wr.heap.size, 0, none⟩) 1 1 [.int .u16 (d : Int)] rfl rfl HSr.out l4 l2 l3 hsz ?_))
      intro A5 c5 w9 ho9 hg9 _
      have B9 : Below w.heap.size w w9 := HBA.out.grown hg9 HBA.out.size (fun k hk => (HOA.out.lt k hk).1)
      have HO9 : Hid (w9.ownsRow w.heap.size 45 1 (.slice A5 (i + 1) c5) (i + 1) (dc (zs ++ [d]))) := by
        rw [dc_append]
        exact ho9.out
      have HB9 := Lib.hid B9
      have HLz : Hid (zs.length = i) := show _ = _ by
        have := HOA.out.1
        rw [dc_length] at this
        omega
      clear ho9 hg9 HOA HBA HSr hsz l4 l2 l3 B9 x1
      go_wp2_with fail
      go_roundw
      case rel =>
        refine ⟨i + 1, A5, c5, zs ++ [d], q, by rw [hl.out]; exact HI.out, rfl, rfl, ret_val (by have := HI.out; omega), HO9.out, HZ.out.append (Dg.one HD.out), ?_, HQ.out.1, HQ.out.2, HB9.out⟩
        rw [HS.out, nv_snoc, HLz.out, ← HC.out, Int.pow_succ]
        simp
      case measure => simp [intOf]; have := HI.out; omega
    · obtain rfl : i = n := by have := hl.out; omega
      have d1 := lt_f (Nat.le_refl i)
      have d1n := ltn_f (Nat.le_refl i)
      have hV := HV.out
      rw [List.take_of_length_le (by rw [hl.out]; exact Nat.le_refl _), HT.out] at hV
      have hLz : zs.length = i := by
        have := HO.out.1
        rw [dc_length] at this
        omega
      have hlt' := nv_lt HZ.out
      rw [hLz] at hlt'
      obtain ⟨hk0, hE⟩ := carry_end (a := nv zs) (t := t) (p := 65536 ^ i) (c := k) (e := (t : Int)) (by rw [← hV]; simp) hlt' (by omega) (by simp)
      obtain ⟨k, rfl⟩ := Int.eq_ofNat_of_zero_le hk0
      have HE := Lib.hid hE
      have HKL : Hid (i + (dg k).length ≤ 1010) := show _ ≤ _ by
        have : (dg k).length ≤ 4 := (dg_len k 4).2 (by omega)
        omega
      have HK2 : Hid (k ≤ 281474976710656) := show _ ≤ _ by omega
      simp only [Int.ofNat_eq_natCast, Int.toNat_natCast] at HE
      have HBx := Lib.hid B
      clear hV hLz hlt' hE hk0 hk1 hk2 HV B hi
      go_wp2_with fail
      obtain ⟨W0, rfl⟩ : ∃ W0, W0 = wr := ⟨_, rfl⟩
      go_loopw [3, 4] (fun v3 v4 wr => CarOn w t v3 v4 wr) (fun _ v _ => (intOf v).toNat)
      case atStart => exact ⟨i, R, cc, zs, k, HKL.out, HK2.out, rfl, rfl, HO.out, HZ.out, HE.out.symm, HBx.out⟩
      case round =>
        clear HO HZ HE HKL HK2 HBx
        obtain ⟨j, R2, c2, ys, q, hjl, hq2, rfl, rfl, hO, hz, hv, B⟩ := hrel
        have HO := Lib.hid hO
        have HZ := Lib.hid hz
        have HV := Lib.hid hv
        clear hO hz hv
        by_cases hq0 : q = 0
        · subst hq0
          have hVV := HV.out
          rw [Nat.mul_zero, Nat.add_zero] at hVV
          have hcp := own_cap HO.out
          have cT := Lib.hid (trimmed_any R2 j c2 ys wr (own_digs HO.out HZ.out) (by omega) hcp.1 hcp.2)
          rw [hVV] at cT
          have HBx := Lib.hid B
          clear hVV hcp B HV HO HZ hjl hq2
          go_wp2_with fail
          refine cT.out.mono ?_
          rintro e v1 ⟨rfl, hD, _, hw⟩; subst v1
          have HD := Lib.hid hD
          clear hD
          go_wp2_with fail
          go_ret
          exact ⟨_, _, rfl, HD.out, HBx.out⟩
        · have d2 : decide ((0 : Int) < (q : Int)) = true := by simp; omega
          have d2n : decide (0 < q) = true := by simp; omega
          obtain ⟨d, hd⟩ : ∃ d : Nat, d = q % 65536 := ⟨_, rfl⟩
          obtain ⟨p, hp⟩ : ∃ p : Nat, p = q / 65536 := ⟨_, rfl⟩
          have HD : Hid (d < 65536) := show _ < _ by omega
          have z2 : IntKind.u16.wrap (q : Int) = (d : Int) := by rw [hd, IntKind.wrap_u16]; omega
          have z3 : (q : Int) / 65536 = (p : Int) := by omega
          have HJ : Hid (j + 1 + (dg p).length ≤ 1010) := show _ ≤ _ by
            rw [dg_pos hq0, List.length_cons, ← hp] at hjl
            omega
          have HP : Hid (p ≤ 281474976710656) := show _ ≤ _ by omega
          have HPq : Hid (p < q) := show _ < _ by omega
          have HLz : Hid (ys.length = j) := show _ = _ by
            have := HO.out.1
            rw [dc_length] at this
            omega
          have HV2 : Hid (nv (ys ++ [d]) + 65536 ^ (j + 1) * p = t) := show _ = _ by
            have hqq : q = 65536 * p + d := by omega
            rw [nv_snoc, HLz.out, ← HV.out, Nat.pow_succ, hqq]
            generalize 65536 ^ j = P
            grind
          clear hd hp hq2 hq0
          obtain ⟨i0, hi0, hz0, hz1, hz2⟩ := info_parts info_u16
          have HZ0 := Lib.hid hz0; have HI0 := Lib.hid hi0; have H1 := Lib.hid hz1; have H2 := Lib.hid hz2
          clear hz0 hi0 hz1 hz2
          have hgn := heap_alloc_new wr (.cells #[.int .u16 (d : Int)] 45)
          have HOA : Hid ((wr.alloc (.cells #[.int .u16 (d : Int)] 45)).ownsRow w.heap.size 45 1 (.slice R2 j c2) j (dc ys)) := HO.out.alloc _
          have BA : Below w.heap.size w (wr.alloc (.cells #[.int .u16 (d : Int)] 45)) := B.alloc B.size _
          have HSr : Hid (0 < 1 → ∃ ad, some (⟨wr.heap.size, 0, none⟩ : Addr) = some ad ∧ ∀ j u, ([.int .u16 (d : Int)] : List Value)[j]? = some u → (wr.alloc (.cells #[.int .u16 (d : Int)] 45)).cell? (ad.add j) = some u) := fun _ =>
            ⟨_, rfl, World.news_of_block (cs := #[.int .u16 (d : Int)]) (t := 45) (fr := (0, 0)) hgn⟩
          have l2 : j + 1 ≤ maxLen := by simp only [maxLen]; omega
          have l3 : (j + 1) * 2 ≤ 140737488355328 := by omega
          have hsz : w.heap.size ≤ (wr.alloc (.cells #[.int .u16 (d : Int)] 45)).heap.size := by have := B.size; simp; omega
          have l4 : ∀ u ∈ ([.int .u16 (d : Int)] : List Value), u.oneCell' = true := by simp [Value.oneCell']
          have HBA := Lib.hid BA
          clear hgn HO B BA hjl
          go_wp2_with (first | (at_builtin; refine wpList_append_held _ rfl (.tmp 32) (.tmp 35) 23 rfl w.heap.size 45 i0 _ 2 Try.underlying23 HI0.out HZ0.out H1.out H2.out rfl _ j _ rfl HOA.out (some ⟨wr.heap.size, 0, none⟩) 1 1 [.int .u16 (d : Int)] rfl rfl HSr.out l4 l2 l3 hsz ?_))
          intro A5 c5 w9 ho9 hg9 _
          have B9 : Below w.heap.size w w9 := HBA.out.grown hg9 HBA.out.size (fun k hk => (HOA.out.lt k hk).1)
          have HO9 : Hid (w9.ownsRow w.heap.size 45 1 (.slice A5 (j + 1) c5) (j + 1) (dc (ys ++ [d]))) := by
            rw [dc_append]
            exact ho9.out
          have HB9 := Lib.hid B9
          clear ho9 hg9 HOA HBA HSr hsz l4 l2 l3 B9
          go_wp2_with fail
          go_roundw
          case rel => exact ⟨j + 1, A5, c5, ys ++ [d], p, HJ.out, HP.out, rfl, by first | rfl | exact ret_val (by omega), HO9.out, HZ.out.append (Dg.one HD.out), HV2.out, HB9.out⟩
          case measure => simp [intOf]; exact HPq.out

end Go.Proofs.Ytcejbkmmiklhbaa
