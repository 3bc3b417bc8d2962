/-
  What the document's Text does. No condition beyond what each contract says.
-/
import Derived.BigRegion
import Derived.Test.YtcejbkmmiklhbaaApp9
namespace Go.Proofs.Ytcejbkmmiklhbaa
open Go.RowKit

/-- m is left of a in the block gl; s are the digits that were told, the last one first. -/
def RtI (w : World) (gl B a c : Nat) (v3 v4 : Value) (wr : World) : Prop :=
  ∃ (m n o k : Nat) (R : Option Addr) (s : List UInt8) (post : List Value), v3 = .slice (some ⟨gl, 0, none⟩) n c ∧ v4 = .slice R o k ∧ (dg m).length = n ∧ n ≤ c ∧ m ≤ a ∧ Row wr gl 45 (dc (dg m) ++ post) ∧
    wr.ownsRow B 5 1 (.slice R o k) o (cellsOf s) ∧ ds a = ds m ++ s.reverse ∧ B ≤ wr.heap.size ∧ Below w.heap.size w wr
/-- t digits are left to be divided. -/
def RtJ (w : World) (gl B n : Nat) (xs : List Nat) (post : List Value) (V : Value) (o : Nat) (s : List UInt8) (v5 v6 : Value) (wr : World) : Prop :=
  ∃ (t r : Nat) (qs : List Nat), t ≤ n ∧ v6 = .int .i64 ((t : Int) - 1) ∧ v5 = .int .i64 (r : Int) ∧ r < 10 ∧ t + qs.length = n ∧ Dg qs ∧ nv (xs.drop t) = 10 * nv qs + r ∧
    Row wr gl 45 (dc (xs.take t ++ qs) ++ post) ∧ wr.ownsRow B 5 1 V o (cellsOf s) ∧ B ≤ wr.heap.size ∧ Below w.heap.size w wr
/-- i at either end are turned. -/
def RtR (w : World) (g : Nat) (s : List UInt8) (post : List Value) (v7 : Value) (wr : World) : Prop :=
  ∃ i : Nat, i ≤ s.length / 2 ∧ v7 = .int .i64 (i : Int) ∧ Row wr g 5 (cellsOf (turned9 s i) ++ post) ∧ Below w.heap.size w wr
theorem told_next {a m : Nat} {s : List UInt8} {c : UInt8} (h : ds a = ds m ++ s.reverse) (h0 : m ≠ 0) (hc : c = UInt8.ofNat (48 + m % 10)) : ds a = ds (m / 10) ++ (s ++ [c]).reverse := by
  rw [h, ds_pos h0, hc]
  simp

theorem meas_dn (j : Nat) : ((j : Int) - 1 + 1).toNat < ((j : Int) + 1).toNat := by omega
theorem down_one {t : Nat} (h : t ≤ 1000000) : wrap64 ((t : Int) - 1) = (t : Int) - 1 := by unfold wrap64; omega

set_option maxRecDepth 100000 in
set_option maxHeartbeats 8000000 in
theorem refText_pos (A : Option Addr) (n0 c0 a : Nat) (w : World) (h : Digs w A n0 (dg a)) (ha : a < top) (ha0 : a ≠ 0) :
    Calls Try.prog 34 #[.slice A n0 c0] w fun e w' => e = .returned (.string ⟨(dec a).toArray⟩) ∧ Below w.heap.size w w' := by
  obtain ⟨T, hT⟩ : ∃ T : List UInt8, T = dec a := ⟨_, rfl⟩
  rw [← hT]
  have HT := Lib.hid hT
  have HDS : Hid (ds a = T) := show _ = _ by rw [hT, dec_pos ha0]
  have HLN : Hid ((ds a).length ≤ 1234) := show _ ≤ _ by rw [← dec_pos ha0]; exact dec_len ha
  have hn : n0 ≤ 256 := by have := top_len ha; have := h.1; omega
  have hn0 : 0 < n0 := by have := dg_some ha0; have := h.1; omega
  obtain ⟨i0, hi0, hz0, hz1, hz2⟩ := info_parts info_u16
  have HZ0 := Lib.hid hz0; have HI0 := Lib.hid hi0; have H1 := Lib.hid hz1; have H2 := Lib.hid hz2
  obtain ⟨i8, hi8, hy0, hy1, hy2⟩ := info_parts info_u8
  have HY0 := Lib.hid hy0; have HI8 := Lib.hid hi8; have HY1 := Lib.hid hy1; have HY2 := Lib.hid hy2
  clear hz0 hi0 hz1 hz2 hi8 hy0 hy1 hy2 hT
  have HL : Hid ((dc (dg a)).length = n0) := show _ = _ by rw [dc_length, h.1]
  have OW : (w.alloc (.cells #[] 45)).ownsRow w.heap.size 45 1 (.slice (some ⟨w.heap.size, 0, none⟩) 0 0) 0 (dc []) :=
    ⟨rfl, .inr ⟨w.heap.size, 0, _, rfl, Nat.le_refl _, heap_alloc_new _ _, Nat.zero_le _, by unfold maxLen; omega, by simp, rfl⟩⟩
  have hp : 0 < n0 → ∃ a2, A = some a2 ∧ ∀ j u, (dc (dg a))[j]? = some u → (w.alloc (.cells #[] 45)).cell? (a2.add j) = some u := fun hpos => by
    obtain ⟨b, o, e, hb, hc⟩ := h.2.2 hpos
    refine ⟨_, e, fun j u hj => ?_⟩
    have hj' : j < (dg a).length := by
      have := (List.getElem?_eq_some_iff.1 hj).1
      rwa [dc_length] at this
    rw [Addr.add_lit]
    have B0 : Below w.heap.size w (w.alloc (.cells #[] 45)) := (Below.refl _ _).alloc (Nat.le_refl _) _
    rw [(B0.cell (p := ⟨b, o + j, none⟩) hb).trans (hc j (by have := h.1; omega))]
    rw [dc_get _ j hj'] at hj
    exact hj
  have B0 : Below w.heap.size w (w.alloc (.cells #[] 45)) := (Below.refl _ _).alloc (Nat.le_refl _) _
  have hsz : w.heap.size ≤ (w.alloc (.cells #[] 45)).heap.size := by simp
  have HOW := Lib.hid OW; have HP := Lib.hid hp; have HB0 := Lib.hid B0
  have l2 : 0 + n0 ≤ maxLen := by unfold maxLen; omega
  have l3 : (0 + n0) * 2 ≤ 140737488355328 := by omega
  have l4 := Lib.hid (dc_one (dg a))
  have HN := Lib.hid hn0; have HN256 := Lib.hid hn
  have HH1 := Lib.hid h.1
  clear h OW hp B0 hn ha ha0 hn0
  go_enter Try.func34, Try.ntmps34
  go_wp2_with (first | (at_builtin; refine wpList_append_types _ rfl (.tmp 8) (.tmp 9) 22 23 rfl w.heap.size 45 i0 _ 2 Try.underlying22 Try.underlying23 HI0.out HZ0.out H1.out H2.out rfl _ 0 _ rfl HOW.out A n0 c0 (dc (dg a)) rfl HL.out HP.out l4.out l2 l3 hsz ?_))
  intro A5 c5 w9 ho9 hg9 _
  have B9 : Below w.heap.size w w9 := HB0.out.grown hg9 HB0.out.size (fun k hk => (HOW.out.lt k hk).1)
  have HO9 : Hid (w9.ownsRow w.heap.size 45 1 (.slice A5 n0 c5) n0 (dc (dg a))) := show World.ownsRow _ _ _ _ _ _ _ by
    simpa [dc] using ho9.out
  have HB9 := Lib.hid B9
  have HC := Lib.hid (own_cap HO9.out)
  obtain ⟨gl, post0, rfl, hgl, R9, hbk⟩ := own_row HO9.out HN.out
  clear hbk
  obtain ⟨B, hB⟩ : ∃ B, B = w9.heap.size := ⟨_, rfl⟩
  have HGB : Hid (gl < B) := show _ < _ by rw [hB]; exact R9.lt
  have HWB : Hid (w.heap.size ≤ B) := show _ ≤ _ by rw [hB]; exact B9.size
  have HGL := Lib.hid hgl; have HR9 := Lib.hid R9; have HBE := Lib.hid hB
  clear hB ho9 hg9 HOW HB0 HP hsz l4 l2 l3 B9 hgl R9 HO9
  go_wp2_with fail
  clear HL
  go_loopw [3, 4] (fun v3 v4 wr => RtI w gl B a c5 v3 v4 wr) (fun _ v _ => 1300 - sliceLen v)
  case atStart => exact ⟨a, n0, 0, 0, none, [], post0, by simp, rfl, HH1.out, HC.out.1, Nat.le_refl _, HR9.out, World.ownsRow_nil _ _ _ _, by simp, by rw [HBE.out]; exact Nat.le_refl _, HB9.out⟩
  case round =>
    clear HR9 HB9
    obtain ⟨m, n, o, k, R, s, post, rfl, rfl, hn, hnc, hma, R1, hO, ht, hBs, hB1⟩ := hrel
    have hol : s.length = o := by have := hO.1; rw [cellsOf_length] at this; omega
    have hsl : s.length ≤ 1234 := by
      have := HLN.out
      rw [ht, List.length_append, List.length_reverse] at this
      omega
    have HO := Lib.hid hO; have HR := Lib.hid R1; have HTo := Lib.hid ht; have HB := Lib.hid hB1; have HOL := Lib.hid hol; have HBS := Lib.hid hBs
    clear R1 hO ht hB1 hBs
    by_cases hm0 : m = 0
    · subst hm0
      obtain rfl : n = 0 := by rw [← hn, dg_zero]; rfl
      have HE : Hid (s.reverse = T) := show _ = _ by rw [← HDS.out, HTo.out, ds_zero, List.nil_append]
      have hs0 : 0 < s.length := by
        rcases Nat.eq_zero_or_pos s.length with h | h
        · exfalso
          have h1 := HE.out
          rw [List.eq_nil_of_length_eq_zero h] at h1
          have h2 := HT.out
          rw [← h1] at h2
          exact dec_some a h2.symm
        · exact h
      have ho0 : 0 < o := by omega
      have d1 : ((o : Int) == 0) = false := beq0_f (by omega)
      obtain ⟨g, post2, rfl, hg, Rg, hbk⟩ := own_block HO.out ho0
      clear hbk
      obtain ⟨q, hq⟩ : ∃ q, q = o / 2 := ⟨_, rfl⟩
      have zq : (o : Int).tdiv 2 = (q : Int) := by rw [hq]; simp
      have HRg := Lib.hid Rg
      have HQ := Lib.hid hq
      have HGW : Hid (w.heap.size ≤ g) := Nat.le_trans HWB.out hg
      have HSL := Lib.hid hsl
      have WQ := Lib.hid (wr64 (x := q) (by omega))
      clear hn hnc hma hsl hs0 ho0 HO HTo HR HDS hg Rg hq hol
      have wq := WQ.out
      go_wp2_with fail
      clear wq
      go_loopw [7] (fun v7 wr => RtR w g s post2 v7 wr) (fun v _ => o - (intOf v).toNat)
      case atStart => exact ⟨0, by omega, rfl, by rw [turned9_zero]; exact HRg.out, HB.out⟩
      case round =>
        clear HRg HB
        obtain ⟨i, hi, rfl, R1, B1⟩ := hrel
        rw [HOL.out] at hi
        by_cases hlt : i < q
        · have e1 := lt_t hlt
          have e1n := ltn_t hlt
          have ho := HOL.out; have hqo := HQ.out; have hsl := HSL.out
          obtain ⟨j, hj⟩ : ∃ j, j = o - 1 - i := ⟨_, rfl⟩
          obtain ⟨o1, ho1⟩ : ∃ o1, o1 = o - 1 := ⟨_, rfl⟩
          have z1 : (o : Int) - 1 = (o1 : Int) := by omega
          have z2 : (o1 : Int) - (i : Int) = (j : Int) := by omega
          have n1 : ¬ j = i := by omega
          have n2 : ¬ i = j := by omega
          have i0 : (0 : Int) ≤ (i : Int) := by omega
          have j0 : (0 : Int) ≤ (j : Int) := by omega
          have iO : (i : Int) < (o : Int) := by omega
          have jO : (j : Int) < (o : Int) := by omega
          have gi := turned9_get s i i (by omega)
          have gj := turned9_get s i j (by omega)
          rw [if_neg (by omega)] at gi gj
          have x1 : wr.cell? ⟨g, i, none⟩ = some (.int .u8 ((s.getD i 0).toNat : Int)) := by
            rw [R1.cell i, List.getElem?_append_left (by rw [cellsOf_length, turned9_length]; omega), cellsOf_get _ _ (by rw [turned9_length]; omega), gi]
          have x2 : wr.cell? ⟨g, j, none⟩ = some (.int .u8 ((s.getD j 0).toNat : Int)) := by
            rw [R1.cell j, List.getElem?_append_left (by rw [cellsOf_length, turned9_length]; omega), cellsOf_get _ _ (by rw [turned9_length]; omega), gj]
          have f1 := R1.frozen i
          have f2 := R1.frozen j
          have hlc : (cellsOf (turned9 s i)).length = o := by rw [cellsOf_length, turned9_length]; omega
          have hnx := turned9_next s i j (by omega) (by omega)
          have HIw := Lib.hid (up_one hlt (by omega))
          have HLT := Lib.hid hlt
          obtain ⟨xi, hxi⟩ : ∃ xi, xi = s.getD i 0 := ⟨_, rfl⟩
          obtain ⟨xj, hxj⟩ : ∃ xj, xj = s.getD j 0 := ⟨_, rfl⟩
          rw [← hxi] at x1 hnx
          rw [← hxj] at x2 hnx
          have HNX := Lib.hid hnx; have HLC := Lib.hid hlc
          have HIJ : Hid (i < o ∧ j < o) := show _ ∧ _ by omega
          have HR1 := Lib.hid R1; have HB1 := Lib.hid B1
          have b1 : o1 < 4611686018427387904 := by omega
          have b2 : j < 4611686018427387904 := by omega
          have w1 := wr64 b1
          have w2 := wr64 b2
          have wq := WQ.out
          clear b1 b2
          clear gi gj hlc hnx hxi hxj hlt hi hj ho1 ho hqo hsl R1 B1
          go_wp2_with fail
          clear zq wq e1 e1n d1
          go_region
          have R3 := (HR1.out.set i (.int .u8 (xj.toNat : Int))).set j (.int .u8 (xi.toNat : Int))
          rw [List.set_append_left _ _ (by rw [HLC.out]; exact HIJ.out.1), cells_set, List.set_append_left _ _ (by rw [cellsOf_length, List.length_set, ← cellsOf_length, HLC.out]; exact HIJ.out.2), cells_set, HNX.out] at R3
          have B3 := ((HB1.out.setCell (p := ⟨g, i, none⟩) HGW.out (.int .u8 (xj.toNat : Int))).setCell (p := ⟨g, j, none⟩) HGW.out (.int .u8 (xi.toNat : Int))).drew
          have HR3 := Lib.hid R3.drew; have HB3 := Lib.hid B3
          clear R3 B3
          go_wp2_with fail
          go_roundw
          case rel =>
            rw [HIw.out]
            exact ⟨i + 1, by have := HLT.out; have := HQ.out; have := HOL.out; omega, by first | rfl | exact ret_val (by omega), HR3.out, HB3.out⟩
          case measure =>
            rw [HIw.out]
            exact meas_one (Nat.lt_of_lt_of_le HLT.out (by have := HQ.out; omega))
        · obtain rfl : i = q := by have := HQ.out; omega
          have e1 := lt_f (Nat.le_refl i)
          have e1n := ltn_f (Nat.le_refl i)
          rw [turned9_end s i (by rw [HOL.out]; exact HQ.out), HE.out] at R1
          have hlT : T.length = o := by rw [← HE.out, List.length_reverse]; exact HOL.out
          have hHe : Held wr (· < wr.heap.size) (some ⟨g, 0, none⟩) o T := by
            refine ⟨hlT, fun hn => ⟨g, 0, rfl, R1.lt, fun t ht => ?_⟩⟩
            rw [Nat.zero_add, R1.cell t, List.getElem?_append_left (by rw [cellsOf_length]; omega)]
            exact cellsOf_get T t (by omega)
          have hst := run_string 62 9 5 Try.underlying62 Try.underlying5 Try.underlying9 hHe k
          have HB2 := Lib.hid B1
          have wq := WQ.out
          clear R1 B1 hlT hHe hi hlt
          go_wp2_with fail
          go_ret
          exact ⟨rfl, HB2.out⟩
    · have hnp : 0 < n := by have := dg_some hm0; omega
      have d1 := gt0_t hnp
      have d1n : decide (0 < n) = true := by simp; omega
      have hn256 : n ≤ 256 := by
        have h1 : (dg m).length ≤ (dg a).length := dg_small hma
        have := HH1.out; have := HN256.out
        omega
      obtain ⟨xs, hxs⟩ : ∃ xs, xs = dg m := ⟨_, rfl⟩
      have HXV : Hid (nv xs = m) := show _ = _ by rw [hxs, nv_dg]
      have HXD : Hid (Dg xs) := show Dg _ by rw [hxs]; exact dg_dg m
      have HXL : Hid (xs.length = n) := show _ = _ by rw [hxs]; exact hn
      rw [← hxs] at HR
      obtain ⟨V, hV⟩ : ∃ V, V = Value.slice R o k := ⟨_, rfl⟩
      have HV := Lib.hid hV
      rw [← hV] at HO ⊢
      have HM0 := Lib.hid hm0; have HMA := Lib.hid hma; have HNC := Lib.hid hnc; have HNN := Lib.hid hn256; have HDN := Lib.hid (down_one (t := n) (by omega)); have HSL := Lib.hid hsl
      clear hm0 hma hnc hn hn256 hxs hV hsl hol hnp
      go_wp2_with fail
      go_loopw [5, 6] (fun v5 v6 wr => RtJ w gl B n xs post V o s v5 v6 wr) (fun _ v _ => (intOf v + 1).toNat)
      case atStart =>
        refine ⟨n, 0, [], Nat.le_refl _, by first | rfl | exact ret_val HDN.out, rfl, by omega, by simp, Dg.nil, ?_, ?_, HO.out, HBS.out, HB.out⟩
        · rw [List.drop_eq_nil_of_le (by rw [HXL.out]; exact Nat.le_refl _)]; rfl
        · rw [List.take_of_length_le (by rw [HXL.out]; exact Nat.le_refl _), List.append_nil]; exact HR.out
      case round =>
        clear HR HO HB HBS d1 d1n
        obtain ⟨t, r, qs, ht, rfl, rfl, hr, hq, dq, hv, R1, hO, hBs, B1⟩ := hrel
        cases t with
        | zero =>
          have e0 : (((0 : Nat) : Int) - 1) = -1 := by decide
          rw [e0]
          rw [List.drop_zero, HXV.out] at hv
          rw [List.take_zero, List.nil_append] at R1
          have hqv : nv qs = m / 10 := by omega
          have hrv : r = m % 10 := by omega
          obtain ⟨ch, hch⟩ : ∃ ch : UInt8, ch = UInt8.ofNat (48 + r) := ⟨_, rfl⟩
          have hcn : ch.toNat = 48 + r := by rw [hch]; exact dig_toNat hr
          have HTN : Hid (ds a = ds (m / 10) ++ (s ++ [ch]).reverse) := told_next HTo.out HM0.out (by rw [hch, hrv])
          have HCQ : Hid (nv qs = m / 10) := hqv
          have HQL : Hid (qs.length = n) := show _ = _ by omega
          have HDQ := Lib.hid dq
          have y1 : IntKind.u8.wrap (48 + (r : Int)) = (ch.toNat : Int) := by rw [IntKind.wrap_u8]; omega
          have y2 : 48 + (r : Int) = (ch.toNat : Int) := by omega
          have hcb : ch.toNat < 256 := by omega
          have y3 := wr8 hcb
          have y4 := wr64 (Nat.lt_trans hcb (by decide))
          clear hcb
          have hos : o ≤ 1234 := by have := HSL.out; have := HOL.out; omega
          have l2 : o + 1 ≤ maxLen := by simp only [maxLen]; omega
          have l3 : (o + 1) * 1 ≤ 140737488355328 := by omega
          have hVV := HV.out
          have hgn := heap_alloc_new wr (.cells #[.int .u8 (ch.toNat : Int)] 5)
          have HOA : Hid ((wr.alloc (.cells #[.int .u8 (ch.toNat : Int)] 5)).ownsRow B 5 1 V o (cellsOf s)) := hO.alloc _
          have BA : Below w.heap.size w (wr.alloc (.cells #[.int .u8 (ch.toNat : Int)] 5)) := B1.alloc B1.size _
          have RA : Row (wr.alloc (.cells #[.int .u8 (ch.toNat : Int)] 5)) gl 45 (dc qs ++ post) := R1.past _
          have HSr : Hid (0 < 1 → ∃ ad, some (⟨wr.heap.size, 0, none⟩ : Addr) = some ad ∧ ∀ j u, ([.int .u8 (ch.toNat : Int)] : List Value)[j]? = some u → (wr.alloc (.cells #[.int .u8 (ch.toNat : Int)] 5)).cell? (ad.add j) = some u) := fun _ =>
            ⟨_, rfl, World.news_of_block (cs := #[.int .u8 (ch.toNat : Int)]) (t := 5) (fr := (0, 0)) hgn⟩
          have hsz : B ≤ (wr.alloc (.cells #[.int .u8 (ch.toNat : Int)] 5)).heap.size := Nat.le_trans hBs (by simp)
          have l4 : ∀ u ∈ ([.int .u8 (ch.toNat : Int)] : List Value), u.oneCell' = true := by simp [Value.oneCell']
          have HBA := Lib.hid BA; have HRA := Lib.hid RA; have HSZ := Lib.hid hsz
          have HOS := Lib.hid hos
          clear hgn BA RA hO B1 R1 hBs hq dq hv hr hqv hrv hch hcn ht e0 hVV hos
          go_wp2_with (first | (at_builtin; refine wpList_append_held _ rfl (.tmp 37) (.tmp 41) 62 rfl B 5 i8 _ 1 Try.underlying62 HI8.out HY0.out HY1.out HY2.out rfl V o _ rfl HOA.out (some ⟨wr.heap.size, 0, none⟩) 1 1 [.int .u8 (ch.toNat : Int)] rfl rfl HSr.out l4 l2 l3 HSZ.out ?_))
          intro A6 c6 w6 ho6 hg6 _
          have B6 : Below w.heap.size w w6 := HBA.out.grown hg6 HBA.out.size (fun k hk => Nat.le_trans HWB.out (HOA.out.lt k hk).1)
          have HO6 : Hid (w6.ownsRow B 5 1 (.slice A6 (o + 1) c6) (o + 1) (cellsOf (s ++ [ch]))) := by
            rw [cellsOf_append]
            exact ho6.out
          have R6 : Row w6 gl 45 (dc qs ++ post) := (hg6.block gl HRA.out.lt (fun e => by have := (HOA.out.lt gl e.symm).1; have := HGB.out; omega)).trans HRA.out
          have D6 : Digs w6 (some ⟨gl, 0, none⟩) n qs := Row.digs (pre := []) (post := post) (by simpa using R6) HDQ.out rfl HQL.out
          have HS6 : Hid (B ≤ w6.heap.size) := Nat.le_trans HSZ.out hg6.size
          have cT := Lib.hid (refTrim_any (some ⟨gl, 0, none⟩) n c5 qs w6 D6 (by have := HNN.out; omega) HNC.out HC.out.2)
          rw [HCQ.out] at cT
          have HD6 := Lib.hid D6; have HR6 := Lib.hid R6; have HB6 := Lib.hid B6
          clear ho6 hg6 HOA HBA HRA HSr hsz l4 l2 l3 B6 R6 D6 HSZ
          go_wp2_with fail
          refine cT.out.mono ?_
          rintro e v1 ⟨rfl, hD, hle, hw⟩; subst v1
          have hs6 := Digs.same (HD6.out.take hle) hD
          have HRF : Hid (Row w6 gl 45 (dc (dg (m / 10)) ++ (dc (qs.drop (dg (m / 10)).length) ++ post))) := show Row _ _ _ _ by
            have h1 := HR6.out
            rw [← List.take_append_drop (dg (m / 10)).length qs, hs6, dc_append, List.append_assoc] at h1
            exact h1
          have HLE : Hid ((dg (m / 10)).length ≤ c5) := Nat.le_trans hle HNC.out
          clear hs6 hD hle cT HD6 HR6
          go_wp2_with fail
          go_roundw
          case rel => exact ⟨m / 10, _, o + 1, c6, A6, s ++ [ch], _, rfl, rfl, rfl, HLE.out, Nat.le_trans (Nat.div_le_self m 10) HMA.out, HRF.out, HO6.out, HTN.out, HS6.out, HB6.out⟩
          case measure =>
            have h1 : sliceLen V = o := by rw [HV.out]; rfl
            show 1300 - (o + 1) < 1300 - sliceLen V
            rw [h1]
            have := HOS.out
            omega
        | succ t =>
          have e0 : (((t + 1 : Nat) : Int) - 1) = (t : Int) := by omega
          rw [e0]
          have htn : t < n := by omega
          have HTW := Lib.hid (down_one (t := t) (by have := HNN.out; omega))
          have d1 : decide ((0 : Int) ≤ (t : Int)) = true := by simp
          have k0 : (0 : Int) ≤ (t : Int) := by omega
          have kn : (t : Int) < (n : Int) := by omega
          have hkx : t < xs.length := by rw [HXL.out]; exact htn
          have hx := HXD.out.get t
          have hdr := drop_nv xs t hkx
          have hrow : xs.take (t + 1) ++ qs = xs.take t ++ xs.getD t 0 :: qs := by rw [take_next xs t hkx]; simp
          rw [hrow] at R1
          have hlt : (xs.take t).length = t := by rw [List.length_take]; omega
          have x1 : wr.cell? ⟨gl, t, none⟩ = some (.int .u16 ((xs.getD t 0 : Nat) : Int)) := by
            rw [R1.cell t, List.getElem?_append_left (by rw [dc_length]; simp; omega), dc_get _ t (by simp; omega)]
            congr 3
            simp [List.getD, hlt]
          have fl := R1.frozen t
          generalize xs.getD t 0 = x at *
          obtain ⟨v, hvv⟩ : ∃ v, v = r * 65536 + x := ⟨_, rfl⟩
          obtain ⟨q, hq2⟩ : ∃ q, q = v / 10 := ⟨_, rfl⟩
          obtain ⟨r2, hr2⟩ : ∃ r2, r2 = v % 10 := ⟨_, rfl⟩
          have HS : Hid (nv (xs.drop t) = 10 * nv (q :: qs) + r2) := show _ = _ by
            rw [hdr, nv_cons]
            exact tenth_step hv hvv hq2 hr2
          have R2 := R1.set t (.int .u16 (q : Int))
          rw [set_at _ x q qs post t hlt] at R2
          have B2 := B1.setCell (p := ⟨gl, t, none⟩) HGL.out (.int .u16 (q : Int))
          have O2 := own_other (a := ⟨gl, t, none⟩) hO HGB.out (.int .u16 (q : Int))
          have HBS : Hid (B ≤ (wr.setCell ⟨gl, t, none⟩ (.int .u16 (q : Int))).heap.size) := show _ ≤ _ by simpa using hBs
          have HQ2 : Hid (q < 65536) := show _ < _ by omega
          have HR2 : Hid (r2 < 10) := show _ < _ by omega
          have HLQ : Hid (t + (q :: qs).length = n) := show _ = _ by rw [List.length_cons]; omega
          have HKN := Lib.hid htn
          have g2 : (r : Int) * 65536 + (x : Int) = (v : Int) := by omega
          have hvb : v < 4611686018427387904 := by omega
          have z1 := wr_up16 (x := r) (by omega)
          have z2 := wr64 hvb
          have z3 := quo10 hq2
          have z4 := rem10 hr2
          have z5 := wr16 HQ2.out
          have z6 := wr64 (Nat.lt_trans HQ2.out (by decide))
          have z7 := wr64 (Nat.lt_trans hx (by decide))
          have HDQ := Lib.hid (Dg.cons HQ2.out dq)
          have HRR := Lib.hid R2; have HBB := Lib.hid B2; have HOO := Lib.hid O2
          clear R1 B1 R2 B2 O2 hO hBs hq dq hv hdr hrow hlt hvv hq2 hr2 hr ht e0 hvb hkx hx htn
          go_wp2_with fail
          go_roundw
          case rel =>
            rw [HTW.out]
            exact ⟨t, r2, q :: qs, by have := HKN.out; omega, rfl, rfl, HR2.out, HLQ.out, HDQ.out, HS.out, HRR.out, HOO.out, HBS.out, HBB.out⟩
          case measure =>
            rw [HTW.out]
            exact meas_dn t

set_option maxHeartbeats 2000000 in
theorem refText_zero (A : Option Addr) (c0 : Nat) (w : World) :
    Calls Try.prog 34 #[.slice A 0 c0] w fun e w' => e = .returned (.string ⟨[48].toArray⟩) ∧ Below w.heap.size w w' := by
  obtain ⟨i0, hi0, hz0, hz1, hz2⟩ := info_parts info_u16
  have HZ0 := Lib.hid hz0; have HI0 := Lib.hid hi0; have H1 := Lib.hid hz1; have H2 := Lib.hid hz2
  clear hz0 hi0 hz1 hz2
  have OW : (w.alloc (.cells #[] 45)).ownsRow w.heap.size 45 1 (.slice (some ⟨w.heap.size, 0, none⟩) 0 0) 0 (dc []) :=
    ⟨rfl, .inr ⟨w.heap.size, 0, _, rfl, Nat.le_refl _, heap_alloc_new _ _, Nat.zero_le _, by unfold maxLen; omega, by simp, rfl⟩⟩
  have hp : 0 < 0 → ∃ a2, A = some a2 ∧ ∀ j u, (dc [])[j]? = some u → (w.alloc (.cells #[] 45)).cell? (a2.add j) = some u := fun hpos => absurd hpos (by omega)
  have B0 : Below w.heap.size w (w.alloc (.cells #[] 45)) := (Below.refl _ _).alloc (Nat.le_refl _) _
  have hsz : w.heap.size ≤ (w.alloc (.cells #[] 45)).heap.size := by simp
  have HOW := Lib.hid OW; have HP := Lib.hid hp; have HB0 := Lib.hid B0
  have l2 : 0 + 0 ≤ maxLen := by unfold maxLen; omega
  have l3 : (0 + 0) * 2 ≤ 140737488355328 := by omega
  have l4 := Lib.hid (dc_one [])
  have HL : Hid ((dc []).length = 0) := show _ = _ from rfl
  clear OW hp B0
  go_enter Try.func34, Try.ntmps34
  go_wp2_with (first | (at_builtin; refine wpList_append_types _ rfl (.tmp 8) (.tmp 9) 22 23 rfl w.heap.size 45 i0 _ 2 Try.underlying22 Try.underlying23 HI0.out HZ0.out H1.out H2.out rfl _ 0 _ rfl HOW.out A 0 c0 (dc []) rfl HL.out HP.out l4.out l2 l3 hsz ?_))
  intro A5 c5 w9 ho9 hg9 _
  have B9 : Below w.heap.size w w9 := HB0.out.grown hg9 HB0.out.size (fun k hk => (HOW.out.lt k hk).1)
  have HB9 := Lib.hid B9
  clear ho9 hg9 HOW HB0 HP hsz l4 l2 l3 B9
  go_wp2_with fail
  go_loopw [3, 4] (fun v3 v4 wr => v3 = .slice A5 0 c5 ∧ v4 = .slice none 0 0 ∧ wr = w9) (fun _ _ _ => 0)
  case atStart => exact ⟨rfl, rfl, rfl⟩
  case round =>
    obtain ⟨rfl, rfl, rfl⟩ := hrel
    go_wp2_with fail
    go_ret
    exact ⟨rfl, HB9.out⟩
theorem refText_any (A : Option Addr) (n c a : Nat) (w : World) (h : Digs w A n (dg a)) (ha : a < top) :
    Calls Try.prog 34 #[.slice A n c] w fun e w' => e = .returned (.string ⟨(dec a).toArray⟩) ∧ Below w.heap.size w w' := by
  by_cases h0 : a = 0
  · subst h0
    obtain rfl : n = 0 := by have := h.1; rw [dg_zero] at this; exact this.symm
    rw [dec_zero]
    exact refText_zero A c w
  · exact refText_pos A n c a w h ha h0

end Go.Proofs.Ytcejbkmmiklhbaa
