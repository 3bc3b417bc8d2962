/-
  What the document's Parse does. No condition beyond what each contract says.
-/
import Derived.Test.YtcejbkmmiklhbaaParse9
namespace Go.Proofs.Ytcejbkmmiklhbaa
open Go.RowKit

/-- What the document's Parse answers, in memory. -/
def ParQ (L : List UInt8) (w : World) (e : Ending) (w' : World) : Prop :=
  Below w.heap.size w w' ∧ ((∃ x R k, pv L = some x ∧ e = .returned (.tuple #[.slice R (dg x).length k, .bool true]) ∧ Digs w' R (dg x).length (dg x)) ∨ (pv L = none ∧ ∃ R l k, e = .returned (.tuple #[.slice R l k, .bool false])))
/-- Behind i characters. -/
def RPrsI (w : World) (L : List UInt8) (v4 v5 : Value) (wr : World) : Prop :=
  ∃ (i x l k : Nat) (R : Option Addr), i ≤ L.length ∧ v5 = .int .i64 (i : Int) ∧ v4 = .slice R l k ∧ rd 0 (L.take i) = some x ∧ wr.ownsRow w.heap.size 45 1 (.slice R l k) l (dc (dg x)) ∧ Below w.heap.size w wr
/-- Behind j digits of the number. -/
def RPrsJ (w : World) (R : Option Addr) (n c k : Nat) (xs : List Nat) (v6 v7 : Value) (wr : World) : Prop :=
  ∃ (i cy : Nat) (zs : List Nat), i ≤ n ∧ v7 = .int .i64 (i : Int) ∧ v6 = .int .i64 (cy : Int) ∧ cy < 10 ∧ zs.length = i ∧ Dg zs ∧ nv zs + 65536 ^ i * cy = 10 * nv (xs.take i) + k ∧
    wr.ownsRow w.heap.size 45 1 (.slice R n c) n (dc (zs ++ xs.drop i)) ∧ Below w.heap.size w wr

set_option maxHeartbeats 8000000 in
theorem refParse_core (L : List UInt8) (w : World) (f : Bool) (hne : L ≠ []) (hl : L.length ≤ 1300) (hf : (((L.getD 0 0).toNat : Int) == 48) = f) (hg : f = true → decide ((1 : Int) < (L.length : Int)) = false) :
    Calls Try.prog 32 #[.string ⟨L.toArray⟩] w fun e w' => ParQ L w e w' := by
  have HPV : Hid (pv L = (rd 0 L).bind fun x => if x < top then some x else none) := show _ = _ by
    rw [pv_more, if_neg]
    intro h
    rcases h with h | h | ⟨h1, h2⟩
    · exact hne h
    · omega
    · have h3 : f = true := by rw [← hf, h1]; rfl
      have h4 := hg h3
      simp at h4
      omega
  have HNO : Hid (∀ i, rd 0 (L.take i) = none → pv L = none) := fun i h => by rw [HPV.out, rd_cut h]; rfl
  have dE : (L == []) = false := by simpa using hne
  have d0 : decide ((1300 : Int) < (L.length : Int)) = false := by simp; omega
  have hpos : 0 < L.length := List.length_pos_iff.2 hne
  have x0 := at_txt L .i64 0 0 rfl hpos
  obtain ⟨i0', hi0, hz0, hz1, hz2⟩ := info_parts info_u16
  have HZ0 := Lib.hid hz0; have HI0 := Lib.hid hi0; have HZ1 := Lib.hid hz1; have HZ2 := Lib.hid hz2
  have HLN := Lib.hid hl
  generalize (L.getD 0 0).toNat = c0 at *
  clear hz0 hi0 hz1 hz2 hne hl hpos
  cases f
  all_goals
    first | have hg' := hg rfl | skip
    clear hg
    go_enter Try.func32, Try.ntmps32
    go_wp2_with fail
    try clear hg'
    clear x0 hf d0 dE
    go_loopw [4, 5] (fun v4 v5 wr => RPrsI w L v4 v5 wr) (fun _ v _ => L.length - (intOf v).toNat)
    case atStart => exact ⟨0, 0, 0, 0, none, by omega, rfl, rfl, by rw [List.take_zero]; rfl, by rw [dg_zero]; exact World.ownsRow_nil _ _ _ _, Below.refl _ _⟩
    case round =>
      obtain ⟨i, x, l, k, R, hi, rfl, rfl, hr, hO, hB⟩ := hrel
      have HO := Lib.hid hO; have HB := Lib.hid hB; have HR := Lib.hid hr
      have hlx : (dg x).length = l := by have := hO.1; rw [dc_length] at this; omega
      clear hO hB
      by_cases hlt : i < L.length
      · have d1 := lt_t hlt
        have d1n := ltn_t hlt
        have i0 : (0 : Int) ≤ (i : Int) := by omega
        have x1 := at_txt L .i64 (i : Int) i rfl hlt
        have HIW := Lib.hid (up_one hlt (by have := HLN.out; omega))
        have HT := Lib.hid (rd_take hlt hr)
        have hll : l ≤ 1300 := by have := rd_len hr; rw [List.length_take] at this; have := HLN.out; omega
        clear hr
        generalize (L.getD i 0).toNat = c at *
        by_cases c1 : c < 48
        · have d2 : decide ((c : Int) < 48) = true := by simp; omega
          have HE : Hid (pv L = none) := HNO.out (i + 1) (by rw [HT.out, if_pos (.inl c1)])
          clear c1 HT hll hlx
          go_wp2_with fail
          go_ret2
          exact ⟨HB.out, .inr ⟨HE.out, _, _, _, rfl⟩⟩
        · have d2 : decide ((c : Int) < 48) = false := by simp; omega
          by_cases c2 : 57 < c
          · have d3 : decide ((57 : Int) < (c : Int)) = true := by simp; omega
            have HE : Hid (pv L = none) := HNO.out (i + 1) (by rw [HT.out, if_pos (.inr c2)])
            clear c1 c2 HT hll hlx
            go_wp2_with fail
            go_ret2
            exact ⟨HB.out, .inr ⟨HE.out, _, _, _, rfl⟩⟩
          · have d3 : decide ((57 : Int) < (c : Int)) = false := by simp; omega
            obtain ⟨d, hd⟩ : ∃ d, d = c - 48 := ⟨_, rfl⟩
            have HN : Hid (rd 0 (L.take (i + 1)) = some (10 * x + d)) := show _ = _ by rw [HT.out, if_neg (by omega), hd, ten_more]
            have y1 : IntKind.u8.wrap ((c : Int) - 48) = (d : Int) := by rw [IntKind.wrap_u8]; omega
            have y2 : (c : Int) - 48 = (d : Int) := by omega
            have y3 := wr8 (x := d) (by omega)
            have Y4 := Lib.hid (wr64 (x := d) (by omega))
            have HDT : Hid (d < 10) := show _ < _ by omega
            have HI := Lib.hid hlt; have HLX := Lib.hid hlx; have HLL := Lib.hid hll
            obtain ⟨xs, hxs⟩ : ∃ xs, xs = dg x := ⟨_, rfl⟩
            have HXS := Lib.hid hxs
            have HXV : Hid (nv xs = x) := show _ = _ by rw [hxs, nv_dg]
            have HXD : Hid (Dg xs) := show Dg _ by rw [hxs]; exact dg_dg x
            have HXL : Hid (xs.length = l) := show _ = _ by rw [hxs]; exact hlx
            rw [← hxs] at HO
            clear c1 c2 HT hd hll hlx hlt hi hxs
            go_wp2_with fail
            go_loopw [6, 7] (fun v6 v7 wr => RPrsJ w R l k d xs v6 v7 wr) (fun _ v _ => l - (intOf v).toNat)
            case atStart => exact ⟨0, d, [], by omega, rfl, by first | rfl | exact ret_val Y4.out, HDT.out, rfl, Dg.nil, by simp [nv], by simpa using HO.out, HB.out⟩
            case round =>
              clear HO HB x1 y1 y2 y3 d2 d3 d1 d1n i0
              obtain ⟨j, cy, zs, hj, rfl, rfl, hcy, hz, dz, hv, hO, hB⟩ := hrel
              by_cases hjl : j < l
              · have e1 := lt_t hjl
                have e1n := ltn_t hjl
                have j0 : (0 : Int) ≤ (j : Int) := by omega
                have jL : (j : Int) < (l : Int) := by omega
                have hjx : j < xs.length := by rw [HXL.out]; exact hjl
                have hx := HXD.out.get j
                have htk := take_nv xs j hjx
                have hdr : xs.drop j = xs.getD j 0 :: xs.drop (j + 1) := by rw [List.drop_eq_getElem_cons hjx]; simp [List.getD, hjx]
                rw [hdr] at hO
                obtain ⟨g, post, rfl, hg, R1, hback⟩ := own_row hO (by omega)
                have q1 : wr.cell? ⟨g, j, none⟩ = some (.int .u16 ((xs.getD j 0 : Nat) : Int)) := by
                  rw [R1.cell j, List.getElem?_append_left (by rw [dc_length]; simp; omega), dc_get _ j (by simp; omega)]
                  congr 3
                  simp [List.getD, hz]
                have fl := R1.frozen j
                have hln : (xs.drop (j + 1)).length + 1 + j = l := by rw [List.length_drop, HXL.out]; omega
                generalize xs.getD j 0 = u at *
                obtain ⟨y, hy⟩ : ∃ y, y = 10 * u := ⟨_, rfl⟩
                obtain ⟨v, hvv⟩ : ∃ v, v = cy + y := ⟨_, rfl⟩
                obtain ⟨d', hd⟩ : ∃ d', d' = v % 65536 := ⟨_, rfl⟩
                obtain ⟨p, hp⟩ : ∃ p, p = v / 65536 := ⟨_, rfl⟩
                have hdb : d' < 65536 := by omega
                have hpb : p < 10 := by omega
                have HS : Hid (nv (zs ++ [d']) + 65536 ^ (j + 1) * p = 10 * nv (xs.take (j + 1)) + d) := show _ = _ by
                  rw [nv_snoc, hz, htk, Nat.pow_succ, hd, hp]
                  exact ten_step hv (by omega)
                have R2 := R1.set j (.int .u16 (d' : Int))
                rw [set_at _ u d' _ post j hz] at R2
                have hrw : zs ++ d' :: xs.drop (j + 1) = (zs ++ [d']) ++ xs.drop (j + 1) := by simp
                have HO2 := Lib.hid (hback _ _ (by rw [List.length_append, List.length_cons]; omega) R2)
                rw [hrw] at HO2
                have HB2 := Lib.hid (hB.setCell (p := ⟨g, j, none⟩) hg (.int .u16 (d' : Int)))
                have HP := Lib.hid hpb
                have HDZ := Lib.hid (dz.append (Dg.one hdb))
                have HLZ : Hid ((zs ++ [d']).length = j + 1) := show _ = _ by rw [List.length_append, hz]; rfl
                have HJ := Lib.hid hjl
                have HJW := Lib.hid (up_one hjl (by have := HLL.out; omega))
                have g1 : (u : Int) * 10 = (y : Int) := by omega
                have g2 : (cy : Int) + (y : Int) = (v : Int) := by omega
                have z1 := wr64 (x := y) (by omega)
                have z2 := wr64 (x := v) (by omega)
                have z3 := wr64 (x := p) (by omega)
                have z5 := wr64 (x := u) (by omega)
                have z4 := wr16 hdb
                have z6 := quoB hp
                have z7 := remB hd
                clear R1 R2 hO hB hv hz dz htk hdr hrw hjx hy hvv hd hp hdb hpb hcy hj hback hg hln hx
                go_wp2_with fail
                go_roundw
                case rel =>
                  rw [HJW.out]
                  exact ⟨j + 1, p, zs ++ [d'], HJ.out, by first | rfl | exact ret_val (by omega), by first | rfl | exact ret_val z3, HP.out, HLZ.out, HDZ.out, HS.out, HO2.out, HB2.out⟩
                case measure =>
                  rw [HJW.out]
                  exact meas_one HJ.out
              · obtain rfl : j = l := by omega
                have e1 := lt_f (Nat.le_refl j)
                have e1n := ltn_f (Nat.le_refl j)
                rw [List.take_of_length_le (by rw [HXL.out]; exact Nat.le_refl _), HXV.out] at hv
                rw [List.drop_eq_nil_of_le (by rw [HXL.out]; exact Nat.le_refl _), List.append_nil] at hO
                have hlx := HLX.out
                by_cases hq0 : cy = 0
                · have d4 := gt0_f hq0
                  have d4n : decide (0 < cy) = false := by simp; omega
                  have HE : Hid (dg (10 * x + d) = zs) := ten_low dz hz hlx (by subst hq0; simpa using hv) (by omega)
                  have HO1 := Lib.hid hO; have HB1 := Lib.hid hB
                  clear hq0 hcy hv dz hz hO hB hlx hj hjl
                  go_wp2_with fail
                  go_roundw
                  case rel =>
                    rw [HIW.out]
                    exact ⟨i + 1, 10 * x + d, j, k, R, HI.out, by first | rfl | exact ret_val (by omega), rfl, HN.out, by rw [HE.out]; exact HO1.out, HB1.out⟩
                  case measure =>
                    rw [HIW.out]
                    exact meas_one HI.out
                · have d4 := gt0_t (Nat.pos_of_ne_zero hq0)
                  have d4n : decide (0 < cy) = true := by simp; omega
                  have HE : Hid (dg (10 * x + d) = zs ++ [cy]) := ten_high dz hz (by omega) hq0 hv
                  have hll := HLL.out
                  have l2 : j + 1 ≤ maxLen := by simp only [maxLen]; omega
                  have l3 : (j + 1) * 2 ≤ 140737488355328 := by omega
                  have hgn := heap_alloc_new wr (.cells #[.int .u16 (cy : Int)] 45)
                  have HOA : Hid ((wr.alloc (.cells #[.int .u16 (cy : Int)] 45)).ownsRow w.heap.size 45 1 (.slice R j k) j (dc zs)) := hO.alloc _
                  have BA : Below w.heap.size w (wr.alloc (.cells #[.int .u16 (cy : Int)] 45)) := hB.alloc hB.size _
                  have HSr : Hid (0 < 1 → ∃ ad, some (⟨wr.heap.size, 0, none⟩ : Addr) = some ad ∧ ∀ j u, ([.int .u16 (cy : Int)] : List Value)[j]? = some u → (wr.alloc (.cells #[.int .u16 (cy : Int)] 45)).cell? (ad.add j) = some u) := fun _ =>
                    ⟨_, rfl, World.news_of_block (cs := #[.int .u16 (cy : Int)]) (t := 45) (fr := (0, 0)) hgn⟩
                  have hsz : w.heap.size ≤ (wr.alloc (.cells #[.int .u16 (cy : Int)] 45)).heap.size := Nat.le_trans hB.size (by simp)
                  have l4 : ∀ u ∈ ([.int .u16 (cy : Int)] : List Value), u.oneCell' = true := by simp [Value.oneCell']
                  have HBA := Lib.hid BA
                  have zq := wr16 (x := cy) (by omega)
                  clear hgn BA hq0 hcy hv dz hz hO hB hll hlx hj hjl
                  go_wp2_with (first | (at_builtin; refine wpList_append_held _ rfl (.tmp 70) (.tmp 73) 22 rfl w.heap.size 45 i0' _ 2 Try.underlying22 HI0.out HZ0.out HZ1.out HZ2.out rfl _ j _ rfl HOA.out (some ⟨wr.heap.size, 0, none⟩) 1 1 [.int .u16 (cy : Int)] rfl rfl HSr.out l4 l2 l3 hsz ?_))
                  intro A5 c5 w9 ho9 hg9 _
                  have B9 : Below w.heap.size w w9 := HBA.out.grown hg9 HBA.out.size (fun k hk => (HOA.out.lt k hk).1)
                  have HO9 : Hid (w9.ownsRow w.heap.size 45 1 (.slice A5 (j + 1) c5) (j + 1) (dc (zs ++ [cy]))) := by
                    rw [dc_append]
                    exact ho9.out
                  have HB9 := Lib.hid B9
                  clear ho9 hg9 HOA HBA HSr hsz l4 l2 l3 B9
                  go_wp2_with fail
                  go_roundw
                  case rel =>
                    rw [HIW.out]
                    exact ⟨i + 1, 10 * x + d, j + 1, c5, A5, HI.out, by first | rfl | exact ret_val (by omega), rfl, HN.out, by rw [HE.out]; exact HO9.out, HB9.out⟩
                  case measure =>
                    rw [HIW.out]
                    exact meas_one HI.out
      · obtain rfl : i = L.length := by omega
        have d1 := lt_f (Nat.le_refl L.length)
        have d1n := ltn_f (Nat.le_refl L.length)
        rw [List.take_length] at hr
        have hD := own_digs HO.out (dg_dg x)
        have hll : l ≤ 1300 := by have := rd_len hr; have := HLN.out; omega
        have cI := Lib.hid (refIs_any R l k (dg x) wr hD (by omega))
        rw [isN_of] at cI
        have HD := Lib.hid hD
        by_cases ht : x < top
        · rw [decide_eq_true ht] at cI
          have HE : Hid (pv L = some x) := show _ = _ by rw [HPV.out, hr]; show (if x < top then some x else none) = _; rw [if_pos ht]
          have HLX := Lib.hid hlx
          clear hr hD hll ht hlx hlt hi
          go_wp2_with fail
          refine cI.out.mono ?_
          rintro e v1 ⟨rfl, hw⟩; subst v1
          go_wp2_with fail
          go_ret2
          exact ⟨HB.out, .inl ⟨x, R, k, HE.out, par_some HLX.out, by rw [HLX.out]; exact HD.out⟩⟩
        · rw [decide_eq_false ht] at cI
          have HE : Hid (pv L = none) := show _ = _ by rw [HPV.out, hr]; show (if x < top then some x else none) = _; rw [if_neg ht]
          clear hr hD hll ht hlx hlt hi
          go_wp2_with fail
          refine cI.out.mono ?_
          rintro e v1 ⟨rfl, hw⟩; subst v1
          go_wp2_with fail
          go_ret2
          exact ⟨HB.out, .inr ⟨HE.out, _, _, _, rfl⟩⟩

set_option maxHeartbeats 2000000 in
theorem refParse_any (L : List UInt8) (hl : L.length ≤ 1000000) (w : World) :
    Calls Try.prog 32 #[.string ⟨L.toArray⟩] w fun e w' => ParQ L w e w' := by
  by_cases h0 : L = []
  · have HE : Hid (pv L = none) := show _ = _ by unfold pv; rw [if_pos (.inl h0)]
    have dE : (L == []) = true := by simpa using h0
    clear h0
    go_enter Try.func32, Try.ntmps32
    go_wp2_with fail
    go_ret2
    exact ⟨Below.refl _ _, .inr ⟨HE.out, _, _, _, rfl⟩⟩
  · have dE : (L == []) = false := by simpa using h0
    by_cases h1 : 1300 < L.length
    · have HE : Hid (pv L = none) := show _ = _ by rw [pv_more, if_pos (.inr (.inl h1))]
      have d0 : decide ((1300 : Int) < (L.length : Int)) = true := by simp; omega
      clear h0 h1
      go_enter Try.func32, Try.ntmps32
      go_wp2_with fail
      go_ret2
      exact ⟨Below.refl _ _, .inr ⟨HE.out, _, _, _, rfl⟩⟩
    · by_cases h2 : (L.getD 0 0).toNat = 48 ∧ 1 < L.length
      · have HE : Hid (pv L = none) := show _ = _ by unfold pv; rw [if_pos (.inr (.inr h2))]
        have d0 : decide ((1300 : Int) < (L.length : Int)) = false := by simp; omega
        have d1 : decide ((1 : Int) < (L.length : Int)) = true := by simp; omega
        have d2 : (((L.getD 0 0).toNat : Int) == 48) = true := by rw [h2.1]; rfl
        have x0 := at_txt L .i64 0 0 rfl (List.length_pos_iff.2 h0)
        generalize (L.getD 0 0).toNat = c0 at *
        clear h0 h1 h2
        go_enter Try.func32, Try.ntmps32
        go_wp2_with fail
        go_ret2
        exact ⟨Below.refl _ _, .inr ⟨HE.out, _, _, _, rfl⟩⟩
      · refine refParse_core L w _ h0 (by omega) rfl (fun h => ?_)
        have h3 : (L.getD 0 0).toNat = 48 := by
          have := of_decide_eq_true h
          omega
        simp only [decide_eq_false_iff_not]
        intro h4
        exact h2 ⟨h3, by omega⟩
theorem refParse_some {L : List UInt8} {x : Nat} (h : pv L = some x) (hl : L.length ≤ 1000000) (w : World) :
    Calls Try.prog 32 #[.string ⟨L.toArray⟩] w fun e w' => ∃ R k, e = .returned (.tuple #[.slice R (dg x).length k, .bool true]) ∧ Digs w' R (dg x).length (dg x) ∧ Below w.heap.size w w' := by
  refine (refParse_any L hl w).mono ?_
  rintro e w' ⟨B, ⟨y, R, k, hy, rfl, D⟩ | ⟨hn, _⟩⟩
  · obtain rfl : x = y := Option.some.inj (h.symm.trans hy)
    exact ⟨R, k, rfl, D, B⟩
  · rw [h] at hn; cases hn
theorem refParse_none {L : List UInt8} (h : pv L = none) (hl : L.length ≤ 1000000) (w : World) :
    Calls Try.prog 32 #[.string ⟨L.toArray⟩] w fun e w' => ∃ R l k, e = .returned (.tuple #[.slice R l k, .bool false]) ∧ Below w.heap.size w w' := by
  refine (refParse_any L hl w).mono ?_
  rintro e w' ⟨B, ⟨y, R, k, hy, rfl, D⟩ | ⟨_, R, l, k, rfl⟩⟩
  · rw [h] at hy; cases hy
  · exact ⟨R, l, k, rfl, B⟩

end Go.Proofs.Ytcejbkmmiklhbaa
