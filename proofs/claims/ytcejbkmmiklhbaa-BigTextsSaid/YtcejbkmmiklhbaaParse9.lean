/-
  What big's Parse does. No condition beyond what each contract says.
-/
import Derived.Test.YtcejbkmmiklhbaaPv9
import Derived.Test.YtcejbkmmiklhbaaTen9
namespace Go.Proofs.Ytcejbkmmiklhbaa
open Go.RowKit

theorem at_txt (l : List UInt8) (kd : IntKind) (i : Int) (j : Nat) (hi : i = (j : Int)) (hj : j < l.length) (w : World) :
    (Instr.index 9 (.string ⟨l.toArray⟩) (.int kd i)).run Try.prog w = .ok (.int .u8 ((l.getD j 0).toNat : Int)) w := by
  subst hi
  rw [run_index_string w _ _ _ _ Try.underlying9, dif_pos ⟨by omega, by simp [ByteArray.size]; omega⟩]
  have e : (⟨l.toArray⟩ : ByteArray)[((j : Int)).toNat]'(by simp [ByteArray.size]; omega) = l.getD j 0 := by
    show l.toArray[((j : Int)).toNat]'(by simp; omega) = l.getD j 0
    simp [List.getD, hj]
  rw [e]

/-- What Parse answers, in memory. -/
def ParR (L : List UInt8) (w : World) (e : Ending) (w' : World) : Prop :=
  Below w.heap.size w w' ∧ ((∃ x R k, pv L = some x ∧ e = .returned (.tuple #[.slice R (dg x).length k, .bool true]) ∧ Digs w' R (dg x).length (dg x)) ∨ (pv L = none ∧ e = .returned (.tuple #[.slice none 0 0, .bool false])))
/-- Behind i characters. -/
def PrsI (w : World) (L : List UInt8) (v4 v26 : Value) (wr : World) : Prop :=
  ∃ (i x l k : Nat) (R : Option Addr), i ≤ L.length ∧ v26 = .int .i64 (i : Int) ∧ v4 = .slice R l k ∧ rd 0 (L.take i) = some x ∧ wr.ownsRow w.heap.size 45 1 (.slice R l k) l (dc (dg x)) ∧ Below w.heap.size w wr
theorem up_one {i e : Nat} (h : i < e) (he : e ≤ 1000000) : wrap64 ((i : Int) + 1) = (i : Int) + 1 := by unfold wrap64; omega
theorem meas_one {i e : Nat} (h : i < e) : e - ((i : Int) + 1).toNat < e - ((i : Int)).toNat := by omega
theorem par_some {R : Option Addr} {l k x : Nat} {b : Bool} (h : (dg x).length = l) : Ending.returned (.tuple #[.slice R l k, .bool b]) = .returned (.tuple #[.slice R (dg x).length k, .bool b]) := by rw [h]
theorem ten_more (x d : Nat) : 10 * x + d = x * 10 + d := by omega

set_option maxHeartbeats 4000000 in
theorem parse_core (L : List UInt8) (w : World) (f : Bool) (hne : L ≠ []) (hl : L.length ≤ 1234) (hf : (((L.getD 0 0).toNat : Int) == 48) = f) (hg : f = true → decide ((1 : Int) < (L.length : Int)) = false) :
    Calls Try.prog 31 #[.string ⟨L.toArray⟩] w fun e w' => ParR L w e w' := by
  have HPV : Hid (pv L = (rd 0 L).bind fun x => if x < top then some x else none) := show _ = _ by
    unfold pv
    rw [if_neg]
    intro h
    rcases h with h | h | ⟨h1, h2⟩
    · exact hne h
    · omega
    · have h3 : f = true := by rw [← hf, h1]; rfl
      have h4 := hg h3
      simp at h4
      omega
  have HNO : Hid (∀ i, rd 0 (L.take i) = none → pv L = none) := fun i h => by rw [HPV.out, rd_cut h]; rfl
  have dE : (L == []) = false := by simpa using hne
  have d0 : decide ((1234 : Int) < (L.length : Int)) = false := by simp; omega
  have hpos : 0 < L.length := List.length_pos_iff.2 hne
  have x0 := at_txt L .i64 0 0 rfl hpos
  obtain ⟨i0', hi0, hz0, hz1, hz2⟩ := info_parts info_u16
  have HZ0 := Lib.hid hz0; have HI0 := Lib.hid hi0; have HZ1 := Lib.hid hz1; have HZ2 := Lib.hid hz2
  have HLN := Lib.hid hl
  obtain ⟨n, hn⟩ : ∃ n, n = L.length := ⟨_, rfl⟩
  generalize (L.getD 0 0).toNat = c0 at *
  clear hz0 hi0 hz1 hz2 hne hl hpos
  cases f
  all_goals
    first | have hg' := hg rfl | skip
    clear hg
    go_enter Try.func31, Try.ntmps31
    go_wp2_with fail
    try clear hg'
    clear x0 hf d0 dE
    go_loopw [4, 26] (fun v4 v26 wr => PrsI w L v4 v26 wr) (fun _ v _ => L.length - (intOf v).toNat)
    case atStart => exact ⟨0, 0, 0, 0, none, by omega, rfl, rfl, by rw [List.take_zero]; rfl, by rw [dg_zero]; exact World.ownsRow_nil _ _ _ _, Below.refl _ _⟩
    case round =>
      obtain ⟨i, x, l, k, R, hi, rfl, rfl, hr, hO, hB⟩ := hrel
      have HO := Lib.hid hO; have HB := Lib.hid hB; have HR := Lib.hid hr
      have hlx : (dg x).length = l := by have := hO.1; rw [dc_length] at this; omega
      clear hO hB
      by_cases hlt : i < L.length
      · have d1 := lt_t hlt
        have d1n := ltn_t hlt
        have i0 : (0 : Int) ≤ (i : Int) := by omega
        have x1 := at_txt L .i64 (i : Int) i rfl hlt
        have HIW := Lib.hid (up_one hlt (by have := HLN.out; omega))
        have HT := Lib.hid (rd_take hlt hr)
        have hll : l ≤ 1234 := by have := rd_len hr; rw [List.length_take] at this; have := HLN.out; omega
        clear hr
        generalize (L.getD i 0).toNat = c at *
        by_cases c1 : c < 48
        · have d2 : decide ((c : Int) < 48) = true := by simp; omega
          have HE : Hid (pv L = none) := HNO.out (i + 1) (by rw [HT.out, if_pos (.inl c1)])
          clear c1 HT hll hlx
          go_wp2_with fail
          go_ret2
          exact ⟨HB.out, .inr ⟨HE.out, rfl⟩⟩
        · have d2 : decide ((c : Int) < 48) = false := by simp; omega
          by_cases c2 : 57 < c
          · have d3 : decide ((57 : Int) < (c : Int)) = true := by simp; omega
            have HE : Hid (pv L = none) := HNO.out (i + 1) (by rw [HT.out, if_pos (.inr c2)])
            clear c1 c2 HT hll hlx
            go_wp2_with fail
            go_ret2
            exact ⟨HB.out, .inr ⟨HE.out, rfl⟩⟩
          · have d3 : decide ((57 : Int) < (c : Int)) = false := by simp; omega
            obtain ⟨d, hd⟩ : ∃ d, d = c - 48 := ⟨_, rfl⟩
            have HN : Hid (rd 0 (L.take (i + 1)) = some (10 * x + d)) := show _ = _ by rw [HT.out, if_neg (by omega), hd, ten_more]
            have y1 : IntKind.u8.wrap ((c : Int) - 48) = (d : Int) := by rw [IntKind.wrap_u8]; omega
            have y2 : (c : Int) - 48 = (d : Int) := by omega
            have y3 := wr8 (x := d) (by omega)
            have cT := Lib.hid (tenfold_any R l k w.heap.size (dg x) d wr HO.out (dg_dg x) (by omega) HB.out.size (by omega))
            rw [nv_dg] at cT
            have HI := Lib.hid hlt; have HLX := Lib.hid hlx; have HLL := Lib.hid hll
            clear c1 c2 HT hd hll hlx hlt hi
            go_wp2_with fail
            refine cT.out.mono ?_
            rintro e w1 ⟨ys, q, rfl, hq, dy, hv, hyl, O1, B1⟩
            have HB1 : Hid (Below w.heap.size w w1) := HB.out.trans B1
            by_cases hq0 : q = 0
            · have d4 : ((q : Int) != 0) = false := bne0_f hq0
              have HE : Hid (dg (10 * x + d) = ys) := ten_low dy hyl HLX.out (by subst hq0; simpa using hv) (by omega)
              have HO1 := Lib.hid O1
              clear hq hq0 hv dy hyl O1 B1 cT HB HO
              go_wp2_with fail
              go_roundw
              case rel =>
                rw [HIW.out]
                exact ⟨i + 1, 10 * x + d, l, k, R, HI.out, by first | rfl | exact ret_val (by omega), rfl, HN.out, by rw [HE.out]; exact HO1.out, HB1.out⟩
              case measure =>
                rw [HIW.out]
                exact meas_one HI.out
            · have d4 : ((q : Int) != 0) = true := bne0_t hq0
              have HE : Hid (dg (10 * x + d) = ys ++ [q]) := ten_high dy hyl (by omega) hq0 hv
              have HO1 := Lib.hid O1
              have hll := HLL.out
              have l2 : l + 1 ≤ maxLen := by simp only [maxLen]; omega
              have l3 : (l + 1) * 2 ≤ 140737488355328 := by omega
              have hgn := heap_alloc_new w1 (.cells #[.int .u16 (q : Int)] 45)
              have HOA : Hid ((w1.alloc (.cells #[.int .u16 (q : Int)] 45)).ownsRow w.heap.size 45 1 (.slice R l k) l (dc ys)) := O1.alloc _
              have BA : Below w.heap.size w (w1.alloc (.cells #[.int .u16 (q : Int)] 45)) := HB1.out.alloc HB1.out.size _
              have HSr : Hid (0 < 1 → ∃ ad, some (⟨w1.heap.size, 0, none⟩ : Addr) = some ad ∧ ∀ j u, ([.int .u16 (q : Int)] : List Value)[j]? = some u → (w1.alloc (.cells #[.int .u16 (q : Int)] 45)).cell? (ad.add j) = some u) := fun _ =>
                ⟨_, rfl, World.news_of_block (cs := #[.int .u16 (q : Int)]) (t := 45) (fr := (0, 0)) hgn⟩
              have hsz : w.heap.size ≤ (w1.alloc (.cells #[.int .u16 (q : Int)] 45)).heap.size := Nat.le_trans HB1.out.size (by simp)
              have l4 : ∀ u ∈ ([.int .u16 (q : Int)] : List Value), u.oneCell' = true := by simp [Value.oneCell']
              have HBA := Lib.hid BA
              clear hgn BA hq hq0 hv dy hyl O1 B1 cT HB HO hll HO1 HB1
              go_wp2_with (first | (at_builtin; refine wpList_append_held _ rfl (.tmp 47) (.tmp 49) 23 rfl w.heap.size 45 i0' _ 2 Try.underlying23 HI0.out HZ0.out HZ1.out HZ2.out rfl _ l _ rfl HOA.out (some ⟨w1.heap.size, 0, none⟩) 1 1 [.int .u16 (q : Int)] rfl rfl HSr.out l4 l2 l3 hsz ?_))
              intro A5 c5 w9 ho9 hg9 _
              have B9 : Below w.heap.size w w9 := HBA.out.grown hg9 HBA.out.size (fun k hk => (HOA.out.lt k hk).1)
              have HO9 : Hid (w9.ownsRow w.heap.size 45 1 (.slice A5 (l + 1) c5) (l + 1) (dc (ys ++ [q]))) := by
                rw [dc_append]
                exact ho9.out
              have HB9 := Lib.hid B9
              clear ho9 hg9 HOA HBA HSr hsz l4 l2 l3 B9
              go_wp2_with fail
              go_roundw
              case rel =>
                rw [HIW.out]
                exact ⟨i + 1, 10 * x + d, l + 1, c5, A5, HI.out, by first | rfl | exact ret_val (by omega), rfl, HN.out, by rw [HE.out]; exact HO9.out, HB9.out⟩
              case measure =>
                rw [HIW.out]
                exact meas_one HI.out
      · obtain rfl : i = L.length := by omega
        have d1 := lt_f (Nat.le_refl L.length)
        have d1n := ltn_f (Nat.le_refl L.length)
        rw [List.take_length] at hr
        have hD := own_digs HO.out (dg_dg x)
        have hll : l ≤ 1234 := by have := rd_len hr; have := HLN.out; omega
        have cI := Lib.hid (is_val R l k x wr hD (by omega))
        have HD := Lib.hid hD
        by_cases ht : x < top
        · rw [decide_eq_true ht] at cI
          have HE : Hid (pv L = some x) := show _ = _ by rw [HPV.out, hr]; show (if x < top then some x else none) = _; rw [if_pos ht]
          have HLX := Lib.hid hlx
          clear hr hD hll ht hlx hlt hi
          go_wp2_with fail
          refine cI.out.mono ?_
          rintro e v1 ⟨rfl, hw⟩; subst v1
          go_wp2_with fail
          go_ret2
          exact ⟨HB.out, .inl ⟨x, R, k, HE.out, par_some HLX.out, by rw [HLX.out]; exact HD.out⟩⟩
        · rw [decide_eq_false ht] at cI
          have HE : Hid (pv L = none) := show _ = _ by rw [HPV.out, hr]; show (if x < top then some x else none) = _; rw [if_neg ht]
          clear hr hD hll ht hlx hlt hi
          go_wp2_with fail
          refine cI.out.mono ?_
          rintro e v1 ⟨rfl, hw⟩; subst v1
          go_wp2_with fail
          go_ret2
          exact ⟨HB.out, .inr ⟨HE.out, rfl⟩⟩

set_option maxHeartbeats 2000000 in
theorem parse_any (L : List UInt8) (hl : L.length ≤ 1000000) (w : World) :
    Calls Try.prog 31 #[.string ⟨L.toArray⟩] w fun e w' => ParR L w e w' := by
  by_cases h0 : L = []
  · have HE : Hid (pv L = none) := show _ = _ by unfold pv; rw [if_pos (.inl h0)]
    have dE : (L == []) = true := by simpa using h0
    clear h0
    go_enter Try.func31, Try.ntmps31
    go_wp2_with fail
    go_ret2
    exact ⟨Below.refl _ _, .inr ⟨HE.out, rfl⟩⟩
  · have dE : (L == []) = false := by simpa using h0
    by_cases h1 : 1234 < L.length
    · have HE : Hid (pv L = none) := show _ = _ by unfold pv; rw [if_pos (.inr (.inl h1))]
      have d0 : decide ((1234 : Int) < (L.length : Int)) = true := by simp; omega
      clear h0 h1
      go_enter Try.func31, Try.ntmps31
      go_wp2_with fail
      go_ret2
      exact ⟨Below.refl _ _, .inr ⟨HE.out, rfl⟩⟩
    · by_cases h2 : (L.getD 0 0).toNat = 48 ∧ 1 < L.length
      · have HE : Hid (pv L = none) := show _ = _ by unfold pv; rw [if_pos (.inr (.inr h2))]
        have d0 : decide ((1234 : Int) < (L.length : Int)) = false := by simp; omega
        have d1 : decide ((1 : Int) < (L.length : Int)) = true := by simp; omega
        have d2 : (((L.getD 0 0).toNat : Int) == 48) = true := by rw [h2.1]; rfl
        have x0 := at_txt L .i64 0 0 rfl (List.length_pos_iff.2 h0)
        generalize (L.getD 0 0).toNat = c0 at *
        clear h0 h1 h2
        go_enter Try.func31, Try.ntmps31
        go_wp2_with fail
        go_ret2
        exact ⟨Below.refl _ _, .inr ⟨HE.out, rfl⟩⟩
      · refine parse_core L w _ h0 (by omega) rfl (fun h => ?_)
        have h3 : (L.getD 0 0).toNat = 48 := by
          have := of_decide_eq_true h
          omega
        simp only [decide_eq_false_iff_not]
        intro h4
        exact h2 ⟨h3, by omega⟩
theorem parse_some {L : List UInt8} {x : Nat} (h : pv L = some x) (hl : L.length ≤ 1000000) (w : World) :
    Calls Try.prog 31 #[.string ⟨L.toArray⟩] w fun e w' => ∃ R k, e = .returned (.tuple #[.slice R (dg x).length k, .bool true]) ∧ Digs w' R (dg x).length (dg x) ∧ Below w.heap.size w w' := by
  refine (parse_any L hl w).mono ?_
  rintro e w' ⟨B, ⟨y, R, k, hy, rfl, D⟩ | ⟨hn, _⟩⟩
  · obtain rfl : x = y := Option.some.inj (h.symm.trans hy)
    exact ⟨R, k, rfl, D, B⟩
  · rw [h] at hn; cases hn
theorem parse_none {L : List UInt8} (h : pv L = none) (hl : L.length ≤ 1000000) (w : World) :
    Calls Try.prog 31 #[.string ⟨L.toArray⟩] w fun e w' => e = .returned (.tuple #[.slice none 0 0, .bool false]) ∧ Below w.heap.size w w' := by
  refine (parse_any L hl w).mono ?_
  rintro e w' ⟨B, ⟨y, R, k, hy, rfl, D⟩ | ⟨_, rfl⟩⟩
  · rw [h] at hy; cases hy
  · exact ⟨rfl, B⟩

end Go.Proofs.Ytcejbkmmiklhbaa
