/-
  What a copy of a row and Text do. No condition beyond what each contract says.
-/
import Derived.Test.YtcejbkmmiklhbaaBigG
import Derived.Test.YtcejbkmmiklhbaaDec
import Derived.Lib.SliceRun
namespace Go.Proofs.Ytcejbkmmiklhbaa
open Go.RowKit

theorem eq_nil (A : Option Addr) (n c : Nat) (w : World) : (binOp .eql 23 (.slice A n c) (.slice none 0 0)).run Try.prog w = .ok (.bool A.isNone) w := Lib.run_eql_slice_nil w _ _ A n c 0 0 Try.underlying23
set_option maxHeartbeats 2000000 in
theorem clone_any (A : Option Addr) (n c : Nat) (xs : List Nat) (w : World) (h : Digs w A n xs) (hn : n ≤ 1000000) :
    Calls Try.prog 46 #[.slice A n c] w fun e w' => ∃ R k, e = .returned (.slice R n k) ∧ Own w' w.heap.size R n k xs ∧ Below w.heap.size w w' := by
  cases A with
  | none =>
    have h0 : n = 0 := by
      rcases Nat.eq_zero_or_pos n with h0 | h0
      · exact h0
      · obtain ⟨b, o, e, _⟩ := h.2.2 h0
        cases e
    subst h0
    have hx := h.1
    have q0 : ∀ w, (binOp .eql 23 (.slice none 0 c) (.slice none 0 0)).run Try.prog w = .ok (.bool true) w := fun w => eq_nil none 0 c w
    clear h
    go_enter Try.func46, Try.ntmps46
    go_wp2_with fail
    go_ret
    refine ⟨none, 0, rfl, ⟨hx, ?_, by omega, by omega, fun h => absurd h (by omega)⟩, Below.refl _ _⟩
    rw [List.eq_nil_of_length_eq_zero hx]; exact Dg.nil
  | some ad =>
    obtain ⟨i0, hi0, hz0, hz1, hz2⟩ := info_parts info_u16
    have HZ0 := Lib.hid hz0; have HI0 := Lib.hid hi0; have H1 := Lib.hid hz1; have H2 := Lib.hid hz2
    clear hz0 hi0 hz1 hz2
    have HX := Lib.hid h.2.1
    have HL : Hid ((dc xs).length = n) := show _ = _ by rw [dc_length, h.1]
    have OW : (w.alloc (.cells #[] 45)).ownsRow w.heap.size 45 1 (.slice (some ⟨w.heap.size, 0, none⟩) 0 0) 0 (dc []) :=
      ⟨rfl, .inr ⟨w.heap.size, 0, _, rfl, Nat.le_refl _, heap_alloc_new _ _, Nat.zero_le _, by unfold maxLen; omega, by simp, rfl⟩⟩
    have hp : 0 < n → ∃ a2, some ad = some a2 ∧ ∀ j u, (dc xs)[j]? = some u → (w.alloc (.cells #[] 45)).cell? (a2.add j) = some u := fun hpos => by
      obtain ⟨b, o, e, hb, hc⟩ := h.2.2 hpos
      refine ⟨_, e, fun j u hj => ?_⟩
      have hj' : j < xs.length := by
        have := (List.getElem?_eq_some_iff.1 hj).1
        rwa [dc_length] at this
      rw [Addr.add_lit]
      have B0 : Below w.heap.size w (w.alloc (.cells #[] 45)) := (Below.refl _ _).alloc (Nat.le_refl _) _
      rw [(B0.cell (p := ⟨b, o + j, none⟩) hb).trans (hc j (by have := h.1; omega))]
      rw [dc_get xs j hj'] at hj
      exact hj
    have B0 : Below w.heap.size w (w.alloc (.cells #[] 45)) := (Below.refl _ _).alloc (Nat.le_refl _) _
    have hsz : w.heap.size ≤ (w.alloc (.cells #[] 45)).heap.size := by simp
    have HOW := Lib.hid OW; have HP := Lib.hid hp; have HB0 := Lib.hid B0
    have l2 : 0 + n ≤ maxLen := by unfold maxLen; omega
    have l3 : (0 + n) * 2 ≤ 140737488355328 := by omega
    have l4 := Lib.hid (dc_one xs)
    have q0 : ∀ w, (binOp .eql 23 (.slice (some ad) n c) (.slice none 0 0)).run Try.prog w = .ok (.bool false) w := fun w => eq_nil (some ad) n c w
    clear h OW hp B0
    go_enter Try.func46, Try.ntmps46
    go_wp2_with (first | (at_builtin; refine wpList_append_held _ rfl (.tmp 5) (.tmp 6) 23 rfl w.heap.size 45 i0 _ 2 Try.underlying23 HI0.out HZ0.out H1.out H2.out rfl _ 0 _ rfl HOW.out (some ad) n c (dc xs) rfl HL.out HP.out l4.out l2 l3 hsz ?_))
    intro A5 c5 w9 ho9 hg9 _
    have B9 : Below w.heap.size w w9 := HB0.out.grown hg9 HB0.out.size (fun k hk => (HOW.out.lt k hk).1)
    have HO9 : Hid (w9.ownsRow w.heap.size 45 1 (.slice A5 n c5) n (dc xs)) := show World.ownsRow _ _ _ _ _ _ _ by
      simpa [dc] using ho9.out
    have HB9 := Lib.hid B9
    clear ho9 hg9 HOW HB0 HP hsz l4 l2 l3 B9
    go_wp2_with fail
    go_ret
    exact ⟨A5, c5, rfl, own_own HO9.out HX.out, HB9.out⟩


theorem Own.other {w : World} {base : Nat} {A : Option Addr} {n c : Nat} {xs : List Nat} (h : Own w base A n c xs) {a : Addr} (ha : a.block < base) (v : Value) : Own (w.setCell a v) base A n c xs :=
  ⟨h.1, h.2.1, h.2.2.1, h.2.2.2.1, fun hn => by
    obtain ⟨g, post, e, hb, hr⟩ := h.2.2.2.2 hn
    exact ⟨g, post, e, hb, hr.other (by omega) v⟩⟩
theorem Digs.same {w : World} {A : Option Addr} {n : Nat} {xs ys : List Nat} (h : Digs w A n xs) (k : Digs w A n ys) : xs = ys := by
  have l1 := h.1; have l2 := k.1
  apply List.ext_getElem (by omega)
  intro i h1 h2
  obtain ⟨b, o, e, _, hc⟩ := h.2.2 (by omega)
  obtain ⟨b', o', e', _, hc'⟩ := k.2.2 (by omega)
  rw [e] at e'
  injection e' with e'
  injection e' with e1 e2 e3
  subst e1 e2
  have := (hc i (by omega)).symm.trans (hc' i (by omega))
  injection this with this
  injection this with _ this
  simp only [List.getD, List.getElem?_eq_getElem h1, List.getElem?_eq_getElem h2, Option.getD_some] at this
  omega
theorem trimmed_own {w : World} {base : Nat} {A : Option Addr} {n c : Nat} {xs : List Nat} (h : Own w base A n c xs) (hn : n ≤ 1000000000) :
    Calls Try.prog 43 #[.slice A n c] w fun e w' => e = .returned (.slice A (dg (nv xs)).length c) ∧ Own w base A (dg (nv xs)).length c (dg (nv xs)) ∧ w' = w := by
  refine (trimmed_any A n c xs w h.digs hn h.2.2.1 h.2.2.2.1).mono fun e w' hh => ?_
  obtain ⟨e1, hD, hle, hw⟩ := hh
  have ho := h.take hle
  have hs := Digs.same ho.digs hD
  rw [hs] at ho
  exact ⟨e1, ho, hw⟩

theorem text_cells : Try.zeroCells60 = (List.replicate 1234 (Value.int .u8 0)).toArray := by kernel_rfl
theorem slice_text (g t : Nat) (ht : t < 1234) (w : World) :
    (Instr.sliceAt 60 (.pointer (some ⟨g, 0, none⟩)) (some (.int .i64 (t : Int))) none none).run Try.prog w = .ok (.slice (some ⟨g, t, none⟩) (1234 - t) (1234 - t)) w := by
  rw [run_sliceAt_array_l w _ _ (by kernel_rfl) .i64 (t : Int) (by omega) (by show (t : Int) ≤ ((1234 : Nat) : Int); omega)]
  show ((sizeOf 5).run Try.prog w).andThen (fun s w => .ok (slicedAt ⟨g, 0, none⟩ (t : Int).toNat 1234 1234 s) w) = _
  rw [Try.sizeOf5]
  have h : ¬ 1234 = t := by omega
  simp [Result.andThen, slicedAt, h, Addr.add_lit]

/-- What holds at the head of Text's loop: t digits may still come, m is left. -/
structure TxAt (w : World) (gt a t m : Nat) (A : Option Addr) (n c : Nat) (L : List Value) (tail : List UInt8) (wr : World) : Prop where
  ht : t ≤ 1234
  hm : m < 10 ^ t
  le : m ≤ a
  own : Own wr (gt + 1) A n c (dg m)
  row : Row wr gt 60 L
  len : L.length = 1234
  tl : tail.length = 1234 - t
  at' : ∀ i, i < 1234 - t → L[t + i]? = some (.int .u8 ((tail.getD i 0).toNat : Int))
  told : (t = 1234 ∧ m = a ∧ tail = []) ∨ (t < 1234 ∧ dec a = ds m ++ tail)
  low : Below w.heap.size w wr
  gw : w.heap.size ≤ gt
def TxIs (w : World) (gt a : Nat) (v4 v5 : Value) (wr : World) : Prop := ∃ t m A n c L tail, v4 = .int .i64 ((t : Nat) : Int) ∧ v5 = .slice A n c ∧ TxAt w gt a t m A n c L tail wr
theorem TxAt.next {w : World} {gt a k m : Nat} {A : Option Addr} {n c : Nat} {L : List Value} {tail : List UInt8} {wr w1 : World} (h : TxAt w gt a (k + 1) m A n c L tail wr) (hgo : k + 1 = 1234 ∨ m ≠ 0)
    (hb : Below (gt + 1) wr w1) {ys : List Nat} (hy : nv ys = m / 10) {A2 : Option Addr} {n2 c2 : Nat} (hd : Own (w1.setCell ⟨gt, k, none⟩ (.int .u8 ((48 + m % 10 : Nat) : Int))) (gt + 1) A2 n2 c2 (dg (nv ys))) :
    TxAt w gt a k (m / 10) A2 n2 c2 (L.set k (.int .u8 ((48 + m % 10 : Nat) : Int))) (UInt8.ofNat (48 + m % 10) :: tail) (w1.setCell ⟨gt, k, none⟩ (.int .u8 ((48 + m % 10 : Nat) : Int))) := by
  have ht := h.ht
  have hl := h.len
  have htl := h.tl
  refine ⟨by omega, ?_, by have := h.le; omega, by rw [← hy]; exact hd, (h.row.keep_at hb (by omega)).set k _, by simp [hl], by simp [htl]; omega, ?_, ?_, ?_, h.gw⟩
  · have := h.hm
    rw [Nat.pow_succ] at this
    omega
  · intro i hi
    cases i with
    | zero =>
      simp only [Nat.add_zero, List.getD_cons_zero]
      rw [List.getElem?_set_self (by omega), dig_toNat (by omega)]
    | succ i =>
      have h6 := h.at' i (by omega)
      rw [List.getElem?_set_ne (by omega), List.getD_cons_succ, ← h6]
      congr 1
      omega
  · right
    refine ⟨by omega, ?_⟩
    rcases h.told with ⟨h1, h2, h3⟩ | ⟨h1, h2⟩
    · subst h2 h3
      exact dec_step m
    · have hm0 : m ≠ 0 := by
        rcases hgo with h7 | h7
        · omega
        · exact h7
      rw [h2, ds_pos hm0]
      simp
  · exact (h.low.trans (hb.mono (by have := h.gw; omega))).setCell (p := ⟨gt, k, none⟩) h.gw _

theorem top_ten : top ≤ 10 ^ 1234 := by unfold top; exact Nat.le_of_ble_eq_true (by decide +kernel)
theorem dg_none {m : Nat} (h : (dg m).length = 0) : m = 0 := by
  have e := nv_dg m
  rw [List.eq_nil_of_length_eq_zero h] at e
  exact e.symm
theorem dg_some {m : Nat} (h : m ≠ 0) : 0 < (dg m).length := by
  rcases Nat.eq_zero_or_pos (dg m).length with h1 | h1
  · exact absurd (dg_none h1) h
  · exact h1
theorem dg_small {m k : Nat} (h : m ≤ k) : (dg m).length ≤ (dg k).length := by
  rcases Nat.lt_or_ge (dg k).length (dg m).length with h1 | h1
  · have := cmp_len h1
    omega
  · exact h1

set_option maxHeartbeats 4000000 in
theorem text_yes (A : Option Addr) (n c : Nat) (a : Nat) (w : World) (h1 : Digs w A n (dg a)) (ha : a < top) :
    Calls Try.prog 30 #[.slice A n c] w fun e w' => e = .returned (.string ⟨(dec a).toArray⟩) ∧ Below w.heap.size w w' := by
  obtain ⟨T, hT⟩ : ∃ T : List UInt8, T = dec a := ⟨_, rfl⟩
  rw [← hT]
  have HT := Lib.hid hT
  have c1 := Lib.hid (is_yes A n c a w h1 ha)
  have hn : n ≤ 256 := by have := top_len ha; have := h1.1; omega
  have B0 : Below w.heap.size w (w.alloc (Obj.cells Try.zeroCells60 60)) := (Below.refl _ _).alloc (Nat.le_refl _) _
  have R0 : Row (w.alloc (Obj.cells Try.zeroCells60 60)) w.heap.size 60 (List.replicate 1234 (Value.int .u8 0)) := by
    rw [text_cells]
    exact Row.new w _ _
  have hs0 : (w.alloc (Obj.cells Try.zeroCells60 60)).heap.size = w.heap.size + 1 := by simp
  have c2 := Lib.hid (clone_any A n c (dg a) _ (h1.below B0) (by omega))
  have HA := Lib.hid (Nat.lt_of_lt_of_le ha top_ten)
  have HR0 := Lib.hid R0; have HB0 := Lib.hid B0; have HS0 := Lib.hid hs0
  have HTA := Lib.hid ha
  clear h1 hT B0 R0 hs0 ha hn
  go_enter Try.func30, Try.ntmps30
  go_wp2_with fail
  refine c1.out.mono ?_
  rintro e v1 ⟨rfl, hw⟩; subst v1
  go_wp2_with fail
  generalize w.alloc (Obj.cells Try.zeroCells60 60) = W at *
  refine c2.out.mono ?_
  rintro e W1 ⟨R, k0, rfl, O1, B1⟩
  obtain ⟨gt, hg⟩ : ∃ gt, gt = w.heap.size := ⟨_, rfl⟩
  have HGT := Lib.hid hg
  have hs := HS0.out
  rw [hs, ← hg] at O1
  have HO1 := Lib.hid O1
  have HR1 := Lib.hid (HR0.out.keep B1)
  have HB1 := Lib.hid (HB0.out.trans (B1.mono (by omega)))
  rw [← hg] at HR1 ⊢
  clear O1 B1 hs hg HS0 HR0 HB0 c1 c2
  go_wp2_with fail
  go_loopw [4, 5] (fun v4 v5 wr => TxIs w gt a v4 v5 wr) (fun v _ _ => (intOf v).toNat)
  case atStart =>
    exact ⟨1234, a, R, n, k0, _, [], rfl, rfl, Nat.le_refl _, HA.out, Nat.le_refl _, HO1.out, HR1.out, List.length_replicate, rfl, fun i hi => absurd hi (by omega), .inl ⟨rfl, rfl, rfl⟩, HB1.out, by have := HGT.out; omega⟩
  case round =>
    clear HO1 HR1 HB1
    obtain ⟨t, m, A1, n1, c1, L, tail, rfl, rfl, hh⟩ := hrel
    have HH := Lib.hid hh
    have hn1 : (dg m).length = n1 := hh.own.1
    have ht := hh.ht
    have hm := hh.hm
    have hma : m < top := Nat.lt_of_le_of_lt hh.le HTA.out
    have hn2 : n1 ≤ 256 := by rw [← hn1]; exact top_len hma
    have hgw := Lib.hid hh.gw
    clear hh
    by_cases h0 : t = 1234
    · have d1 : ((t : Int) == 1234) = true := by simp; omega
      have d1n : (t == 1234) = true := by simp; omega
      obtain ⟨k, hk⟩ : ∃ k, t = k + 1 := ⟨t - 1, by omega⟩
      have H0 := Lib.hid h0
      clear h0
      have HK := Lib.hid hk
      have cT := Lib.hid (tenth_any A1 n1 c1 (gt + 1) (dg m) wr HH.out.own (by omega) (by have := HH.out.row.lt; omega))
      rw [nv_dg] at cT
      obtain ⟨r, hr⟩ : ∃ r, r = m % 10 := ⟨_, rfl⟩
      obtain ⟨d, hd⟩ : ∃ d, d = 48 + r := ⟨_, rfl⟩
      rw [← hr] at cT
      have HRm := Lib.hid hr
      have HDr := Lib.hid hd
      have e3 : IntKind.u8.wrap (48 + (r : Int)) = (d : Int) := by rw [IntKind.wrap_u8]; omega
      have e4 : 48 + (r : Int) = (d : Int) := by omega
      have e6 : (d : Int) % 256 = (d : Int) := by omega
      have e5 : (t : Int) - 1 = (k : Int) := by omega
      have hk0 : (0 : Int) ≤ (k : Int) := by omega
      have hkt : (k : Int) < 1234 := by omega
      have HN := Lib.hid hn2
      clear hk hr hd hn1 hn2 hm hma ht
      go_wp2_with fail
      refine cT.out.mono ?_
      rintro e w1 ⟨rfl, ⟨ys, hy, O1⟩, B1⟩
      have R1 := HH.out.row.keep_at B1 (by omega)
      obtain ⟨cv, hcv⟩ : ∃ cv, L[k]? = some cv := ⟨_, List.getElem?_eq_getElem (by have := HH.out.len; have := HK.out; omega)⟩
      have x1 := (R1.cell k).trans hcv
      have fl := R1.frozen k
      have O2 := O1.other (a := ⟨gt, k, none⟩) (Nat.lt_succ_self gt) (.int .u8 (d : Int))
      have cR := Lib.hid (trimmed_own O2 (by have := HN.out; omega))
      have HO1 := Lib.hid O1; have HB1 := Lib.hid B1; have HY := Lib.hid hy
      clear hcv R1 O1 O2 B1 hy cT
      go_wp2_with fail
      refine cR.out.mono ?_
      rintro e w2 ⟨rfl, O3, hw⟩; subst w2
      have HO3 := Lib.hid O3
      clear O3 cR
      go_wp2_with fail
      go_roundw
      case rel =>
        have hh := HH.out
        have hkk : t = k + 1 := by have := HK.out; omega
        rw [hkk] at hh
        have hd2 : d = 48 + m % 10 := by rw [HDr.out, HRm.out]
        have h3 := HO3.out
        rw [hd2] at h3 ⊢
        exact ⟨k, m / 10, _, _, _, _, _, rfl, rfl, TxAt.next hh (.inl (by have := H0.out; omega)) HB1.out HY.out h3⟩
      case measure => simp [intOf]; have := HK.out; omega
    · have d1 : ((t : Int) == 1234) = false := by simp; omega
      have d1n : (t == 1234) = false := by simp; omega
      by_cases hm0 : m = 0
      · have hn0 : n1 = 0 := by rw [← hn1, hm0, dg_zero]; rfl
        subst hn0
        have htl : t < 1234 := by omega
        have HS := Lib.hid (slice_text gt t htl)
        have hsx := HS.out wr
        have HTT : Hid (tail = T) := show _ = _ by
          rcases HH.out.told with ⟨q1, _, _⟩ | ⟨_, q2⟩
          · omega
          · rw [HT.out, q2, hm0, ds_zero, List.nil_append]
        have HHe : Held wr (· < wr.heap.size) (some ⟨gt, t, none⟩) (1234 - t) tail := by
          refine ⟨HH.out.tl, fun hn => ⟨gt, t, rfl, HH.out.row.lt, fun i hi => ?_⟩⟩
          rw [HH.out.row.cell (t + i)]
          exact HH.out.at' i hi
        rw [HTT.out] at HHe
        have hst := run_string 62 9 5 Try.underlying62 Try.underlying5 Try.underlying9 HHe (1234 - t)
        have HLow := Lib.hid HH.out.low
        obtain ⟨z, hz⟩ : ∃ z, z = 1234 - t := ⟨_, rfl⟩
        rw [← hz] at hst hsx
        clear hn1 hn2 hm hma ht h0 hm0 HHe HS HH hz htl
        go_wp2_with fail
        go_ret
        exact ⟨rfl, HLow.out⟩
      · have hnp : 0 < n1 := by rw [← hn1]; exact dg_some hm0
        have d2 : decide ((0 : Int) < (n1 : Int)) = true := by simp; omega
        have d2n : decide (0 < n1) = true := by simp; omega
        have ht0 : t ≠ 0 := by
          intro h
          rw [h] at hm
          have : m < 1 := hm
          omega
        obtain ⟨k, hk⟩ : ∃ k, t = k + 1 := ⟨t - 1, by omega⟩
        have H0 := Lib.hid hm0
        clear hm0 h0 ht0
        have HK := Lib.hid hk
        have cT := Lib.hid (tenth_any A1 n1 c1 (gt + 1) (dg m) wr HH.out.own (by omega) (by have := HH.out.row.lt; omega))
        rw [nv_dg] at cT
        obtain ⟨r, hr⟩ : ∃ r, r = m % 10 := ⟨_, rfl⟩
        obtain ⟨d, hd⟩ : ∃ d, d = 48 + r := ⟨_, rfl⟩
        rw [← hr] at cT
        have HRm := Lib.hid hr
        have HDr := Lib.hid hd
        have e3 : IntKind.u8.wrap (48 + (r : Int)) = (d : Int) := by rw [IntKind.wrap_u8]; omega
        have e4 : 48 + (r : Int) = (d : Int) := by omega
        have e6 : (d : Int) % 256 = (d : Int) := by omega
        have e5 : (t : Int) - 1 = (k : Int) := by omega
        have hk0 : (0 : Int) ≤ (k : Int) := by omega
        have hkt : (k : Int) < 1234 := by omega
        have HN := Lib.hid hn2
        clear hk hr hd hn1 hn2 hm hma ht
        go_wp2_with fail
        refine cT.out.mono ?_
        rintro e w1 ⟨rfl, ⟨ys, hy, O1⟩, B1⟩
        have R1 := HH.out.row.keep_at B1 (by omega)
        obtain ⟨cv, hcv⟩ : ∃ cv, L[k]? = some cv := ⟨_, List.getElem?_eq_getElem (by have := HH.out.len; have := HK.out; omega)⟩
        have x1 := (R1.cell k).trans hcv
        have fl := R1.frozen k
        have O2 := O1.other (a := ⟨gt, k, none⟩) (Nat.lt_succ_self gt) (.int .u8 (d : Int))
        have cR := Lib.hid (trimmed_own O2 (by have := HN.out; omega))
        have HO1 := Lib.hid O1; have HB1 := Lib.hid B1; have HY := Lib.hid hy
        clear hcv R1 O1 O2 B1 hy cT
        go_wp2_with fail
        refine cR.out.mono ?_
        rintro e w2 ⟨rfl, O3, hw⟩; subst w2
        have HO3 := Lib.hid O3
        clear O3 cR
        go_wp2_with fail
        go_roundw
        case rel =>
          have hh := HH.out
          have hkk : t = k + 1 := by have := HK.out; omega
          rw [hkk] at hh
          have hd2 : d = 48 + m % 10 := by rw [HDr.out, HRm.out]
          have h3 := HO3.out
          rw [hd2] at h3 ⊢
          exact ⟨k, m / 10, _, _, _, _, _, rfl, rfl, TxAt.next hh (.inr H0.out) HB1.out HY.out h3⟩
        case measure => simp [intOf]; have := HK.out; omega

set_option maxHeartbeats 1000000 in
theorem text_no (A : Option Addr) (n c : Nat) (xs : List Nat) (w : World) (h : Digs w A n xs) (hn : n ≤ 1000000000) (hi : isN xs = false) :
    Calls Try.prog 30 #[.slice A n c] w fun e w' => e = .returned (.string ⟨#[]⟩) ∧ w' = w := by
  have c1 := Lib.hid (is_not A n c xs w h (by omega) hi)
  clear h hi
  go_enter Try.func30, Try.ntmps30
  go_wp2_with fail
  refine c1.out.mono ?_
  rintro e v1 ⟨rfl, hw⟩; subst v1
  go_wp2_with fail
  go_ret
  exact ⟨rfl, rfl⟩

end Go.Proofs.Ytcejbkmmiklhbaa
