/-
  What fault's Text does; no condition beyond what the contract asks.
-/
import Derived.Test.YtbfneeggfaoeaaaDoorRefB5
import Derived.Test.YtbfneeggfaoeaaaDoorIsRow
namespace Go.Proofs.YtbfneeggfaoeaaaDoor
open Go.RowKit
open Go.Lib (decDigits)

theorem Ints.on {w w' : World} {A : Option Addr} {n : Nat} {xs : List Int} (h : Ints w (· < w.heap.size) A n xs) {B : Nat} (hb : Below B w w') (hB : w.heap.size ≤ B) : Ints w' (· < w'.heap.size) A n xs :=
  ⟨h.1, fun hn => by
    obtain ⟨b, o, e, hm, hc⟩ := h.2 hn
    have hm' : b < w.heap.size := hm
    exact ⟨b, o, e, Nat.lt_of_lt_of_le hm' hb.size, fun i hi => (World.cell?_of_block (hb.block b (by omega))).trans (hc i hi)⟩⟩
theorem take_step {p : List Int} {k : Nat} (h : k < p.length) : p.take (k + 1) = p.take k ++ [p.getD k 0] := by
  rw [List.take_add_one, List.getElem?_eq_getElem h]
  simp [List.getD, h]
theorem tail_step {p : List Int} {k : Nat} (h : k < p.length) : tailOf (p.take (k + 1)) = tailOf (p.take k) ++ 47 :: decDigits (p.getD k 0).toNat := by
  rw [take_step h]
  unfold tailOf
  rw [List.map_append, List.flatten_append]
  simp
theorem neg_text {e a : Int} {p : List Int} {k : Nat} (hk : k < p.length) (hx : p.getD k 0 < 0) : textOf e a p = [] :=
  textOf_empty (.inr (.inr ⟨p.getD k 0, by simp [List.getD, hk], hx⟩))
theorem getD_top {p : List Int} (hp : ∀ x ∈ p, x ≤ (top : Int)) {k : Nat} (hk : k < p.length) : p.getD k 0 ≤ (top : Int) := hp _ (by simp [List.getD, hk])

/-- One round has gone well: what the builder holds. -/
def TextRel (w : World) (b n : Nat) (p : List Int) (pre : List UInt8) (i : Value) (wr : World) : Prop :=
  ∃ (k : Nat) (l : List UInt8), k ≤ n ∧ i = .int .i64 (k : Int) ∧ Bld b b l wr ∧ l = pre ++ tailOf (p.take k) ∧ l.length ≤ 27 + 21 * k ∧ (∀ x ∈ p.take k, 0 ≤ x) ∧ b < wr.heap.size ∧ Below w.heap.size w wr

set_option maxHeartbeats 4000000 in
theorem text_any (e a : Int) (A : Option Addr) (n c : Nat) (p : List Int) (w : World) (hL : Laid w) (hI : Ints w (· < w.heap.size) A n p) (ha : a ≤ (top : Int)) (hp : ∀ x ∈ p, x ≤ (top : Int)) (hn : n ≤ 1000000) :
    Calls Tryd.prog 15 #[.agg #[.int .i64 e, .int .i64 a, .slice A n c]] w fun x w' => x = .returned (.string ⟨(textOf e a p).toArray⟩) ∧ Below w.heap.size w w' := by
  obtain ⟨out, ho⟩ : ∃ out, out = textOf e a p := ⟨_, rfl⟩
  rw [← ho]
  have HO := Lib.hid ho
  clear ho
  have B1 : Below w.heap.size w (w.alloc (.cells #[.int .i64 e, .int .i64 a, .slice A n c] 30)) := (Below.refl _ _).alloc (Nat.le_refl _) _
  have L1 := hL.on B1 hL.size
  have HI := Lib.hid hI
  have HA := Lib.hid ha
  have HP := Lib.hid hp
  clear hI ha hp
  go_enter Tryd.func15, Tryd.ntmps15
  go_wp2_with fail
  refine (name_any e _ L1).mono ?_
  rintro x w' ⟨rfl, rfl⟩
  by_cases h0 : nameOf e = []
  · have HE : Hid (out = []) := show _ = _ by rw [HO.out, textOf_empty (.inl h0)]
    rw [h0]
    go_wp2_with fail
    go_ret
    exact ⟨by rw [HE.out]; rfl, B1⟩
  · have e0 : (nameOf e == []) = false := by simpa using h0
    have hnl := nameOf_le e
    by_cases h1 : a < 0
    · have d1 : decide (a < 0) = true := by simpa using h1
      have HE : Hid (out = []) := show _ = _ by rw [HO.out, textOf_empty (.inr (.inl h1))]
      generalize nameOf e = nm at *
      go_wp2_with fail
      go_ret
      exact ⟨by rw [HE.out]; rfl, B1⟩
    · have d1 : decide (a < 0) = false := by simpa using h1
      have HF : Hid ((∀ x ∈ p, 0 ≤ x) → out = nameOf e ++ 64 :: (decDigits a.toNat ++ tailOf p)) := fun h => by rw [HO.out, textOf_full h0 (by omega) h]
      clear h0
      generalize nameOf e = nm at *
      have B2 : Below w.heap.size w ((w.alloc (.cells #[.int .i64 e, .int .i64 a, .slice A n c] 30)).alloc (.cells #[.pointer none, .slice none 0 0] 51)) := B1.alloc B1.size _
      have hb1 : (w.alloc (.cells #[.int .i64 e, .int .i64 a, .slice A n c] 30)).heap[w.heap.size]? = some (.cells #[.int .i64 e, .int .i64 a, .slice A n c] 30) := heap_alloc_new w _
      have s1 : (w.alloc (.cells #[.int .i64 e, .int .i64 a, .slice A n c] 30)).heap.size = w.heap.size + 1 := by simp
      generalize w.alloc (.cells #[.int .i64 e, .int .i64 a, .slice A n c] 30) = w1 at *
      have hb2 : (w1.alloc (.cells #[.pointer none, .slice none 0 0] 51)).heap[w.heap.size + 1]? = some (.cells #[.pointer none, .slice none 0 0] 51) := by
        rw [← s1]; exact heap_alloc_new w1 _
      have s2 : (w1.alloc (.cells #[.pointer none, .slice none 0 0] 51)).heap.size = w.heap.size + 2 := by simp [s1]
      have hb1' : (w1.alloc (.cells #[.pointer none, .slice none 0 0] 51)).heap[w.heap.size]? = some (.cells #[.int .i64 e, .int .i64 a, .slice A n c] 30) :=
        (Below.heap_alloc _ _ _ (by omega)).trans hb1
      have Y1 : w1.cell? ⟨w.heap.size, 1, none⟩ = some (.int .i64 a) := by rw [block_cell hb1]; rfl
      go_wp2_with fail
      generalize w1.alloc (.cells #[.pointer none, .slice none 0 0] 51) = w2 at *
      have HF2 := Lib.hid (Bld.fresh hb2)
      have X1 : w2.cell? ⟨w.heap.size, 1, none⟩ = some (.int .i64 a) := by rw [block_cell hb1']; rfl
      have X2 : w2.cell? ⟨w.heap.size, 2, none⟩ = some (.slice A n c) := by rw [block_cell hb1']; rfl
      have L2 := hL.on B2 hL.size
      have h5 := hL.size
      have hpl := HI.out.1
      clear hb1 hb2 hb1' B1 L1 s1 Y1
      refine (writeString_any _ _ [] nm w2 HF2.out (by simp; omega) (by omega)).mono ?_
      rintro x w3 ⟨rfl, b3, k3⟩
      have HB3 := Lib.hid b3
      clear b3 HF2
      go_wp2_with fail
      refine (writeByte_any _ _ _ 64 w3 HB3.out (by simp; omega) (by have := k3.size; omega)).mono ?_
      rintro x w4 ⟨rfl, b4, k4⟩
      have K4 := k3.trans k4
      have HB4 := Lib.hid b4
      have X1' : w4.cell? ⟨w.heap.size, 1, none⟩ = some (.int .i64 a) := (K4.cell (Nat.lt_succ_self _)).trans X1
      have L4 := L2.on K4 (by omega)
      clear b4 k3 k4 HB3 X1
      go_wp2_with fail
      refine (itoa_any a h1 HA.out w4 L4.pows).mono ?_
      rintro x w5 ⟨rfl, k5⟩
      have HDl := Lib.hid (dec_length (u := a.toNat) (by have := HA.out; unfold top at this; omega))
      have HB5 := Lib.hid (HB4.out.on k5)
      have K5 : Below (w.heap.size + 1) w2 w5 := K4.trans (k5.mono (by have := K4.size; omega))
      clear k5 HB4 X1' L4 K4
      generalize decDigits a.toNat = da at *
      go_wp2_with fail
      refine (writeString_any _ _ _ da w5 HB5.out (by have := HDl.out; simp; omega) (by have := K5.size; omega)).mono ?_
      rintro x w6 ⟨rfl, b6, k6⟩
      have K6 := K5.trans k6
      have HB6 := Lib.hid b6
      have X2' : w6.cell? ⟨w.heap.size, 2, none⟩ = some (.slice A n c) := (K6.cell (Nat.lt_succ_self _)).trans X2
      clear b6 k6 HB5 K5 X2
      have B6 : Below w.heap.size w w6 := B2.trans (K6.mono (by omega))
      have s6 : w.heap.size + 1 < w6.heap.size := by have := K6.size; omega
      have HPre : Hid (out = (nm ++ [64] ++ da) ++ tailOf p ∨ ∃ x ∈ p, x < 0) := by
        by_cases hall : ∀ x ∈ p, 0 ≤ x
        · left; rw [HF.out hall]; simp
        · right
          obtain ⟨x, hx⟩ := Classical.not_forall.1 hall
          obtain ⟨hx1, hx2⟩ := Classical.not_imp.1 hx
          exact ⟨x, hx1, by omega⟩
      have HPl : Hid ((nm ++ [64] ++ da).length ≤ 27) := show _ ≤ _ by have := HDl.out; simp; omega
      have HB6' : Hid (Bld (w.heap.size + 1) (w.heap.size + 1) (nm ++ [64] ++ da) w6) := HB6.out
      generalize nm ++ [64] ++ da = pre at HPre HPl HB6'
      clear HB6 HDl HF K6 B2 L2 s2 e0 d1 h1 HA
      go_wp2_with fail
      clear X2'
      go_loopw [27] (fun i wr => TextRel w (w.heap.size + 1) n p pre i wr) (fun i _ => n - (intOf i).toNat)
      case atStart => exact ⟨0, pre, by omega, rfl, HB6'.out, by simp [tailOf], by have := HPl.out; omega, by simp, s6, B6⟩
      case round =>
        clear B6 s6 HB6'
        obtain ⟨k, l, hk, rfl, hbl, hll, hlen, hpos, hsz, Br⟩ := hrel
        have HBl := Lib.hid hbl; have HLl := Lib.hid hll; have HPos := Lib.hid hpos
        clear hbl hll hpos
        by_cases hlt : k < n
        · have d1 : decide ((k : Int) < (n : Int)) = true := by simp; omega
          have d1n : decide (k < n) = true := by simp; omega
          obtain ⟨b0, o, rfl, hm, hc⟩ := HI.out.2 (by omega)
          have hck := (Br.cell (p := ⟨b0, o + k, none⟩) hm).trans (hc k hlt)
          have HX := Lib.hid (getD_top HP.out (k := k) (by omega))
          have HTs := Lib.hid (tail_step (p := p) (k := k) (by omega))
          have HNg : Hid (p.getD k 0 < 0 → out = []) := fun h => by rw [HO.out]; exact neg_text (by omega) h
          have HTk : Hid (∀ y ∈ p.take (k + 1), y ∈ p.take k ∨ y = p.getD k 0) := by
            intro y hy
            rw [take_step (by omega), List.mem_append, List.mem_singleton] at hy
            exact hy
          generalize p.getD k 0 = x at hck HX HTs HNg HTk
          clear hc hm
          by_cases hx : x < 0
          · have d2 : decide (x < 0) = true := by simpa using hx
            have HE := Lib.hid (HNg.out hx)
            clear HNg
            go_wp2_with fail
            go_ret
            exact ⟨by rw [HE.out]; rfl, Br⟩
          · have d2 : decide (x < 0) = false := by simpa using hx
            have Lr := hL.on Br hL.size
            clear HNg
            go_wp2_with fail
            refine (writeByte_any _ _ _ 47 wr HBl.out (by omega) (by omega)).mono ?_
            rintro y w7 ⟨rfl, b7, k7⟩
            have HB7 := Lib.hid b7
            have B7 : Below w.heap.size w w7 := Br.trans (k7.mono (by omega))
            have L7 := Lr.on k7 (by omega)
            have s7 : w.heap.size + 1 < w7.heap.size := by have := k7.size; omega
            clear b7 k7 Lr HBl
            go_wp2_with fail
            refine (itoa_any x (by omega) HX.out w7 L7.pows).mono ?_
            rintro y w8 ⟨rfl, k8⟩
            have HDl := Lib.hid (dec_length (u := x.toNat) (by have := HX.out; unfold top at this; omega))
            have HB8 := Lib.hid (HB7.out.on k8)
            have B8 : Below w.heap.size w w8 := B7.trans (k8.mono B7.size)
            have s8 : w.heap.size + 1 < w8.heap.size := by have := k8.size; omega
            clear k8 HB7 L7 B7 s7
            generalize decDigits x.toNat = dx at *
            go_wp2_with fail
            refine (writeString_any _ _ _ dx w8 HB8.out (by have := HDl.out; simp; omega) (by omega)).mono ?_
            rintro y w9 ⟨rfl, b9, k9⟩
            have HB9 := Lib.hid b9
            have B9 : Below w.heap.size w w9 := B8.trans (k9.mono (by omega))
            have s9 : w.heap.size + 1 < w9.heap.size := by have := k9.size; omega
            clear b9 k9 HB8 B8 s8
            have HL9 : Hid (l ++ [47] ++ dx = pre ++ tailOf (p.take (k + 1))) := show _ = _ by rw [HTs.out, HLl.out]; simp
            have HN9 : Hid ((l ++ [47] ++ dx).length ≤ 27 + 21 * (k + 1)) := show _ ≤ _ by have := HDl.out; simp; omega
            have HP9 : Hid (∀ y ∈ p.take (k + 1), 0 ≤ y) := fun y hy => by
              rcases HTk.out y hy with h | h
              · exact HPos.out y h
              · omega
            go_wp2_with fail
            go_roundw
            case rel => exact ⟨k + 1, l ++ [47] ++ dx, by omega, ret_val (by omega), HB9.out, HL9.out, HN9.out, HP9.out, s9, B9⟩
            case measure => simp [intOf]; omega
        · obtain rfl : k = n := by omega
          have d1 : decide ((k : Int) < (k : Int)) = false := by simp
          have HE : Hid (out = l) := by
            rcases HPre.out with h | ⟨x, hx, h⟩
            · show _ = _
              rw [h, HLl.out, List.take_of_length_le (by omega)]
            · have := HPos.out x (by rw [List.take_of_length_le (by omega)]; exact hx)
              omega
          go_wp2_with fail
          refine (builderString_any _ _ _ wr HBl.out (by omega)).mono ?_
          rintro y w7 ⟨rfl, k7⟩
          have B7 : Below w.heap.size w w7 := Br.trans (k7.mono (by omega))
          go_wp2_with fail
          go_ret
          exact ⟨by rw [HE.out]; rfl, B7⟩

end Go.Proofs.YtbfneeggfaoeaaaDoor
