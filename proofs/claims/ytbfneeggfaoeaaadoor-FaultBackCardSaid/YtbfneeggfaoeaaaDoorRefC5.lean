/-
  What the document's Text does; no condition beyond what the contract asks.
-/
import Derived.Test.YtbfneeggfaoeaaaDoorFaultC
namespace Go.Proofs.YtbfneeggfaoeaaaDoor
open Go.RowKit
open Go.Lib (decDigits)

theorem cat_to {u v l : List UInt8} (h : l = u ++ v) : (⟨u.toArray⟩ : ByteArray) ++ (⟨v.toArray⟩ : ByteArray) = ⟨l.toArray⟩ := by rw [h, cat_str]

/-- The text so far. -/
def RTextRel (w w1 : World) (n : Nat) (p : List Int) (pre : List UInt8) (v i : Value) (wr : World) : Prop :=
  ∃ (k : Nat) (l : List UInt8), k ≤ n ∧ i = .int .i64 (k : Int) ∧ v = .string ⟨l.toArray⟩ ∧ l = pre ++ tailOf (p.take k) ∧ l.length ≤ 27 + 21 * k ∧ (∀ x ∈ p.take k, 0 ≤ x) ∧ Below (w.heap.size + 1) w1 wr

set_option maxHeartbeats 4000000 in
theorem refText_any (e a : Int) (A : Option Addr) (n c : Nat) (p : List Int) (w : World) (hI : Ints w (· < w.heap.size) A n p) (ha : a ≤ (top : Int)) (hp : ∀ x ∈ p, x ≤ (top : Int)) (hn : n ≤ 1000000) :
    Calls Tryd.prog 16 #[.agg #[.int .i64 e, .int .i64 a, .slice A n c]] w fun x w' => x = .returned (.string ⟨(textOf e a p).toArray⟩) ∧ Below w.heap.size w w' := by
  obtain ⟨out, ho⟩ : ∃ out, out = textOf e a p := ⟨_, rfl⟩
  rw [← ho]
  have HO := Lib.hid ho
  clear ho
  have HI := Lib.hid hI
  have HA := Lib.hid ha
  have HP := Lib.hid hp
  have hpl := hI.1
  clear hI ha hp
  have B1 : Below w.heap.size w (w.alloc (.cells #[.int .i64 e, .int .i64 a, .slice A n c] 30)) := (Below.refl _ _).alloc (Nat.le_refl _) _
  have hb1 : (w.alloc (.cells #[.int .i64 e, .int .i64 a, .slice A n c] 30)).heap[w.heap.size]? = some (.cells #[.int .i64 e, .int .i64 a, .slice A n c] 30) := heap_alloc_new w _
  have s1 : (w.alloc (.cells #[.int .i64 e, .int .i64 a, .slice A n c] 30)).heap.size = w.heap.size + 1 := by simp
  go_enter Tryd.func16, Tryd.ntmps16
  go_wp2_with fail
  generalize w.alloc (.cells #[.int .i64 e, .int .i64 a, .slice A n c] 30) = w1 at *
  have X1 : w1.cell? ⟨w.heap.size, 1, none⟩ = some (.int .i64 a) := by rw [block_cell hb1]; rfl
  have X2 : w1.cell? ⟨w.heap.size, 2, none⟩ = some (.slice A n c) := by rw [block_cell hb1]; rfl
  clear hb1
  refine (refName_any e w1).mono ?_
  rintro x w2 ⟨rfl, k2⟩
  have K2 : Below (w.heap.size + 1) w1 w2 := k2.mono (by omega)
  have X12 : w2.cell? ⟨w.heap.size, 1, none⟩ = some (.int .i64 a) := (K2.cell (Nat.lt_succ_self _)).trans X1
  have B2 : Below w.heap.size w w2 := B1.trans (K2.mono (by omega))
  clear k2 X1
  by_cases h0 : nameOf e = []
  · have HE : Hid (out = []) := show _ = _ by rw [HO.out, textOf_empty (.inl h0)]
    rw [h0]
    go_wp2_with fail
    go_ret
    exact ⟨by rw [HE.out]; rfl, B2⟩
  · have e0 : (nameOf e == []) = false := by simpa using h0
    have hnl := nameOf_le e
    by_cases h1 : a < 0
    · have d1 : decide (a < 0) = true := by simpa using h1
      have HE : Hid (out = []) := show _ = _ by rw [HO.out, textOf_empty (.inr (.inl h1))]
      generalize nameOf e = nm at *
      go_wp2_with fail
      go_ret
      exact ⟨by rw [HE.out]; rfl, B2⟩
    · have HF : Hid ((∀ x ∈ p, 0 ≤ x) → out = nameOf e ++ 64 :: (decDigits a.toNat ++ tailOf p)) := fun h => by rw [HO.out, textOf_full h0 (by omega) h]
      obtain ⟨an, rfl⟩ : ∃ an : Nat, a = (an : Int) := ⟨a.toNat, by omega⟩
      have d1 : decide ((an : Int) < 0) = false := by simp
      clear h0
      rw [Int.toNat_natCast] at HF
      generalize nameOf e = nm at *
      have HAn : Hid (an ≤ 9223372036854775807) := show _ ≤ _ by have := HA.out; unfold top at this; omega
      have y1 : IntKind.u64.wrap (an : Int) = (an : Int) := fits_u64 (by omega) (by have := HAn.out; omega)
      obtain ⟨l1, hl1⟩ : ∃ l1, l1 = nm ++ [64] := ⟨_, rfl⟩
      have c1 : (⟨nm.toArray⟩ : ByteArray) ++ (⟨#[64]⟩ : ByteArray) = ⟨l1.toArray⟩ := cat_to hl1
      have q1 : ¬ 9223372036854775807 < nm.length + 1 := by omega
      have hll1 : l1.length ≤ 7 := by rw [hl1]; simp; omega
      have HL1 := Lib.hid hl1
      clear hl1 HA h1
      go_wp2_with fail
      refine (refDigits_any an HAn.out w2).mono ?_
      rintro x w3 ⟨rfl, k3⟩
      have K3 : Below (w.heap.size + 1) w1 w3 := K2.trans (k3.mono (by have := K2.size; omega))
      have hdl := dec_length (u := an) (by have := HAn.out; omega)
      generalize decDigits an = da at *
      obtain ⟨l2, hl2⟩ : ∃ l2, l2 = l1 ++ da := ⟨_, rfl⟩
      have c2 : (⟨l1.toArray⟩ : ByteArray) ++ (⟨da.toArray⟩ : ByteArray) = ⟨l2.toArray⟩ := cat_to hl2
      have q2 : ¬ 9223372036854775807 < l1.length + da.length := by omega
      have HPl : Hid (l2.length ≤ 27) := show _ ≤ _ by rw [hl2]; simp; omega
      have HPre : Hid (out = l2 ++ tailOf p ∨ ∃ x ∈ p, x < 0) := by
        by_cases hall : ∀ x ∈ p, 0 ≤ x
        · left; rw [HF.out hall, hl2, HL1.out]; simp
        · right
          obtain ⟨x, hx⟩ := Classical.not_forall.1 hall
          obtain ⟨hx1, hx2⟩ := Classical.not_imp.1 hx
          exact ⟨x, hx1, by omega⟩
      clear hl2 k3 K2 X12 B2 HF y1 d1 e0
      go_wp2_with fail
      clear c1 c2 q1 q2
      go_loopw [3, 4] (fun v i wr => RTextRel w w1 n p l2 v i wr) (fun _ i _ => n - (intOf i).toNat)
      case atStart => exact ⟨0, l2, by omega, rfl, rfl, by simp [tailOf], by have := HPl.out; omega, by simp, K3⟩
      case round =>
        clear K3
        obtain ⟨k, l, hk, rfl, rfl, hll, hlen, hpos, Kr⟩ := hrel
        have HLl := Lib.hid hll; have HPos := Lib.hid hpos
        clear hll hpos
        have Br : Below w.heap.size w wr := B1.trans (Kr.mono (by omega))
        have X2r : wr.cell? ⟨w.heap.size, 2, none⟩ = some (.slice A n c) := (Kr.cell (Nat.lt_succ_self _)).trans X2
        by_cases hlt : k < n
        · have d1 : decide ((k : Int) < (n : Int)) = true := by simp; omega
          have d1n : decide (k < n) = true := by simp; omega
          obtain ⟨b0, o, rfl, hm, hc⟩ := HI.out.2 (by omega)
          have hck := (Br.cell (p := ⟨b0, o + k, none⟩) hm).trans (hc k hlt)
          have HX := Lib.hid (getD_top HP.out (k := k) (by omega))
          have HTs := Lib.hid (tail_step (p := p) (k := k) (by omega))
          have HNg : Hid (p.getD k 0 < 0 → out = []) := fun h => by rw [HO.out]; exact neg_text (by omega) h
          have HTk : Hid (∀ y ∈ p.take (k + 1), y ∈ p.take k ∨ y = p.getD k 0) := by
            intro y hy
            rw [take_step (by omega), List.mem_append, List.mem_singleton] at hy
            exact hy
          generalize p.getD k 0 = x at hck HX HTs HNg HTk
          clear hc hm
          by_cases hx : x < 0
          · have d2 : decide (x < 0) = true := by simpa using hx
            have HE := Lib.hid (HNg.out hx)
            clear HNg
            go_wp2_with fail
            go_ret
            exact ⟨by rw [HE.out]; rfl, Br⟩
          · obtain ⟨xn, rfl⟩ : ∃ xn : Nat, x = (xn : Int) := ⟨x.toNat, by omega⟩
            have d2 : decide ((xn : Int) < 0) = false := by simp
            have HXn : Hid (xn ≤ 9223372036854775807) := show _ ≤ _ by have := HX.out; unfold top at this; omega
            have y1 : IntKind.u64.wrap (xn : Int) = (xn : Int) := fits_u64 (by omega) (by have := HXn.out; omega)
            rw [Int.toNat_natCast] at HTs
            obtain ⟨l3, hl3⟩ : ∃ l3, l3 = l ++ [47] := ⟨_, rfl⟩
            have c1 : (⟨l.toArray⟩ : ByteArray) ++ (⟨#[47]⟩ : ByteArray) = ⟨l3.toArray⟩ := cat_to hl3
            have q1 : ¬ 9223372036854775807 < l.length + 1 := by omega
            have hll3 : l3.length ≤ 28 + 21 * k := by rw [hl3]; simp; omega
            have HL3 := Lib.hid hl3
            clear HNg hl3 hx HX
            go_wp2_with fail
            refine (refDigits_any xn HXn.out wr).mono ?_
            rintro y w4 ⟨rfl, k4⟩
            have K4 : Below (w.heap.size + 1) w1 w4 := Kr.trans (k4.mono (by have := Kr.size; omega))
            have hdx := dec_length (u := xn) (by have := HXn.out; omega)
            generalize decDigits xn = dx at *
            obtain ⟨l4, hl4⟩ : ∃ l4, l4 = l3 ++ dx := ⟨_, rfl⟩
            have c2 : (⟨l3.toArray⟩ : ByteArray) ++ (⟨dx.toArray⟩ : ByteArray) = ⟨l4.toArray⟩ := cat_to hl4
            have q2 : ¬ 9223372036854775807 < l3.length + dx.length := by omega
            have HL9 : Hid (l4 = l2 ++ tailOf (p.take (k + 1))) := show _ = _ by rw [hl4, HL3.out, HTs.out, HLl.out]; simp
            have HN9 : Hid (l4.length ≤ 27 + 21 * (k + 1)) := show _ ≤ _ by rw [hl4]; simp; omega
            have HP9 : Hid (∀ y ∈ p.take (k + 1), 0 ≤ y) := fun y hy => by
              rcases HTk.out y hy with h | h
              · exact HPos.out y h
              · omega
            clear hl4 k4 y1 hck X2r
            go_wp2_with fail
            go_roundw
            case rel => exact ⟨k + 1, l4, by omega, ret_val (by omega), rfl, HL9.out, HN9.out, HP9.out, K4⟩
            case measure => simp [intOf]; omega
        · obtain rfl : k = n := by omega
          have d1 : decide ((k : Int) < (k : Int)) = false := by simp
          have HE : Hid (out = l) := by
            rcases HPre.out with h | ⟨x, hx, h⟩
            · show _ = _
              rw [h, HLl.out, List.take_of_length_le (by omega)]
            · have := HPos.out x (by rw [List.take_of_length_le (by omega)]; exact hx)
              omega
          go_wp2_with fail
          go_ret
          exact ⟨by rw [HE.out]; rfl, Br⟩

end Go.Proofs.YtbfneeggfaoeaaaDoor
