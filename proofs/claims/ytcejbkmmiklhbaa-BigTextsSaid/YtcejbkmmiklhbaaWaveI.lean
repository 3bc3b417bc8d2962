/-
  wave's Fold: the product of two lists, or none. No condition beyond what each contract says.
-/
import Derived.Test.YtcejbkmmiklhbaaWaveH
namespace Go.Proofs.Ytcejbkmmiklhbaa
open Go.RowKit

theorem Ints.below {w w' : World} {A : Option Addr} {n : Nat} {xs : List Int} (h : Ints w (· < w.heap.size) A n xs) (B : Below w.heap.size w w') : Ints w' (· < w'.heap.size) A n xs :=
  ⟨h.1, fun hn => by
    obtain ⟨b, o, e, hm, hc⟩ := h.2 hn
    exact ⟨b, o, e, Nat.lt_of_lt_of_le hm B.size, fun i hi => (B.cell (p := ⟨b, o + i, none⟩) hm).trans (hc i hi)⟩⟩
theorem ints_row {w : World} {g n : Nat} {l : List Int} {t : TypeId} (h : Row w g t (intCells l)) (hl : l.length = n) : Ints w (· < w.heap.size) (some ⟨g, 0, none⟩) n l :=
  ⟨hl, fun _ => ⟨g, 0, rfl, h.lt, fun i hi => by rw [Nat.zero_add, h.cell i]; exact intCells_get l i (by omega)⟩⟩
theorem ints_none (w : World) (A : Option Addr) : Ints w (· < w.heap.size) A 0 [] := ⟨rfl, fun h => absurd h (by omega)⟩

theorem sumAt_three (xs ys : List Int) (M N s : Nat) : sumAt xs ys M N 0 s 3 = 0 := by
  unfold sumAt laid
  rw [sm_zero, sm_none (fun i _ => sm_none (fun j _ => by simp [term]))]
  rfl
theorem lay_fold (xs ys : List Int) (hx : 0 < xs.length) (hy : 0 < ys.length) :
    lay (xs.length + ys.length - 1) (fun s r => sumAt xs ys ((ys.length + 1) / 2) ((xs.length + 1) / 2) 0 s r) ((xs.length + 1) / 2 + (ys.length + 1) / 2 - 1) 0 = foldL xs ys := by
  refine foldL_of (by omega) (by omega) (lay_length _ _ _ _) (fun t ht => ?_)
  rw [lay_length] at ht
  rw [lay_get _ _ _ _ _ ht]
  exact spread_conv xs ys ((xs.length + 1) / 2) ((ys.length + 1) / 2) _ t (by omega) (by omega) (fun i j hi hj => by omega)

/-- What Fold answers. -/
def FoldR (r : Bool) (xs ys : List Int) (w : World) (e : Ending) (w' : World) : Prop :=
  ∃ R k, e = .returned (.tuple #[.slice R k k, .bool r]) ∧ Ints w' (· < w'.heap.size) R k (if r then foldL xs ys else []) ∧ Below w.heap.size w w'

set_option maxHeartbeats 4000000 in
theorem fold_main (A : Option Addr) (n c : Nat) (xs : List Int) (B : Option Addr) (m d : Nat) (ys : List Int) (w : World) (h1 : Ints w (· < w.heap.size) A n xs) (h2 : Ints w (· < w.heap.size) B m ys) (hx : Dig xs) (hy : Dig ys) (hn : 0 < n) (hm : 0 < m) :
    Calls Try.prog 40 #[.slice A n c, .slice B m d] w fun e w' => FoldR true xs ys w e w' := by
  have hxl := h1.1
  have hyl := h2.1
  have n1 := hx.1
  have n2 := hy.1
  have c1 := Lib.hid (digits_any A n c xs w h1 (by omega) true ⟨fun _ => hx, fun _ => rfl⟩)
  have c2 := Lib.hid (digits_any B m d ys w h2 (by omega) true ⟨fun _ => hy, fun _ => rfl⟩)
  have c3 := Lib.hid (values_any A n c xs w h1 hx)
  have e0 : ((n : Int) == 0) = false := by simp; omega
  have e1 : ((m : Int) == 0) = false := by simp; omega
  have e0n : (n == 0) = false := by simp; omega
  have e1n : (m == 0) = false := by simp; omega
  have H2 := Lib.hid h2
  have HX := Lib.hid hx
  have HY := Lib.hid hy
  have HF := Lib.hid (lay_fold xs ys (by omega) (by omega))
  have HC := Lib.hid (fun s => sumAt_three xs ys ((m + 1) / 2) ((n + 1) / 2) s)
  have HBd := Lib.hid (fun s r => sumAt_bound hx hy (M := (m + 1) / 2) (i := (n + 1) / 2) (j := 0) (by omega) (by omega) (by omega) s r)
  rw [hxl, hyl] at HF
  have hn' := Lib.hid hn
  have hm' := Lib.hid hm
  have hN : n ≤ 256 := by omega
  have hM : m ≤ 256 := by omega
  have HXL := Lib.hid hxl
  have HYL := Lib.hid hyl
  clear h1 h2 hx hy hxl hyl n1 n2 hn hm
  go_enter Try.func40, Try.ntmps40
  go_wp2_with fail
  refine c1.out.mono ?_
  rintro e v1 ⟨rfl, hw⟩; subst v1
  go_wp2_with fail
  refine c2.out.mono ?_
  rintro e v1 ⟨rfl, hw⟩; subst v1
  go_wp2_with fail
  refine c3.out.mono ?_
  rintro e w1 ⟨g1, z1, rfl, l1, R1, Q1, B1⟩
  have c4 := Lib.hid (values_any B m d ys w1 (H2.out.below B1) HY.out)
  have HR1 := Lib.hid R1; have HQ1 := Lib.hid Q1; have HB1 := Lib.hid B1
  clear R1 Q1 B1 l1 c1 c2 c3
  go_wp2_with fail
  refine c4.out.mono ?_
  rintro e w2 ⟨g2, z2, rfl, l2, R2, Q2, B2⟩
  have R1 := HR1.out.keep B2
  have B3 := HB1.out.trans (B2.mono HB1.out.size)
  have c5 := Lib.hid (products_any g1 g2 ((n + 1) / 2) ((m + 1) / 2) ((n + 1) / 2 + (m + 1) / 2 - 1) z1 z2 xs ys w2 R1 R2 HQ1.out Q2 HX.out HY.out (by omega) (by omega) (by have := hn'.out; omega) (by have := hm'.out; omega) rfl)
  have HB3 := Lib.hid B3
  clear R1 R2 Q2 B2 l2 B3 HR1 HQ1 HB1 c4
  have hS : (n + 1) / 2 + (m + 1) / 2 - 1 ≤ 255 := by omega
  generalize (n + 1) / 2 + (m + 1) / 2 - 1 = S at *
  go_wp2_with fail
  refine c5.out.mono ?_
  rintro e w3 ⟨gs, zs, rfl, l3, R3, Q3, B3⟩
  have B4 := HB3.out.trans (B3.mono HB3.out.size)
  obtain ⟨l, hl⟩ : ∃ l, l = n + m - 1 := ⟨_, rfl⟩
  have c6 := Lib.hid (joined_any gs S l zs (fun s r => sumAt xs ys ((m + 1) / 2) ((n + 1) / 2) 0 s r) w3 R3 Q3 HBd.out HC.out hS (by omega))
  have HB4 := Lib.hid B4
  rw [← hl] at HF
  have hl' : (n : Int) + (m : Int) - 1 = (l : Int) := by have := hn'.out; omega
  rw [← hl'] at c6
  have HLL : Hid ((foldL xs ys).length = l) := show _ = _ by
    rw [foldL_length xs ys (by have := hn'.out; have := HXL.out; omega) (by have := hm'.out; have := HYL.out; omega), HXL.out, HYL.out, hl]
  clear R3 Q3 B3 l3 B4 c5 HB3 hl hl' hS
  go_wp2_with fail
  refine c6.out.mono ?_
  rintro e w4 ⟨gl, rfl, l4, R4, B4⟩
  have B5 := HB4.out.trans (B4.mono HB4.out.size)
  have hF := HF.out
  rw [hF] at R4
  have hI := Lib.hid (ints_row R4 HLL.out)
  have HB5 := Lib.hid B5
  clear R4 B4 B5 l4 c6 HB4 hF
  go_wp2_with fail
  go_ret2
  exact ⟨_, _, rfl, hI.out, HB5.out⟩

set_option maxHeartbeats 2000000 in
theorem fold_any (A : Option Addr) (n c : Nat) (xs : List Int) (B : Option Addr) (m d : Nat) (ys : List Int) (w : World) (h1 : Ints w (· < w.heap.size) A n xs) (h2 : Ints w (· < w.heap.size) B m ys) (hn : n ≤ 9223372036854775807) (hm : m ≤ 9223372036854775807) (r : Bool) (hr : r = true ↔ Dig xs ∧ Dig ys) :
    Calls Try.prog 40 #[.slice A n c, .slice B m d] w fun e w' => FoldR r xs ys w e w' := by
  by_cases hx : Dig xs
  · by_cases hy : Dig ys
    · obtain rfl : r = true := hr.2 ⟨hx, hy⟩
      by_cases h0 : 0 < n ∧ 0 < m
      · exact fold_main A n c xs B m d ys w h1 h2 hx hy h0.1 h0.2
      · have c1 := Lib.hid (digits_any A n c xs w h1 hn true ⟨fun _ => hx, fun _ => rfl⟩)
        have c2 := Lib.hid (digits_any B m d ys w h2 hm true ⟨fun _ => hy, fun _ => rfl⟩)
        have HE : Hid (foldL xs ys = []) := show _ = _ by
          unfold foldL
          rw [if_pos (by rw [h1.1, h2.1]; omega)]
        by_cases n0 : n = 0
        · have e0 : ((n : Int) == 0) = true := by simp; omega
          have e0n : (n == 0) = true := by simp; omega
          clear h1 h2 hx hy hr h0 n0 hn hm
          go_enter Try.func40, Try.ntmps40
          go_wp2_with fail
          refine c1.out.mono ?_
          rintro e v1 ⟨rfl, hw⟩; subst v1
          go_wp2_with fail
          refine c2.out.mono ?_
          rintro e v1 ⟨rfl, hw⟩; subst v1
          go_wp2_with fail
          go_ret2
          exact ⟨none, 0, rfl, by rw [HE.out]; exact ints_none _ _, Below.refl _ _⟩
        · have e0 : ((n : Int) == 0) = false := by simp; omega
          have e0n : (n == 0) = false := by simp; omega
          have e1 : ((m : Int) == 0) = true := by simp; omega
          have e1n : (m == 0) = true := by simp; omega
          clear h1 h2 hx hy hr h0 n0 hn hm
          go_enter Try.func40, Try.ntmps40
          go_wp2_with fail
          refine c1.out.mono ?_
          rintro e v1 ⟨rfl, hw⟩; subst v1
          go_wp2_with fail
          refine c2.out.mono ?_
          rintro e v1 ⟨rfl, hw⟩; subst v1
          go_wp2_with fail
          go_ret2
          exact ⟨none, 0, rfl, by rw [HE.out]; exact ints_none _ _, Below.refl _ _⟩
    · obtain rfl : r = false := by
        cases hr' : r with
        | false => rfl
        | true => exact absurd (hr.1 hr').2 hy
      have c1 := Lib.hid (digits_any A n c xs w h1 hn true ⟨fun _ => hx, fun _ => rfl⟩)
      have c2 := Lib.hid (digits_any B m d ys w h2 hm false ⟨fun h => (by cases h), fun h => absurd h hy⟩)
      clear h1 h2 hx hy hr hn hm
      go_enter Try.func40, Try.ntmps40
      go_wp2_with fail
      refine c1.out.mono ?_
      rintro e v1 ⟨rfl, hw⟩; subst v1
      go_wp2_with fail
      refine c2.out.mono ?_
      rintro e v1 ⟨rfl, hw⟩; subst v1
      go_wp2_with fail
      go_ret2
      exact ⟨none, 0, rfl, ints_none _ _, Below.refl _ _⟩
  · obtain rfl : r = false := by
      cases hr' : r with
      | false => rfl
      | true => exact absurd (hr.1 hr').1 hx
    have c1 := Lib.hid (digits_any A n c xs w h1 hn false ⟨fun h => (by cases h), fun h => absurd h hx⟩)
    clear h1 h2 hx hr hn hm
    go_enter Try.func40, Try.ntmps40
    go_wp2_with fail
    refine c1.out.mono ?_
    rintro e v1 ⟨rfl, hw⟩; subst v1
    go_wp2_with fail
    go_ret2
    exact ⟨none, 0, rfl, ints_none _ _, Below.refl _ _⟩

end Go.Proofs.Ytcejbkmmiklhbaa
