/-
  Rows of digits of 2^16 in memory; what Is, Same, trimmed, digit do, of the program and of the document. No condition beyond what each contract says.
  What Same, trimmed, digit do, of the program and of the document. No condition beyond what each contract says.
-/
import Derived.Test.YtojpfmlmalmlcaaGreatDoorNWaveG
namespace Go.Proofs.YtojpfmlmalmlcaaGreatDoor.G
open Go.RowKit
theorem beq0_t {x : Nat} (h : x = 0) : ((x : Int) == 0) = true := by subst h; rfl
theorem beq0_f {x : Nat} (h : x ≠ 0) : ((x : Int) == 0) = false := by simp; omega
theorem bne0_t {x : Nat} (h : x ≠ 0) : ((x : Int) != 0) = true := by simp; omega
theorem bne0_f {x : Nat} (h : x = 0) : ((x : Int) != 0) = false := by subst h; rfl
theorem bne_t {x y : Nat} (h : x ≠ y) : ((x : Int) != (y : Int)) = true := bne_iff_ne.2 (by omega)
theorem bne_f {x y : Nat} (h : x = y) : ((x : Int) != (y : Int)) = false := by subst h; simp
theorem lt_t {x y : Nat} (h : x < y) : decide ((x : Int) < (y : Int)) = true := by simp; omega
theorem lt_f {x y : Nat} (h : y ≤ x) : decide ((x : Int) < (y : Int)) = false := by simp; omega
theorem ltn_t {x y : Nat} (h : x < y) : decide (x < y) = true := by simp; omega
theorem ltn_f {x y : Nat} (h : y ≤ x) : decide (x < y) = false := by simp; omega
/-- The cells that a row of digits is. -/
def dc (xs : List Nat) : List Value := xs.map fun x : Nat => Value.int .u16 (x : Int)
theorem dc_length (xs : List Nat) : (dc xs).length = xs.length := by simp [dc]
theorem dc_append (a b : List Nat) : dc (a ++ b) = dc a ++ dc b := by simp [dc]
theorem dc_get (xs : List Nat) (i : Nat) (h : i < xs.length) : (dc xs)[i]? = some (.int .u16 (xs.getD i 0 : Nat)) := by simp [dc, List.getD, h]
theorem dc_one (xs : List Nat) : ∀ u ∈ dc xs, u.oneCell' = true := by
  intro u hu
  obtain ⟨b, _, rfl⟩ := List.mem_map.1 hu
  rfl
theorem dc_noughts (n : Nat) : List.replicate n (Value.int .u16 0) = dc (List.replicate n 0) := by simp [dc]
theorem dc_set (xs : List Nat) (i d : Nat) : (dc xs).set i (.int .u16 (d : Int)) = dc (xs.set i d) := by simp [dc, List.map_set]
/-- A slice of uint16 that begins at A and is n long reads as the digits xs. -/
def Digs (w : World) (A : Option Addr) (n : Nat) (xs : List Nat) : Prop :=
  xs.length = n ∧ Dg xs ∧ (0 < n → ∃ b o, A = some ⟨b, o, none⟩ ∧ b < w.heap.size ∧ ∀ i, i < n → w.cell? ⟨b, o + i, none⟩ = some (.int .u16 (xs.getD i 0 : Nat)))
theorem Digs.below {w w' : World} {A : Option Addr} {n : Nat} {xs : List Nat} (h : Digs w A n xs) (B : Below w.heap.size w w') : Digs w' A n xs :=
  ⟨h.1, h.2.1, fun hn => by
    obtain ⟨b, o, e, hm, hc⟩ := h.2.2 hn
    exact ⟨b, o, e, Nat.lt_of_lt_of_le hm B.size, fun i hi => (B.cell (p := ⟨b, o + i, none⟩) hm).trans (hc i hi)⟩⟩
theorem Digs.keep {w w' : World} {A : Option Addr} {n : Nat} {xs : List Nat} (h : Digs w A n xs) {m : Nat} (B : Below m w w') (hm : 0 < n → ∀ b o, A = some ⟨b, o, none⟩ → b < m) : Digs w' A n xs :=
  ⟨h.1, h.2.1, fun hn => by
    obtain ⟨b, o, e, hl, hc⟩ := h.2.2 hn
    have hb := hm hn b o e
    exact ⟨b, o, e, Nat.lt_of_lt_of_le hl B.size, fun i hi => (B.cell (p := ⟨b, o + i, none⟩) hb).trans (hc i hi)⟩⟩
theorem Digs.none (w : World) (A : Option Addr) : Digs w A 0 [] := ⟨rfl, Dg.nil, fun h => absurd h (by omega)⟩
theorem Digs.take {w : World} {A : Option Addr} {n : Nat} {xs : List Nat} (h : Digs w A n xs) {k : Nat} (hk : k ≤ n) : Digs w A k (xs.take k) :=
  ⟨by rw [List.length_take, h.1]; omega, h.2.1.take k, fun hn => by
    obtain ⟨b, o, e, hm, hc⟩ := h.2.2 (by omega)
    exact ⟨b, o, e, hm, fun i hi => by rw [hc i (by omega)]; simp [List.getD, hi]⟩⟩
theorem _root_.Go.Proofs.YtojpfmlmalmlcaaGreatDoor.IsRow.digs {w : World} {a : Option Addr} {len cap : Nat} {zs : List Int} (h : IsRow .u16 w a len cap zs) : ∃ xs, Digs w a len xs ∧ len ≤ cap := by
  rcases h with ⟨rfl, rfl, rfl, rfl⟩ | ⟨x, rfl, hl, hm, hz, hc, hw⟩
  · exact ⟨[], Digs.none _ _, Nat.le_refl _⟩
  · have hb : ∀ i, i < zs.length → 0 ≤ zs.getD i 0 ∧ zs.getD i 0 ≤ 65535 := fun i hi => by
      have h2 := hw (zs.getD i 0) (by simp [List.getD, hi])
      exact Go.bounds_u16 h2
    refine ⟨(zs.take len).map fun n => n.toNat, ⟨by simp; omega, fun y hy => ?_, fun hn => ?_⟩, hl⟩
    · obtain ⟨z, h1, rfl⟩ := List.mem_map.1 hy
      obtain ⟨i, hi, rfl⟩ := List.mem_iff_getElem.1 (List.mem_of_mem_take h1)
      have := hb i hi
      simp [List.getD, hi] at this
      omega
    · obtain ⟨b, o, sp⟩ := x
      have hsp : sp = none := by
        have := World.cell?_spot (hc 0 (by omega))
        simpa [Addr.add] using this
      subst hsp
      refine ⟨b, o, rfl, World.block_lt_of_cell? w ⟨b, o, none⟩ (by simpa [Addr.add] using hc 0 (by omega)), fun i hi => ?_⟩
      have h1 := hc i (by omega)
      rw [Addr.add_lit] at h1
      rw [h1]
      have h3 := hb i (by omega)
      have h4 : ((zs.take len).map fun n => n.toNat).getD i 0 = (zs.getD i 0).toNat := by
        simp [List.getD, hi, show i < zs.length by omega]
      rw [h4]
      generalize zs.getD i 0 = z at h3 ⊢
      simp
      omega
theorem _root_.Go.Proofs.YtojpfmlmalmlcaaGreatDoor.Row.digs {w : World} {g : Nat} {t : TypeId} {xs : List Nat} {pre post : List Value} (h : Row w g t (pre ++ dc xs ++ post)) (hx : Dg xs) {o n : Nat} (ho : pre.length = o) (hn : xs.length = n) : Digs w (some ⟨g, o, none⟩) n xs :=
  ⟨hn, hx, fun _ => ⟨g, o, rfl, h.lt, fun i hi => by
    rw [h.cell, List.append_assoc, List.getElem?_append_right (by omega), List.getElem?_append_left (by rw [dc_length]; omega), ← ho, Nat.add_sub_cancel_left]
    exact dc_get xs i (by omega)⟩⟩
theorem own_digs {w : World} {base n c : Nat} {e : TypeId} {A : Option Addr} {xs : List Nat} (h : w.ownsRow base e 1 (.slice A n c) n (dc xs)) (hx : Dg xs) : Digs w A n xs := by
  have hl : xs.length = n := by have := h.1; rw [dc_length] at this; omega
  refine ⟨hl, hx, fun hn => ?_⟩
  obtain ⟨g, e, _, hlt, hc⟩ := own_cell h hn
  refine ⟨g, 0, e, hlt, fun i hi => ?_⟩
  rw [Nat.zero_add, hc i hi]
  exact dc_get xs i (by omega)
set_option maxHeartbeats 1000000 in
theorem is_any (A : Option Addr) (n c : Nat) (xs : List Nat) (w : World) (h : Digs w A n xs) (hn : n ≤ 9223372036854775807) :
    Calls Tryz.prog 72 #[.slice A n c] w fun e w' => e = .returned (.bool (isN xs)) ∧ w' = w := by
  obtain ⟨r, hr⟩ : ∃ r, isN xs = r := ⟨_, rfl⟩
  rw [hr]
  unfold isN at hr
  rw [h.1] at hr
  by_cases h1 : n ≤ 256
  · by_cases h0 : n = 0
    · subst h0
      obtain rfl : r = true := by rw [← hr]; simp
      clear hr h
      go_enter Tryz.func72, Tryz.ntmps72
      go_wp2_with fail
      go_ret
      exact ⟨rfl, rfl⟩
    · obtain ⟨b, o, rfl, hb, hc⟩ := h.2.2 (by omega)
      have x1 := hc (n - 1) (by omega)
      obtain ⟨k, hk⟩ : ∃ k, k = n - 1 := ⟨_, rfl⟩
      rw [← hk] at x1 hr
      generalize xs.getD k 0 = x at *
      have d1 : decide ((n : Int) ≤ 256) = true := by simp; omega
      have d1n : decide (n ≤ 256) = true := by simp; omega
      have d2 : ((n : Int) == 0) = false := by simp; omega
      have d2n : (n == 0) = false := by simp; omega
      have d3 : ((x : Int) != 0) = r := by
        rw [← hr]
        by_cases hx : x = 0
        · rw [decide_eq_false (by omega), hx]; rfl
        · rw [decide_eq_true ⟨h1, .inr hx⟩]
          simp
          omega
      have e1 : (n : Int) - 1 = (k : Int) := by omega
      have e2 : (k : Int) < (n : Int) := by omega
      have e3 : (0 : Int) ≤ (k : Int) := by omega
      clear hk h1 h0
      clear hr h hc
      go_enter Tryz.func72, Tryz.ntmps72
      go_wp2_with fail
      go_ret
      exact ⟨rfl, rfl⟩
  · obtain rfl : r = false := by rw [← hr]; simp; omega
    have d1 : decide ((n : Int) ≤ 256) = false := by simp; omega
    have d1n : decide (n ≤ 256) = false := by simp; omega
    clear hr h
    go_enter Tryz.func72, Tryz.ntmps72
    go_wp2_with fail
    go_ret
    exact ⟨rfl, rfl⟩
end Go.Proofs.YtojpfmlmalmlcaaGreatDoor.G
namespace Go.Proofs.YtojpfmlmalmlcaaGreatDoor.G
open Go.RowKit
/-- Behind k numbers that are alike. -/
def AlikeN (xs ys : List Nat) (k : Nat) : Prop := ∀ i, i < k → xs.getD i 0 = ys.getD i 0
theorem alikeN_all {xs ys : List Nat} (hl : xs.length = ys.length) (h : AlikeN xs ys xs.length) : xs = ys := by
  apply List.ext_getElem hl
  intro i h1 h2
  have := h i h1
  simpa [List.getD, h1, h2] using this
/-- The noughts that are left out: what is left of xs is worth as much. -/
def TrimAt (w : World) (A : Option Addr) (c : Nat) (xs : List Nat) (v : Value) (wr : World) : Prop :=
  wr = w ∧ ∃ k : Nat, k ≤ xs.length ∧ v = .slice A k c ∧ nv (xs.take k) = nv xs
def sliceLen (v : Value) : Nat := match v with | .slice _ n _ => n | _ => 0
set_option maxHeartbeats 2000000 in
theorem trimmed_any (A : Option Addr) (n c : Nat) (xs : List Nat) (w : World) (h : Digs w A n xs) (hn : n ≤ 1000000000) (hc : n ≤ c) (hcm : c ≤ 9223372036854775807) :
    Calls Tryz.prog 92 #[.slice A n c] w fun e w' => e = .returned (.slice A (dg (nv xs)).length c) ∧ Digs w A (dg (nv xs)).length (dg (nv xs)) ∧ (dg (nv xs)).length ≤ n ∧ w' = w := by
  have H := Lib.hid h
  have hl := Lib.hid h.1
  have HC := Lib.hid hc
  clear h
  go_enter Tryz.func92, Tryz.ntmps92
  go_wp2_with fail
  go_loopw [0] (fun v wr => TrimAt w A c xs v wr) (fun v _ => sliceLen v)
  case atStart => exact ⟨rfl, n, by rw [hl.out]; exact Nat.le_refl _, rfl, by rw [List.take_of_length_le (by rw [hl.out]; exact Nat.le_refl _)]⟩
  case round =>
    obtain ⟨rfl, k, hk, rfl, hv⟩ := hrel
    have hkn : k ≤ n := by rw [← hl.out]; exact hk
    have HT := Lib.hid (H.out.take hkn)
    have HV := Lib.hid hv
    clear hv hk
    by_cases h0 : k = 0
    · subst h0
      have HE : Hid (dg (nv xs) = []) := show _ = _ by rw [← HV.out]; exact dg_zero
      go_wp2_with fail
      go_ret
      rw [HE.out]
      exact ⟨rfl, Digs.none _ _, Nat.zero_le _, rfl⟩
    · obtain ⟨b, o, rfl, hb, hcell⟩ := HT.out.2.2 (by omega)
      have x1 := hcell (k - 1) (by omega)
      obtain ⟨j, hj⟩ : ∃ j, j = k - 1 := ⟨_, rfl⟩
      rw [← hj] at x1
      have d1 : decide ((0 : Int) < (k : Int)) = true := by simp; omega
      have d1n : decide (0 < k) = true := by simp; omega
      have e1 : (k : Int) - 1 = (j : Int) := by omega
      have e2 : (j : Int) < (k : Int) := by omega
      have e3 : (0 : Int) ≤ (j : Int) := by omega
      have HJ := Lib.hid hj
      have HJc : Hid (j ≤ c) := show _ ≤ _ by have := HC.out; omega
      have HK0 := Lib.hid h0
      by_cases hx : (xs.take k).getD j 0 = 0
      · have HS : Hid (nv (xs.take j) = nv xs) := show _ = _ by
          have := trim_step (xs := xs.take k) (k := j) (by rw [HT.out.1]; omega) hx
          rw [List.take_take, Nat.min_eq_left (by omega), HV.out] at this
          exact this
        have d3 : (((xs.take k).getD j 0 : Int) == 0) = true := beq0_t hx
        have f1 : (j : Int) ≤ (c : Int) := by have := HJc.out; omega
        have f2 : j ≤ c := HJc.out
        have f3 : ¬ c = 0 := by have := HC.out; omega
        generalize (xs.take k).getD j 0 = x at *
        clear hx hcell hb hj h0 hkn
        go_wp2_with fail
        go_roundw
        case rel => exact ⟨rfl, j, by have := hl.out; have := HJ.out; have := HT.out.1; rw [List.length_take] at this; omega, rfl, HS.out⟩
        case measure => simp [sliceLen]; have := HJ.out; have := HK0.out; omega
      · have HS : Hid (dg (nv xs) = xs.take k) := show _ = _ by
          rw [← HV.out]
          refine dg_nv HT.out.2.1 (.inr ?_)
          rw [HT.out.1, ← hj]
          exact hx
        have d3 : (((xs.take k).getD j 0 : Int) == 0) = false := beq0_f hx
        generalize (xs.take k).getD j 0 = x at *
        clear hx hcell hb hj h0
        go_wp2_with fail
        go_ret
        rw [HS.out, HT.out.1]
        exact ⟨rfl, HT.out, hkn, rfl⟩
set_option maxHeartbeats 1000000 in
theorem digit_any (A : Option Addr) (n c : Nat) (xs : List Nat) (i : Int) (w : World) (h : Digs w A n xs) (hn : n ≤ 1000000000) :
    Calls Tryz.prog 140 #[.slice A n c, .int .i64 i] w fun e w' => e = .returned (.int .i64 (if i < 0 then 0 else (xs.getD i.toNat 0 : Nat) : Int)) ∧ w' = w := by
  obtain ⟨r, hr⟩ : ∃ r : Int, r = (if i < 0 then 0 else (xs.getD i.toNat 0 : Nat) : Int) := ⟨_, rfl⟩
  rw [← hr]
  by_cases h0 : i < 0
  · rw [if_pos h0] at hr
    subst hr
    have d0 : decide (i < 0) = true := by simp; omega
    clear h
    go_enter Tryz.func140, Tryz.ntmps140
    go_wp2_with fail
    go_ret
    exact ⟨rfl, rfl⟩
  · rw [if_neg h0] at hr
    have d0 : decide (i < 0) = false := by simp; omega
    obtain ⟨k, rfl⟩ := Int.eq_ofNat_of_zero_le (show 0 ≤ i by omega)
    simp only [Int.ofNat_eq_natCast, Int.toNat_natCast] at hr d0 ⊢
    by_cases h1 : k < n
    · obtain ⟨b, o, rfl, hb, hc⟩ := h.2.2 (by omega)
      have x1 := hc k h1
      have d1 : decide ((n : Int) ≤ (k : Int)) = false := by simp; omega
      have d1n : decide (n ≤ k) = false := by simp; omega
      have e2 : (k : Int) < (n : Int) := by omega
      have e3 : (0 : Int) ≤ (k : Int) := by omega
      have hx := h.2.1.get k
      generalize xs.getD k 0 = x at *
      subst hr
      clear hc h h0 h1
      go_enter Tryz.func140, Tryz.ntmps140
      go_wp2_with fail
      go_ret
      exact ⟨ret_num (by first | rfl | (unfold wrap64; omega) | omega), rfl⟩
    · rw [nv_past (by rw [h.1]; omega)] at hr
      subst hr
      have d1 : decide ((n : Int) ≤ (k : Int)) = true := by simp; omega
      have d1n : decide (n ≤ k) = true := by simp; omega
      clear h h0
      go_enter Tryz.func140, Tryz.ntmps140
      go_wp2_with fail
      go_ret
      exact ⟨rfl, rfl⟩
theorem digit_nat (A : Option Addr) (n c : Nat) (xs : List Nat) (k : Nat) (w : World) (h : Digs w A n xs) (hn : n ≤ 1000000000) :
    Calls Tryz.prog 140 #[.slice A n c, .int .i64 (k : Int)] w fun e w' => e = .returned (.int .i64 ((xs.getD k 0 : Nat) : Int)) ∧ w' = w := by
  have := digit_any A n c xs (k : Int) w h hn
  rw [if_neg (by omega), Int.toNat_natCast] at this
  exact this
end Go.Proofs.YtojpfmlmalmlcaaGreatDoor.G
