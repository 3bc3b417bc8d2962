/-
  What decit's cutSign, allDigits and power do.
-/
import Derived.Test.YtkkoefiennccoaaDoorDecit15A
import Derived.Test.YtkkoefiennccoaaDoorOfStr
namespace Go.Proofs.YtkkoefiennccoaaDoor
set_option maxRecDepth 100000
open Go.RowKit
open Go.Lib (decDigits itoa)

set_option maxHeartbeats 1000000 in
theorem cutSign_any15 (s : List UInt8) (w : World) :
    Calls Tryd.prog 20 #[.string ⟨s.toArray⟩] w fun e w' => e = .returned (.tuple #[.string ⟨(unsign s).toArray⟩, .bool (minus s)]) ∧ w' = w := by
  have c1 := Lib.hid fun w => cutPlus_any s w
  have c2 := Lib.hid fun w => cutPrefix_any s w
  have h := cut_sign s
  cases b : Lib.hasPrefix s [43] with
  | true =>
    rw [b, if_pos rfl] at h
    obtain ⟨h1, h2⟩ := Prod.mk.inj h
    rw [b] at c1
    rw [← h1, ← h2]
    generalize Lib.trimPrefix s [43] = t at *
    clear h h1 h2 b
    go_enter Tryd.func20, Tryd.ntmps20
    go_wp2_with fail
    refine (c1.out _).mono ?_
    rintro e w' ⟨rfl, hw⟩; subst hw
    clear c1 c2
    go_wp2_with fail
    go_ret2
    exact ⟨rfl, rfl⟩
  | false =>
    rw [b, if_neg (by decide)] at h
    obtain ⟨h1, h2⟩ := Prod.mk.inj h
    rw [b] at c1
    rw [← h1, ← h2]
    generalize Lib.trimPrefix s [43] = t at *
    generalize Lib.trimPrefix s [45] = u at *
    generalize Lib.hasPrefix s [45] = m at *
    clear h h1 h2 b
    go_enter Tryd.func20, Tryd.ntmps20
    go_wp2_with fail
    refine (c1.out _).mono ?_
    rintro e w' ⟨rfl, hw⟩; subst hw
    clear c1
    go_wp2_with fail
    refine (c2.out _).mono ?_
    rintro e w' ⟨rfl, hw⟩; subst hw
    clear c2
    go_wp2_with fail
    go_ret2
    exact ⟨rfl, rfl⟩

theorem allD_drop {s : List UInt8} {k : Nat} (h : k < s.length) : allD (s.drop k) = (isD (s.getD k 0) && allD (s.drop (k + 1))) := by
  unfold allD
  rw [List.drop_eq_getElem_cons h, List.all_cons]
  congr 2
  simp [List.getD, h]
set_option maxHeartbeats 2000000 in
theorem allDigits_any15 (s : List UInt8) (hs : s.length ≤ 1000000000) (w : World) :
    Calls Tryd.prog 23 #[.string ⟨s.toArray⟩] w fun e w' => e = .returned (.bool (allD s)) ∧ w' = w := by
  obtain ⟨r, hr⟩ : ∃ r, r = allD s := ⟨_, rfl⟩
  rw [← hr]
  have HR : Hid (r = allD (s.drop 0)) := hr
  clear hr
  obtain ⟨N, hN⟩ : ∃ N, N = s.length := ⟨_, rfl⟩
  have HN := Lib.hid hN
  have HNb : Hid (N ≤ 1000000000) := show _ ≤ _ by rw [hN]; exact hs
  clear hN hs
  go_enter Tryd.func23, Tryd.ntmps23
  go_wp2_with fail
  go_loopw [6] (fun i wr => wr = w ∧ ∃ k : Nat, k ≤ N ∧ i = .int .i64 (k : Int) ∧ r = allD (s.drop k)) (fun i _ => N - (intOf i).toNat)
  case atStart => exact ⟨rfl, 0, by omega, rfl, HR.out⟩
  case round =>
    obtain ⟨rfl, k, hk, rfl, hf⟩ := hrel
    have HF := Lib.hid hf
    have hkb : k ≤ 1000000000 := by have := HNb.out; omega
    clear hf
    by_cases hlt : k < N
    · have d1 : decide ((k : Int) < (s.length : Int)) = true := by rw [← HN.out]; simp; omega
      have d1n : decide (k < s.length) = true := by rw [← HN.out]; simpa using hlt
      have x1 := at_txt s .i64 (k : Int) k rfl (by rw [← HN.out]; exact hlt) wr
      have HA := Lib.hid (allD_drop (s := s) (k := k) (by rw [← HN.out]; exact hlt))
      generalize s.getD k 0 = c at x1 HA
      by_cases c1 : c.toNat < 48
      · have d2 : decide ((c.toNat : Int) < 48) = true := by simp; omega
        have HE : Hid (r = false) := show _ = _ by rw [HF.out, HA.out, isD_low c1]; rfl
        clear HA HF c1
        go_wp2_with fail
        go_ret
        exact ⟨by rw [HE.out]; rfl, rfl⟩
      · have d2 : decide ((c.toNat : Int) < 48) = false := by simp; omega
        by_cases c2 : 57 < c.toNat
        · have d3 : decide (57 < (c.toNat : Int)) = true := by simp; omega
          have HE : Hid (r = false) := show _ = _ by rw [HF.out, HA.out, isD_high c2]; rfl
          clear HA HF c1 c2
          go_wp2_with fail
          go_ret
          exact ⟨by rw [HE.out]; rfl, rfl⟩
        · have d3 : decide (57 < (c.toNat : Int)) = false := by simp; omega
          have HE : Hid (r = allD (s.drop (k + 1))) := show _ = _ by rw [HF.out, HA.out, isD_mid c1 c2]; rfl
          clear HA HF c1 c2
          go_wp2_with fail
          go_roundw
          case rel => exact ⟨trivial, k + 1, by omega, ret_val (by omega), HE.out⟩
          case measure => simp [intOf]; omega
    · obtain rfl : k = N := by omega
      have d1 : decide ((k : Int) < (s.length : Int)) = false := by rw [← HN.out]; simp
      have d1n : decide (k < s.length) = false := by rw [← HN.out]; simp
      have HE : Hid (r = true) := show _ = _ by rw [HF.out, List.drop_eq_nil_of_le (by rw [← HN.out]; omega)]; rfl
      clear HF
      go_wp2_with fail
      go_ret
      exact ⟨by rw [HE.out]; rfl, rfl⟩

/-! ### The exponent -/
/-- A number's parts by value. -/
def nv (n : Bool) (o b : List UInt8) (m : Bool) (z : List UInt8) : Value := .agg #[.bool n, .string ⟨o.toArray⟩, .string ⟨b.toArray⟩, .bool m, .string ⟨z.toArray⟩]
def pw (l : List UInt8) : Nat := min (dv 0 l) 10000
theorem pw_step {y : List UInt8} {k : Nat} (h : k < y.length) : pw (y.take (k + 1)) = min (10 * pw (y.take k) + ((y.getD k 0).toNat - 48)) 10000 := by
  unfold pw
  rw [show y.take (k + 1) = y.take k ++ [y.getD k 0] by rw [List.take_add_one]; simp [List.getD, h], dv_append, dv_cons, dv_nil]
  omega
set_option maxHeartbeats 2000000 in
theorem power_any15 (n : Bool) (o b : List UInt8) (m : Bool) (y : List UInt8) (w : World) (hy : ∀ c ∈ y, isD c = true) (hl : y.length ≤ 1000) :
    Calls Tryd.prog 26 #[nv n o b m y] w fun e w' => e = .returned (.int .i64 (if m = true then -((pw y : Nat) : Int) else ((pw y : Nat) : Int))) ∧ Below w.heap.size w w' := by
  unfold nv
  obtain ⟨N, hN⟩ : ∃ N, N = y.length := ⟨_, rfl⟩
  obtain ⟨P, hP⟩ : ∃ P, P = pw y := ⟨_, rfl⟩
  rw [← hP]
  have HPb : Hid (P ≤ 10000) := show _ ≤ _ by rw [hP]; unfold pw; omega
  have HP := Lib.hid hP
  have HN := Lib.hid hN; have HY := Lib.hid hy
  have HNb : Hid (N ≤ 1000) := show _ ≤ _ by rw [hN]; exact hl
  clear hP hN hl hy
  obtain ⟨V, hV⟩ : ∃ V, V = w.alloc (Obj.cells #[.bool n, .string ⟨o.toArray⟩, .string ⟨b.toArray⟩, .bool m, .string ⟨y.toArray⟩] 37) := ⟨_, rfl⟩
  have hbl : V.heap[w.heap.size]? = some (Obj.cells #[.bool n, .string ⟨o.toArray⟩, .string ⟨b.toArray⟩, .bool m, .string ⟨y.toArray⟩] 37) := by rw [hV]; exact heap_alloc_new _ _
  have hSV : V.heap.size = w.heap.size + 1 := by rw [hV]; simp only [World.alloc, Array.size_push]
  have B0 : Below w.heap.size w V := by rw [hV]; exact (Below.refl _ _).alloc (Nat.le_refl _) _
  obtain ⟨cc, w1, hcv, hrow, B1⟩ := bytes_of_str y V
  have hB1 : Below w.heap.size w w1 := B0.trans (B1.mono B0.size)
  have i3 : w1.cell? ⟨w.heap.size, 3, none⟩ = some (.bool m) := by
    rw [B1.cell (p := ⟨w.heap.size, 3, none⟩) (by show w.heap.size < V.heap.size; omega), block_cell hbl]; rfl
  rw [← HN.out] at hcv
  rw [hV] at hcv
  have hg : w.heap.size < V.heap.size := by omega
  rw [← hV] at hcv
  obtain ⟨g, hgg⟩ : ∃ g, g = V.heap.size := ⟨_, rfl⟩
  rw [← hgg] at hcv hrow
  rw [hV] at hcv
  have HROW := Lib.hid hrow; have HB1 := Lib.hid hB1
  clear hrow B1 hB1 hbl hSV B0 hg hgg hV
  go_enter Tryd.func26, Tryd.ntmps26
  go_wp2_with fail
  go_loopw [3, 10] (fun v i wr => wr = w1 ∧ ∃ k : Nat, k ≤ N ∧ i = .int .i64 (k : Int) ∧ v = .int .i64 ((pw (y.take k) : Nat) : Int)) (fun _ i _ => N - (intOf i).toNat)
  case atStart => exact ⟨rfl, 0, by omega, rfl, rfl⟩
  case round =>
    obtain ⟨rfl, k, hk, rfl, rfl⟩ := hrel
    clear hcv
    by_cases hlt : k < N
    · have d1 : decide ((k : Int) < (N : Int)) = true := by simp; omega
      have d1n : decide (k < N) = true := by simpa using hlt
      have hky : k < y.length := by rw [← HN.out]; exact hlt
      have x1 := HROW.out.cell hky
      have hs := pw_step hky
      have hc : isD (y.getD k 0) = true := HY.out _ (by
        have : y.getD k 0 = y[k] := by simp [List.getD, hky]
        rw [this]; exact List.getElem_mem hky)
      have hkb : k ≤ 1000 := by have := HNb.out; omega
      generalize y.getD k 0 = c at *
      have hpb : pw (y.take k) ≤ 10000 := by unfold pw; omega
      obtain ⟨q, hq⟩ : ∃ q, q = pw (y.take (k + 1)) := ⟨_, rfl⟩
      rw [← hq] at hs
      generalize pw (y.take k) = p at *
      simp only [isD, decide_eq_true_eq] at hc
      obtain ⟨d, hd⟩ : ∃ d, d = c.toNat - 48 := ⟨_, rfl⟩
      rw [← hd] at hs
      have hcb : d ≤ 9 := by omega
      have e1 : IntKind.u8.wrap ((c.toNat : Int) - 48) = (d : Int) := by rw [IntKind.wrap_u8]; omega
      obtain ⟨A, hA⟩ : ∃ A : Int, A = 10 * (p : Int) := ⟨_, rfl⟩
      obtain ⟨S, hS⟩ : ∃ S : Int, S = A + (d : Int) := ⟨_, rfl⟩
      have E5 : Hid (min S 10000 = (q : Int)) := show _ = _ by omega
      have HQ : Hid (q = pw (y.take (k + 1))) := hq
      have HK : Hid (k + 1 ≤ N) := hlt
      have HW : Hid (wrap64 ((k : Int) + 1) = ((k + 1 : Nat) : Int)) := show _ = _ by unfold wrap64; omega
      have e2 : wrap64 (10 * (p : Int)) = A := by unfold wrap64; omega
      have e3 : wrap64 (d : Int) = (d : Int) := by unfold wrap64; omega
      have e4 : wrap64 (A + (d : Int)) = S := by clear e1 e2 e3; unfold wrap64; omega
      have e5 := E5.out
      clear hs hq hc hcb hd hpb hkb hky hk hlt hA hS E5
      go_wp2_with fail
      go_roundw
      case rel => exact ⟨trivial, k + 1, HK.out, by rw [HW.out], by rw [← HQ.out]⟩
      case measure => rw [HW.out]; have := HK.out; simp [intOf]; omega
    · obtain rfl : k = N := by omega
      have d1 : decide ((k : Int) < (k : Int)) = false := by simp
      have d1n : decide (k < k) = false := by simp
      have ht : pw (y.take k) = P := by rw [HP.out, List.take_of_length_le (by rw [← HN.out]; omega)]
      rw [ht]
      have e1 : wrap64 (-(P : Int)) = -(P : Int) := by have := HPb.out; unfold wrap64; omega
      clear ht hk hlt
      cases m
      · go_wp2_with fail
        go_ret
        exact ⟨rfl, HB1.out⟩
      · go_wp2_with fail
        go_ret
        exact ⟨by first | rfl | (simp [e1]; done), HB1.out⟩
end Go.Proofs.YtkkoefiennccoaaDoor
