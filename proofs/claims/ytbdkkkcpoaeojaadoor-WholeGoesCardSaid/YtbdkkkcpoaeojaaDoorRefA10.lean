/-
  What the document's number does, at a greatest one from 9 to 2^63; no condition beyond what the contract asks.
-/
import Derived.Test.YtbdkkkcpoaeojaaDoorWholeC
namespace Go.Proofs.YtbdkkkcpoaeojaaDoor
open Go.RowKit

def u64R : Option Nat → Value
  | some v => .tuple #[.int .u64 (v : Int), .bool true]
  | none => .tuple #[.int .u64 0, .bool false]
theorem u64R_some {r : Option Nat} {v : Nat} (h : r = some v) : Ending.returned (.tuple #[.int .u64 (v : Int), .bool true]) = .returned (u64R r) := by rw [h]; rfl
theorem u64R_none {r : Option Nat} (h : r = none) : Ending.returned (.tuple #[.int .u64 0, .bool false]) = .returned (u64R r) := by rw [h]; rfl
theorem fits_u64 {x : Int} (h0 : 0 ≤ x) (h1 : x ≤ 9223372036854775808) : IntKind.u64.wrap x = x := by rw [IntKind.wrap_u64]; omega
theorem two_fits_u64 {v d : Nat} (h : v * 10 + d ≤ 9223372036854775808) : IntKind.u64.wrap ((v : Int) * 10) = (v : Int) * 10 ∧ IntKind.u64.wrap ((v : Int) * 10 + (d : Int)) = (v : Int) * 10 + (d : Int) := ⟨fits_u64 (by omega) (by omega), fits_u64 (by omega) (by omega)⟩
theorem foldM_at {M v k : Nat} {s : List UInt8} (h : k < s.length) : foldM M v (s.drop k) = if (s.getD k 0).toNat < 48 ∨ 57 < (s.getD k 0).toNat then none else if (M - ((s.getD k 0).toNat - 48)) / 10 < v then none else foldM M (v * 10 + ((s.getD k 0).toNat - 48)) (s.drop (k + 1)) := by
  have e : s.getD k 0 = s[k] := by rw [List.getD_eq_getElem?_getD, List.getElem?_eq_getElem h]; rfl
  rw [List.drop_eq_getElem_cons h, foldM, e]
theorem step_M {M v d q : Nat} (hq : (M - d) / 10 = q) (hd : d ≤ 9) (hM : 9 ≤ M) (h : ¬ q < v) : v * 10 + d ≤ M := by omega

set_option maxHeartbeats 2000000 in
theorem refNumber_loop (M : Nat) (hM9 : 9 ≤ M) (hM : M ≤ 9223372036854775808) (s : List UInt8) (hs : s.length ≤ 20) (h0 : s ≠ []) (h1 : ¬ (s.getD 0 0 = 48 ∧ 1 < s.length)) (w : World) :
    Calls Tryd.prog 17 #[.string ⟨s.toArray⟩, .int .u64 (M : Int)] w fun x w' => x = .returned (u64R (numM M s)) ∧ w' = w := by
  obtain ⟨r, hr⟩ : ∃ r, r = numM M s := ⟨_, rfl⟩
  rw [← hr]
  have HR : Hid (r = foldM M 0 s) := show _ = _ by
    rw [hr, numM, if_neg]
    rintro (h | h | h)
    · exact h0 h
    · omega
    · exact h1 h
  clear hr
  have HM9 := Lib.hid hM9
  have HM := Lib.hid hM
  have hpos : 0 < s.length := List.length_pos_iff.2 h0
  have e0 : (s == []) = false := by simpa using h0
  have e1 : decide (20 < (s.length : Int)) = false := by simp; omega
  have e1n : decide (20 < s.length) = false := by simp; omega
  have x0 := at_txt s .i64 0 0 rfl hpos w
  obtain ⟨N, hN⟩ : ∃ N, N = s.length := ⟨_, rfl⟩
  have HN := Lib.hid hN
  have HNb : Hid (N ≤ 20) := show _ ≤ _ by rw [hN]; exact hs
  have hcase : (((s.getD 0 0).toNat : Int) == 48) = true ∧ decide (1 < (s.length : Int)) = false ∨ (((s.getD 0 0).toNat : Int) == 48) = false := by
    by_cases hc : s.getD 0 0 = 48
    · left
      have : ¬ 1 < s.length := fun h => h1 ⟨hc, h⟩
      exact ⟨by rw [hc]; rfl, by simp; omega⟩
    · right
      have h2 : (s.getD 0 0).toNat ≠ 48 := fun e => hc (UInt8.toNat_inj.1 e)
      exact beq_eq_false_iff_ne.2 (by omega)
  generalize s.getD 0 0 = c0 at x0 hcase h1
  clear h1 h0 hN hM9 hM hs
  rcases hcase with ⟨g1, g2⟩ | g1
  all_goals (
    go_enter Tryd.func17, Tryd.ntmps17
    go_wp2_with fail
    clear x0 g1 e0 e1 e1n
    try clear g2
    go_loopw [6, 7] (fun n i wr => wr = w ∧ ∃ k v : Nat, k ≤ N ∧ v ≤ M ∧ i = .int .i64 (k : Int) ∧ n = .int .u64 (v : Int) ∧ r = foldM M v (s.drop k)) (fun _ i _ => N - (intOf i).toNat)
    case atStart => exact ⟨rfl, 0, 0, by omega, by omega, rfl, rfl, HR.out⟩
    case round =>
      obtain ⟨rfl, k, v, hk, hv, rfl, rfl, hf⟩ := hrel
      have HF := Lib.hid hf
      clear hf
      have hkb : k ≤ 1000000 := by have := HNb.out; omega
      by_cases hlt : k < N
      · have d1 : decide ((k : Int) < (s.length : Int)) = true := by rw [← HN.out]; simp; omega
        have d1n : decide (k < s.length) = true := by rw [← HN.out]; simpa using hlt
        have x1 := at_txt s .i64 (k : Int) k rfl (by rw [← HN.out]; exact hlt) wr
        have HA := Lib.hid (foldM_at (M := M) (v := v) (s := s) (k := k) (by rw [← HN.out]; exact hlt))
        generalize s.getD k 0 = c at x1 HA
        by_cases c1 : c.toNat < 48
        · have d2 : decide ((c.toNat : Int) < 48) = true := by simp; omega
          have HE : Hid (r = none) := show _ = _ by rw [HF.out, HA.out, if_pos (.inl c1)]
          clear HA HF c1 hv
          go_wp2_with fail
          go_ret2
          exact ⟨u64R_none HE.out, rfl⟩
        · have d2 : decide ((c.toNat : Int) < 48) = false := by simp; omega
          by_cases c2 : 57 < c.toNat
          · have d3 : decide (57 < (c.toNat : Int)) = true := by simp; omega
            have HE : Hid (r = none) := show _ = _ by rw [HF.out, HA.out, if_pos (.inr c2)]
            clear HA HF c1 c2 hv
            go_wp2_with fail
            go_ret2
            exact ⟨u64R_none HE.out, rfl⟩
          · have d3 : decide (57 < (c.toNat : Int)) = false := by simp; omega
            obtain ⟨d, hd⟩ : ∃ d, d = c.toNat - 48 := ⟨_, rfl⟩
            have hd9 : d ≤ 9 := by omega
            have y1 : IntKind.u8.wrap ((c.toNat : Int) - 48) = (d : Int) := by rw [IntKind.wrap_u8]; omega
            have hMM9 := HM9.out
            have hMM := HM.out
            obtain ⟨m, hm⟩ : ∃ m : Int, m = (M : Int) - (d : Int) := ⟨_, rfl⟩
            have y0 : IntKind.u64.wrap (d : Int) = (d : Int) := fits_u64 (by omega) (by omega)
            have y2 : IntKind.u64.wrap ((M : Int) - (d : Int)) = m := by rw [hm]; exact fits_u64 (by omega) (by omega)
            have d9 : decide ((M : Int) < (d : Int)) = false := by simp; omega
            have d9n : decide (M < d) = false := by simp; omega
            obtain ⟨q, hq⟩ : ∃ q, (M - d) / 10 = q := ⟨_, rfl⟩
            have y3 : m / 10 = (q : Int) := by rw [hm]; omega
            have y3t : m.tdiv 10 = (q : Int) := by
              rw [hm, Int.tdiv_eq_ediv_of_nonneg (by omega)]; omega
            rw [← hd, if_neg (by omega)] at HA
            have y4 : IntKind.u64.wrap (q : Int) = (q : Int) := fits_u64 (by omega) (by omega)
            have HV := Lib.hid hv
            have HD9 := Lib.hid hd9
            clear hm hv c1 c2 hd hd9 hMM9 hMM
            by_cases c3 : q < v
            · have d4 : decide ((q : Int) < (v : Int)) = true := decide_eq_true (Int.ofNat_lt.2 c3)
              have d4n : decide (q < v) = true := by simpa using c3
              have HE : Hid (r = none) := show _ = _ by rw [HF.out, HA.out, if_pos (by rw [hq]; exact c3)]
              clear HA HF c3 hq
              go_wp2_with fail
              go_ret2
              exact ⟨u64R_none HE.out, rfl⟩
            · have d4 : decide ((q : Int) < (v : Int)) = false := decide_eq_false (fun h => c3 (Int.ofNat_lt.1 h))
              have d4n : decide (q < v) = false := decide_eq_false c3
              have HE : Hid (r = foldM M (v * 10 + d) (s.drop (k + 1))) := show _ = _ by rw [HF.out, HA.out, if_neg (by rw [hq]; exact c3)]
              have hvd := step_M hq HD9.out HM9.out c3
              have HVD := Lib.hid hvd
              obtain ⟨z5, z6⟩ := two_fits_u64 (Nat.le_trans hvd HM.out)
              obtain ⟨p, hp⟩ : ∃ p : Int, p = (v : Int) * 10 := ⟨_, rfl⟩
              obtain ⟨p2, hp2⟩ : ∃ p2 : Int, p2 = (v : Int) * 10 + (d : Int) := ⟨_, rfl⟩
              have y5 : IntKind.u64.wrap ((v : Int) * 10) = p := by rw [hp]; exact z5
              have y6 : IntKind.u64.wrap (p + (d : Int)) = p2 := by rw [hp, hp2]; exact z6
              have HP2 := Lib.hid hp2
              clear hp hp2 hvd z5 z6
              clear HA HF c3 hq
              go_wp2_with fail
              go_roundw
              case rel => exact ⟨trivial, k + 1, v * 10 + d, by omega, HVD.out, ret_val (by omega), ret_val (by have := HP2.out; omega), HE.out⟩
              case measure => simp [intOf]; omega
      · obtain rfl : k = N := by omega
        have d1 : decide ((k : Int) < (s.length : Int)) = false := by rw [← HN.out]; simp
        have d1n : decide (k < s.length) = false := by rw [← HN.out]; simp
        have HE : Hid (r = some v) := show _ = _ by rw [HF.out, List.drop_eq_nil_of_le (by rw [← HN.out]; omega), foldM]
        clear HF
        go_wp2_with fail
        go_ret2
        exact ⟨u64R_some HE.out, rfl⟩)

set_option maxHeartbeats 1000000 in
theorem refNumber_any (M : Nat) (hM9 : 9 ≤ M) (hM : M ≤ 9223372036854775808) (s : List UInt8) (w : World) (hl : s.length ≤ 1000000000) :
    Calls Tryd.prog 17 #[.string ⟨s.toArray⟩, .int .u64 (M : Int)] w fun x w' => x = .returned (u64R (numM M s)) ∧ w' = w := by
  by_cases h0 : s = []
  · subst h0
    obtain ⟨r, hr⟩ : ∃ r, r = numM M [] := ⟨_, rfl⟩
    rw [← hr]
    have HE : Hid (r = none) := hr
    clear hr hM9 hM
    go_enter Tryd.func17, Tryd.ntmps17
    go_wp2_with fail
    go_ret2
    exact ⟨u64R_none HE.out, rfl⟩
  · have hpos : 0 < s.length := List.length_pos_iff.2 h0
    have e0 : (s == []) = false := by simpa using h0
    by_cases h20 : 20 < s.length
    · have HE : Hid (numM M s = none) := show _ = _ by rw [numM, if_pos (.inr (.inl h20))]
      have e1 : decide (20 < (s.length : Int)) = true := by simp; omega
      have e1n : decide (20 < s.length) = true := by simp; omega
      obtain ⟨r, hr⟩ : ∃ r, r = numM M s := ⟨_, rfl⟩
      rw [← hr] at HE ⊢
      clear hr h0 h20 hM9 hM
      go_enter Tryd.func17, Tryd.ntmps17
      go_wp2_with fail
      go_ret2
      exact ⟨u64R_none HE.out, rfl⟩
    · by_cases h1 : s.getD 0 0 = 48 ∧ 1 < s.length
      · have HE : Hid (numM M s = none) := show _ = _ by rw [numM, if_pos (.inr (.inr h1))]
        have e1 : decide (20 < (s.length : Int)) = false := by simp; omega
        have e1n : decide (20 < s.length) = false := by simp; omega
        have x0 := at_txt s .i64 0 0 rfl hpos w
        rw [h1.1] at x0
        have d2 : decide (1 < (s.length : Int)) = true := by simp; omega
        have d2n : decide (1 < s.length) = true := by simp; omega
        obtain ⟨r, hr⟩ : ∃ r, r = numM M s := ⟨_, rfl⟩
        rw [← hr] at HE ⊢
        clear hr h1 h0 h20 hM9 hM
        go_enter Tryd.func17, Tryd.ntmps17
        go_wp2_with fail
        go_ret2
        exact ⟨u64R_none HE.out, rfl⟩
      · exact refNumber_loop M hM9 hM s (by omega) h0 h1 w

end Go.Proofs.YtbdkkkcpoaeojaaDoor
