/-
  What fault's number does; no condition beyond what the contract asks.
-/
import Derived.Test.YtbfneeggfaoeaaaDoorFaultA
namespace Go.Proofs.YtbfneeggfaoeaaaDoor
open Go.RowKit

theorem ret_val {k : IntKind} {a b : Int} (h : a = b) : Value.int k a = .int k b := by rw [h]
theorem at_txt (l : List UInt8) (kd : IntKind) (i : Int) (j : Nat) (hi : i = (j : Int)) (hj : j < l.length) (w : World) :
    (Instr.index 9 (.string ⟨l.toArray⟩) (.int kd i)).run Tryd.prog w = .ok (.int .u8 ((l.getD j 0).toNat : Int)) w := by
  subst hi
  rw [run_index_string w _ _ _ _ Tryd.underlying9, dif_pos ⟨by omega, by simp [ByteArray.size]; omega⟩]
  have e : (⟨l.toArray⟩ : ByteArray)[((j : Int)).toNat]'(by simp [ByteArray.size]; omega) = l.getD j 0 := by
    show l.toArray[((j : Int)).toNat]'(by simp; omega) = l.getD j 0
    simp [List.getD, hj]
  rw [e]
/-- What number answers. -/
def numR (kd : IntKind) (r : Option Nat) : Value := match r with | some k => .tuple #[.int kd (k : Int), .bool true] | none => .tuple #[.int kd 0, .bool false]
theorem num_none {kd : IntKind} {r : Option Nat} (h : r = none) : Ending.returned (.tuple #[.int kd 0, .bool false]) = .returned (numR kd r) := by rw [h]; rfl
theorem num_some {kd : IntKind} {r : Option Nat} {k : Nat} (h : r = some k) : Ending.returned (.tuple #[.int kd (k : Int), .bool true]) = .returned (numR kd r) := by rw [h]; rfl
theorem step_fits {q v d : Nat} (hq : (9223372036854775807 - d) / 10 = q) (hd : d ≤ 9) (h : ¬ q < v) : v * 10 + d ≤ 9223372036854775807 := by omega
theorem wrap_fits {x : Int} (h0 : 0 ≤ x) (h1 : x ≤ 9223372036854775807) : wrap64 x = x := by unfold wrap64; omega
theorem two_fits {v d : Nat} (h : v * 10 + d ≤ 9223372036854775807) : wrap64 ((v : Int) * 10) = (v : Int) * 10 ∧ wrap64 ((v : Int) * 10 + (d : Int)) = (v : Int) * 10 + (d : Int) := ⟨wrap_fits (by omega) (by omega), wrap_fits (by omega) (by omega)⟩
theorem fold_at {s : List UInt8} {v k : Nat} (h : k < s.length) : fold v (s.drop k) =
    if (s.getD k 0).toNat < 48 ∨ 57 < (s.getD k 0).toNat then none else if (top - ((s.getD k 0).toNat - 48)) / 10 < v then none else fold (v * 10 + ((s.getD k 0).toNat - 48)) (s.drop (k + 1)) := by
  have e : s.drop k = s.getD k 0 :: s.drop (k + 1) := by
    rw [List.drop_eq_getElem_cons h]
    simp [List.getD, h]
  rw [e, fold]
theorem numOf_bad {s : List UInt8} (h : s = [] ∨ (s.getD 0 0 = 48 ∧ 1 < s.length)) : numOf s = none := if_pos h
theorem numOf_good {s : List UInt8} (h : ¬ (s = [] ∨ (s.getD 0 0 = 48 ∧ 1 < s.length))) : numOf s = fold 0 s := if_neg h

set_option maxHeartbeats 2000000 in
theorem number_loop (s : List UInt8) (hs : s.length ≤ 1000000) (h0 : s ≠ []) (h1 : ¬ (s.getD 0 0 = 48 ∧ 1 < s.length)) (w : World) :
    Calls Tryd.prog 20 #[.string ⟨s.toArray⟩] w fun x w' => x = .returned (numR .i64 (numOf s)) ∧ w' = w := by
  obtain ⟨r, hr⟩ : ∃ r, r = numOf s := ⟨_, rfl⟩
  rw [← hr]
  have HR : Hid (r = fold 0 s) := show _ = _ by rw [hr, numOf_good (by rintro (h | h); exact h0 h; exact h1 h)]
  clear hr
  have hpos : 0 < s.length := List.length_pos_iff.2 h0
  have e0 : (s == []) = false := by simpa using h0
  have x0 := at_txt s .i64 0 0 rfl hpos w
  obtain ⟨N, hN⟩ : ∃ N, N = s.length := ⟨_, rfl⟩
  have HN := Lib.hid hN
  have hcase : (((s.getD 0 0).toNat : Int) == 48) = true ∧ decide (1 < (s.length : Int)) = false ∨ (((s.getD 0 0).toNat : Int) == 48) = false := by
    by_cases hc : s.getD 0 0 = 48
    · left
      have : ¬ 1 < s.length := fun h => h1 ⟨hc, h⟩
      exact ⟨by rw [hc]; rfl, by simp; omega⟩
    · right
      have h2 : (s.getD 0 0).toNat ≠ 48 := fun e => hc (UInt8.toNat_inj.1 e)
      exact beq_eq_false_iff_ne.2 (by omega)
  generalize s.getD 0 0 = c0 at x0 hcase h1
  clear h1 h0 hN
  rcases hcase with ⟨g1, g2⟩ | g1
  all_goals (
    go_enter Tryd.func20, Tryd.ntmps20
    go_wp2_with fail
    clear x0 g1 e0
    try clear g2
    go_loopw [4, 21] (fun n i wr => wr = w ∧ ∃ k v : Nat, k ≤ N ∧ v ≤ top ∧ i = .int .i64 (k : Int) ∧ n = .int .i64 (v : Int) ∧ r = fold v (s.drop k)) (fun _ i _ => N - (intOf i).toNat)
    case atStart => exact ⟨rfl, 0, 0, by omega, by unfold top; omega, rfl, rfl, HR.out⟩
    case round =>
      obtain ⟨rfl, k, v, hk, hv, rfl, rfl, hf⟩ := hrel
      have HF := Lib.hid hf
      clear hf
      unfold top at hv
      have hkb : k ≤ 1000000 := by have := HN.out; omega
      by_cases hlt : k < N
      · have d1 : decide ((k : Int) < (s.length : Int)) = true := by rw [← HN.out]; simp; omega
        have d1n : decide (k < s.length) = true := by rw [← HN.out]; simpa using hlt
        have x1 := at_txt s .i64 (k : Int) k rfl (by rw [← HN.out]; exact hlt) wr
        have HA := Lib.hid (fold_at (v := v) (s := s) (k := k) (by rw [← HN.out]; exact hlt))
        generalize s.getD k 0 = c at x1 HA
        by_cases c1 : c.toNat < 48
        · have d2 : decide ((c.toNat : Int) < 48) = true := by simp; omega
          have HE : Hid (r = none) := show _ = _ by rw [HF.out, HA.out, if_pos (.inl c1)]
          clear HA HF c1
          go_wp2_with fail
          go_ret2
          exact ⟨num_none HE.out, rfl⟩
        · have d2 : decide ((c.toNat : Int) < 48) = false := by simp; omega
          by_cases c2 : 57 < c.toNat
          · have d3 : decide (57 < (c.toNat : Int)) = true := by simp; omega
            have HE : Hid (r = none) := show _ = _ by rw [HF.out, HA.out, if_pos (.inr c2)]
            clear HA HF c1 c2
            go_wp2_with fail
            go_ret2
            exact ⟨num_none HE.out, rfl⟩
          · have d3 : decide (57 < (c.toNat : Int)) = false := by simp; omega
            obtain ⟨d, hd⟩ : ∃ d, d = c.toNat - 48 := ⟨_, rfl⟩
            have hd9 : d ≤ 9 := by omega
            have y1 : IntKind.u8.wrap ((c.toNat : Int) - 48) = (d : Int) := by rw [IntKind.wrap_u8]; omega
            obtain ⟨m, hm⟩ : ∃ m : Int, m = 9223372036854775807 - (d : Int) := ⟨_, rfl⟩
            have y0 : wrap64 (d : Int) = (d : Int) := wrap_fits (by omega) (by omega)
            have y2 : wrap64 (9223372036854775807 - (d : Int)) = m := by rw [hm]; exact wrap_fits (by omega) (by omega)
            obtain ⟨q, hq⟩ : ∃ q, (9223372036854775807 - d) / 10 = q := ⟨_, rfl⟩
            have y3 : m.tdiv 10 = (q : Int) := by
              rw [hm, Int.tdiv_eq_ediv_of_nonneg (by omega)]; omega
            rw [← hd, if_neg (by omega)] at HA
            have y4 : wrap64 (q : Int) = (q : Int) := wrap_fits (by omega) (by omega)
            have HV := Lib.hid hv
            have HD9 := Lib.hid hd9
            clear hm hv c1 c2 hd hd9
            by_cases c3 : q < v
            · have d4 : decide ((q : Int) < (v : Int)) = true := decide_eq_true (Int.ofNat_lt.2 c3)
              have d4n : decide (q < v) = true := by simpa using c3
              have HE : Hid (r = none) := show _ = _ by rw [HF.out, HA.out, if_pos (by unfold top; rw [hq]; exact c3)]
              clear HA HF c3 hq
              go_wp2_with fail
              go_ret2
              exact ⟨num_none HE.out, rfl⟩
            · have d4 : decide ((q : Int) < (v : Int)) = false := decide_eq_false (fun h => c3 (Int.ofNat_lt.1 h))
              have d4n : decide (q < v) = false := decide_eq_false c3
              have HE : Hid (r = fold (v * 10 + d) (s.drop (k + 1))) := show _ = _ by rw [HF.out, HA.out, if_neg (by unfold top; rw [hq]; exact c3)]
              have hvd := step_fits hq HD9.out c3
              have HVD := Lib.hid hvd
              obtain ⟨z5, z6⟩ := two_fits hvd
              obtain ⟨p, hp⟩ : ∃ p : Int, p = (v : Int) * 10 := ⟨_, rfl⟩
              obtain ⟨p2, hp2⟩ : ∃ p2 : Int, p2 = (v : Int) * 10 + (d : Int) := ⟨_, rfl⟩
              have y5 : wrap64 ((v : Int) * 10) = p := by rw [hp]; exact z5
              have y6 : wrap64 (p + (d : Int)) = p2 := by rw [hp, hp2]; exact z6
              have HP2 := Lib.hid hp2
              clear hp hp2 hvd z5 z6
              clear HA HF c3 hq
              go_wp2_with fail
              go_roundw
              case rel => exact ⟨trivial, k + 1, v * 10 + d, by omega, by unfold top; exact HVD.out, ret_val (by omega), ret_val (by have := HP2.out; omega), HE.out⟩
              case measure => simp [intOf]; omega
      · obtain rfl : k = N := by omega
        have d1 : decide ((k : Int) < (s.length : Int)) = false := by rw [← HN.out]; simp
        have d1n : decide (k < s.length) = false := by rw [← HN.out]; simp
        have HE : Hid (r = some v) := show _ = _ by rw [HF.out, List.drop_eq_nil_of_le (by rw [← HN.out]; omega), fold]
        clear HF
        go_wp2_with fail
        go_ret2
        exact ⟨num_some HE.out, rfl⟩)

set_option maxHeartbeats 1000000 in
theorem number_any (s : List UInt8) (hs : s.length ≤ 1000000) (w : World) :
    Calls Tryd.prog 20 #[.string ⟨s.toArray⟩] w fun x w' => x = .returned (numR .i64 (numOf s)) ∧ w' = w := by
  by_cases h0 : s = []
  · subst h0
    obtain ⟨r, hr⟩ : ∃ r, r = numOf [] := ⟨_, rfl⟩
    rw [← hr]
    have HE : Hid (r = none) := hr
    clear hr
    go_enter Tryd.func20, Tryd.ntmps20
    go_wp2_with fail
    go_ret2
    exact ⟨num_none HE.out, rfl⟩
  · by_cases h1 : s.getD 0 0 = 48 ∧ 1 < s.length
    · have HE : Hid (numOf s = none) := numOf_bad (.inr h1)
      have hpos : 0 < s.length := by omega
      have e0 : (s == []) = false := by simpa using h0
      have x0 := at_txt s .i64 0 0 rfl hpos w
      rw [h1.1] at x0
      have d2 : decide (1 < (s.length : Int)) = true := by simp; omega
      have d2n : decide (1 < s.length) = true := by simp; omega
      obtain ⟨r, hr⟩ : ∃ r, r = numOf s := ⟨_, rfl⟩
      rw [← hr] at HE ⊢
      clear hr h1 h0
      go_enter Tryd.func20, Tryd.ntmps20
      go_wp2_with fail
      go_ret2
      exact ⟨num_none HE.out, rfl⟩
    · exact number_loop s hs h0 h1 w

end Go.Proofs.YtbfneeggfaoeaaaDoor
