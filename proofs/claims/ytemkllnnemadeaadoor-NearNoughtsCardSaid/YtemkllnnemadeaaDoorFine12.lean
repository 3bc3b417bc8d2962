/-
  What Exact's digits tell, the noughts at either end left out: pure. No condition beyond what each lemma asks.
-/
import Derived.Test.YtemkllnnemadeaaDoorTimes12
namespace Go.Proofs.YtemkllnnemadeaaDoor
open Go.RowKit

theorem nd_noughts (d : List UInt8) (z : Nat) : nd (d ++ List.replicate z 48) = nd d * 10 ^ z := by
  have e : ∀ z, nd (List.replicate z (48 : UInt8)) = 0 := by
    intro z
    induction z with
    | zero => rfl
    | succ z ih => simp [List.replicate_succ, nd, ih, dv]
  rw [nd_append, e, List.length_replicate, Nat.add_zero]
theorem unit_up {m a b n : Nat} (h : b = a + 1075) (hn : n = 1074) : m * 2 ^ b = 2 * (m * 2 ^ a * uu n) := by
  have e : 2 ^ b = 2 ^ a * (2 * uu n) := by
    rw [← uu_step]
    unfold uu
    rw [← Nat.pow_add, h, hn]
  rw [e]
  clear e h hn
  generalize 2 ^ a = x
  generalize uu n = y
  grind
theorem unit_dn {m j a b z n c dd : Nat} (hj : j + c = n + 1) (hz : z + b = j + a) (h : dd * 10 ^ z = m * 5 ^ j) : 2 * (dd * 10 ^ a * uu n) = m * 2 ^ c * 10 ^ b := by
  have p := ten_pos z
  apply Nat.eq_of_mul_eq_mul_right p
  have e1 : 2 * (dd * 10 ^ a * uu n) * 10 ^ z = (dd * 10 ^ z) * 10 ^ a * (2 * uu n) := by grind
  have e2 : m * 2 ^ c * 10 ^ b * 10 ^ z = m * 2 ^ c * (10 ^ z * 10 ^ b) := by grind
  have e3 : (10 : Nat) ^ j = 2 ^ j * 5 ^ j := by rw [← Nat.mul_pow]
  have e4 : 2 ^ j * 2 ^ c = 2 * uu n := by
    rw [← uu_step]; unfold uu; rw [← Nat.pow_add, hj]
  rw [e1, e2, ← Nat.pow_add, hz, Nat.pow_add, e3, h, ← e4]
  grind

theorem fine_of {s d : List UInt8} {z T m : Nat} {e Y : Int} (hs : Dgs s) (hlast : Tl s) (hT : nd s.reverse = T) (hT0 : 0 < T) (hd : d ++ List.replicate z 48 = s.reverse) (htl : Tl d)
    (hTv : T = m * 2 ^ e.toNat * 5 ^ (-e).toNat) (he : -1075 ≤ e) (hY : Y = (s.length : Int) + if e < 0 then e else 0) : Fine d Y (m * 2 ^ (e + 1075).toNat) := by
  have hdg : Dgs s.reverse := fun x hx => hs x (by simpa using hx)
  have hdd : Dgs d := by rw [← hd] at hdg; exact hdg.left
  have hv : nd d * 10 ^ z = T := by rw [← nd_noughts, hd, hT]
  have hne : d ≠ [] := by
    intro h
    rw [h] at hv
    simp [nd] at hv
    omega
  have hlen : d.length + z = s.length := by
    have := congrArg List.length hd
    simpa using this
  refine ⟨⟨hdd, hne, ?_, htl⟩, ?_⟩
  · intro h
    apply hlast
    have h1 : s.reverse.getD 0 0 = 48 := by
      rw [← hd]
      cases d with
      | nil => exact absurd rfl hne
      | cons c l => simpa using h
    cases hs0 : s.reverse with
    | nil =>
      rw [hs0] at hd
      simp at hd
      exact absurd hd.1 hne
    | cons c l =>
      rw [hs0] at h1
      have h2 : c = 48 := by simpa using h1
      have h3 : s = l.reverse ++ [c] := by
        have := congrArg List.reverse hs0
        simpa using this
      rw [h3, h2]
      simp
  · unfold dA dB
    by_cases c : e < 0
    · rw [if_pos c] at hY
      obtain ⟨j, hj⟩ : ∃ j : Nat, e = -(j : Int) := ⟨(-e).toNat, by omega⟩
      have e1 : e.toNat = 0 := by omega
      have e2 : (-e).toNat = j := by omega
      rw [e1, e2, Nat.pow_zero, Nat.mul_one] at hTv
      exact unit_dn (z := z) (j := j) (by omega) (by omega) (by rw [hv, hTv])
    · rw [if_neg c] at hY
      have e1 : (-e).toNat = 0 := by omega
      rw [e1, Nat.pow_zero, Nat.mul_one] at hTv
      have e2 : (Y - (d.length : Int)).toNat = z := by omega
      have e3 : ((d.length : Int) - Y).toNat = 0 := by omega
      rw [e2, e3, hv, hTv, Nat.pow_zero, Nat.mul_one]
      exact (unit_up (by omega) rfl).symm

end Go.Proofs.YtemkllnnemadeaaDoor
