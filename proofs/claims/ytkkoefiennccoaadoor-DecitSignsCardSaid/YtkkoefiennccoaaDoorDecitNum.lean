/-
  What digits tell as a number, and which coefficient and exponent of a decimal is just that number: the nearest exponent; pure.
-/
import Derived.Test.YtkkoefiennccoaaDoorWideMath
import Derived.Test.YtkkoefiennccoaaDoorDeciMath
import Derived.Test.YtkkoefiennccoaaDoorWholeMath
import Derived.Test.YtkkoefiennccoaaDoorLexMath
namespace Go.Proofs.YtkkoefiennccoaaDoor
open Go.Lib (decDigits itoa)

theorem dec_digits (n : Nat) : dec n = decDigits n := by
  induction n using Nat.strongRecOn with
  | ind n ih =>
    by_cases h : n < 10
    · rw [decDigits, dif_pos h, dec_step, show n / 10 = 0 by omega, ds_zero, Nat.mod_eq_of_lt h]; rfl
    · rw [decDigits, dif_neg h, ← ih (n / 10) (by omega), dec_step, dec_pos (n := n / 10) (by omega)]

/-- The number that digits tell, from v on. -/
def dv (v : Nat) (l : List UInt8) : Nat := l.foldl (fun v c => v * 10 + (c.toNat - 48)) v
theorem dv_nil (v : Nat) : dv v [] = v := rfl
theorem dv_cons (v : Nat) (c : UInt8) (l : List UInt8) : dv v (c :: l) = dv (v * 10 + (c.toNat - 48)) l := by unfold dv; rw [List.foldl_cons]
theorem dv_append (a b : List UInt8) : ∀ v, dv v (a ++ b) = dv (dv v a) b := by
  induction a with
  | nil => intro v; rfl
  | cons c l ih => intro v; exact ih _
theorem dv_pow (l : List UInt8) : ∀ v, dv v l = v * 10 ^ l.length + dv 0 l := by
  induction l with
  | nil =>
    intro v
    rw [dv_nil, dv_nil, List.length_nil, Nat.pow_zero, Nat.mul_one, Nat.add_zero]
  | cons c l ih =>
    intro v
    rw [dv_cons, dv_cons]
    generalize c.toNat - 48 = d
    have a := ih (v * 10 + d)
    have b := ih (0 * 10 + d)
    rw [a, b, List.length_cons, Nat.pow_succ]
    generalize 10 ^ l.length = P
    generalize dv 0 l = z
    grind
theorem dv_noughts (k : Nat) : ∀ v, dv v (List.replicate k 48) = v * 10 ^ k := by
  induction k with
  | zero => intro v; simp [dv_nil]
  | succ k ih =>
    intro v
    rw [List.replicate_succ]
    rw [dv_cons, ih, Nat.pow_succ, Nat.mul_comm (10 ^ k) 10, ← Nat.mul_assoc]
    simp
theorem dv_ds (n : Nat) : dv 0 (ds n) = n := by
  induction n using Nat.strongRecOn with
  | ind n ih =>
    by_cases h : n = 0
    · subst h; rw [ds_zero]; rfl
    · rw [ds_pos h, dv_append, ih (n / 10) (by omega)]
      rw [dv_cons, dv_nil, dig_toNat (show n % 10 < 10 by omega)]
      omega
theorem dv_dec (n : Nat) : dv 0 (dec n) = n := by
  by_cases h : n = 0
  · subst h; decide
  · rw [dec_pos h]; exact dv_ds n
theorem dv_itoa {v : Nat} : dv 0 (decDigits v) = v := by rw [← dec_digits]; exact dv_dec v
theorem dv_lt (l : List UInt8) (h : ∀ c ∈ l, isD c = true) : dv 0 l < 10 ^ l.length := by
  induction l with
  | nil => simp [dv_nil]
  | cons c l ih =>
    have i := ih fun x hx => h x (List.mem_cons_of_mem _ hx)
    have hc := h c List.mem_cons_self
    simp only [isD, decide_eq_true_eq] at hc
    rw [dv_cons, dv_pow, List.length_cons, Nat.pow_succ]
    have : (0 * 10 + (c.toNat - 48)) * 10 ^ l.length ≤ 9 * 10 ^ l.length := Nat.mul_le_mul_right _ (by omega)
    omega

/-- How many digits a number has: at most k just if it is below 10^k. -/
theorem ds_len_iff (k : Nat) : ∀ n, (ds n).length ≤ k ↔ n < 10 ^ k := by
  induction k with
  | zero =>
    intro n
    refine ⟨fun h => ?_, fun h => ds_length 0 n h⟩
    have : ds n = [] := List.length_eq_zero_iff.1 (by omega)
    rw [ds_nil this]; decide
  | succ k ih =>
    intro n
    refine ⟨fun h => ?_, fun h => ds_length _ n h⟩
    by_cases h0 : n = 0
    · subst h0; exact Nat.pow_pos (by decide)
    · rw [ds_pos h0, List.length_append, List.length_singleton] at h
      have := (ih (n / 10)).1 (by omega)
      rw [Nat.pow_succ]; omega
theorem ds_pow {n : Nat} (h : n ≠ 0) (k : Nat) : ds (n * 10 ^ k) = ds n ++ List.replicate k 48 := by
  induction k with
  | zero => simp
  | succ k ih =>
    have hp : 0 < 10 ^ k := Nat.pow_pos (by decide)
    have h1 : n * 10 ^ k ≠ 0 := Nat.mul_ne_zero h (by omega)
    rw [Nat.pow_succ, ← Nat.mul_assoc, ds_pos (by omega), show n * 10 ^ k * 10 / 10 = n * 10 ^ k by omega, ih, show 48 + n * 10 ^ k * 10 % 10 = 48 by omega, List.replicate_succ', List.append_assoc]
    rfl

/-- The noughts at a number's end. -/
def tz (n : Nat) : Nat := if h : n ≠ 0 ∧ n % 10 = 0 then tz (n / 10) + 1 else 0
termination_by n
decreasing_by omega
theorem tz_of {M : Nat} (h : M % 10 ≠ 0) (t : Nat) : tz (M * 10 ^ t) = t := by
  induction t with
  | zero => rw [Nat.pow_zero, Nat.mul_one, tz, dif_neg (fun x => h x.2)]
  | succ t ih =>
    have hp : 0 < 10 ^ t := Nat.pow_pos (by decide)
    have h1 : M * 10 ^ t ≠ 0 := Nat.mul_ne_zero (by omega) (by omega)
    rw [Nat.pow_succ, ← Nat.mul_assoc, tz, dif_pos ⟨by omega, by omega⟩, show M * 10 ^ t * 10 / 10 = M * 10 ^ t by omega, ih]
theorem tz_form (n : Nat) : n ≠ 0 → ∃ M, n = M * 10 ^ tz n ∧ M % 10 ≠ 0 := by
  induction n using Nat.strongRecOn with
  | ind n ih =>
    intro h
    by_cases h0 : n % 10 = 0
    · obtain ⟨M, e, m⟩ := ih (n / 10) (by omega) (by omega)
      refine ⟨M, ?_, m⟩
      rw [tz, dif_pos ⟨h, h0⟩, Nat.pow_succ, ← Nat.mul_assoc, ← e]
      omega
    · exact ⟨n, by rw [tz, dif_neg (fun x => h0 x.2)]; simp, h0⟩

/-- The parts of a decimal that is just N times 10^q. -/
def find (N : Nat) (q : Int) : Option (Nat × Int) :=
  if N = 0 then some (0, min (max q (-6176)) 6111) else
  if min 6111 (q + (tz N : Nat)) < max (-6176) (q + (tz N : Nat) - 34 + ((ds (N / 10 ^ tz N)).length : Nat)) then none else
  some (N / 10 ^ tz N * 10 ^ (q + (tz N : Nat) - min (max q (max (-6176) (q + (tz N : Nat) - 34 + ((ds (N / 10 ^ tz N)).length : Nat)))) (min 6111 (q + (tz N : Nat)))).toNat,
    min (max q (max (-6176) (q + (tz N : Nat) - 34 + ((ds (N / 10 ^ tz N)).length : Nat)))) (min 6111 (q + (tz N : Nat))))
theorem find_zero (q : Int) : find 0 q = some (0, min (max q (-6176)) 6111) := if_pos rfl
/-- The same by the number without its noughts at the end. -/
theorem find_of {M t L : Nat} (h : M % 10 ≠ 0) (hL : (ds M).length = L) (q : Int) : find (M * 10 ^ t) q =
    if min 6111 (q + (t : Nat)) < max (-6176) (q + (t : Nat) - 34 + (L : Nat)) then none else
      some (M * 10 ^ (q + (t : Nat) - min (max q (max (-6176) (q + (t : Nat) - 34 + (L : Nat)))) (min 6111 (q + (t : Nat)))).toNat, min (max q (max (-6176) (q + (t : Nat) - 34 + (L : Nat)))) (min 6111 (q + (t : Nat)))) := by
  have hp : 0 < 10 ^ t := Nat.pow_pos (by decide)
  have h1 : M * 10 ^ t ≠ 0 := Nat.mul_ne_zero (by omega) (by omega)
  unfold find
  rw [if_neg h1, tz_of h t, Nat.mul_div_cancel _ hp, hL]

/-- What is found is a decimal, and just that number. -/
theorem find_some {N m : Nat} {q e : Int} (h : find N q = some (m, e)) : Joins m e ∧ (e ≤ q → m = N * 10 ^ (q - e).toNat) ∧ (q ≤ e → N = m * 10 ^ (e - q).toNat) := by
  by_cases h0 : N = 0
  · subst h0
    rw [find_zero] at h
    simp only [Option.some.injEq, Prod.mk.injEq] at h
    obtain ⟨rfl, rfl⟩ := h
    exact ⟨⟨by decide, by omega, by omega⟩, fun _ => by simp, fun _ => by simp⟩
  obtain ⟨M, e0, hM⟩ := tz_form N h0
  generalize tz N = t at e0
  obtain ⟨L, hL⟩ : ∃ L, (ds M).length = L := ⟨_, rfl⟩
  subst e0
  rw [find_of hM hL q] at h
  split at h
  · cases h
  rename_i hb
  simp only [Option.some.injEq, Prod.mk.injEq] at h
  obtain ⟨hm, he⟩ := h
  rw [he] at hm
  have e1 : e ≤ 6111 := by omega
  have e2 : -6176 ≤ e := by omega
  have e3 : e ≤ q + (t : Nat) := by omega
  have e4 : q + (t : Nat) - 34 + (L : Nat) ≤ e := by omega
  clear he hb
  obtain ⟨k, hk⟩ : ∃ k : Nat, q + (t : Nat) - e = k := ⟨(q + (t : Nat) - e).toNat, by omega⟩
  rw [show (q + (t : Nat) - e).toNat = k by omega] at hm
  have hlt : m < 10 ^ 34 := by
    rw [← ds_len_iff, ← hm, ds_pow (by omega), List.length_append, List.length_replicate, hL]
    omega
  refine ⟨⟨by rw [show (10000000000000000000000000000000000 : Nat) = 10 ^ 34 by decide]; exact hlt, e2, e1⟩, fun h => ?_, fun h => ?_⟩
  · rw [← hm, Nat.mul_assoc, ← Nat.pow_add, show t + (q - e).toNat = k by omega]
  · rw [← hm, Nat.mul_assoc, ← Nat.pow_add, show k + (e - q).toNat = t by omega]

/-- A number that is one as it stands is found so. -/
theorem find_self {N : Nat} {q : Int} (j : Joins N q) : find N q = some (N, q) := by
  obtain ⟨a, b, c⟩ := j
  by_cases h0 : N = 0
  · subst h0
    rw [find_zero]
    congr 2
    omega
  obtain ⟨M, e0, hM⟩ := tz_form N h0
  generalize tz N = t at e0
  obtain ⟨L, hL⟩ : ∃ L, (ds M).length = L := ⟨_, rfl⟩
  have hl : L + t ≤ 34 := by
    have := (ds_len_iff 34 N).2 (by rw [show (10 : Nat) ^ 34 = 10000000000000000000000000000000000 by decide]; exact a)
    rw [e0, ds_pow (by omega), List.length_append, List.length_replicate, hL] at this
    exact this
  subst e0
  rw [find_of hM hL q, if_neg (by omega)]
  have e : min (max q (max (-6176) (q + (t : Nat) - 34 + (L : Nat)))) (min 6111 (q + (t : Nat))) = q := by omega
  rw [e, show (q + (t : Nat) - q).toNat = t by omega]

/-- Of all decimals that are just N times 10^q the nearest by its exponent is found. -/
theorem find_best {N m : Nat} {q e : Int} (hN : N ≠ 0) (j : Joins m e) (h1 : e ≤ q → m = N * 10 ^ (q - e).toNat) (h2 : q ≤ e → N = m * 10 ^ (e - q).toNat)
    (hb : ∀ m' e', Joins m' e' → (e' ≤ q → m' = N * 10 ^ (q - e').toNat) → (q ≤ e' → N = m' * 10 ^ (e' - q).toNat) → (e - q).natAbs ≤ (e' - q).natAbs) : find N q = some (m, e) := by
  obtain ⟨M, e0, hM⟩ := tz_form N hN
  generalize tz N = t at e0
  obtain ⟨L, hL⟩ : ∃ L, (ds M).length = L := ⟨_, rfl⟩
  subst e0
  obtain ⟨a, b, c⟩ := j
  have M0 : M ≠ 0 := by omega
  have up : e ≤ q + (t : Nat) ∧ m = M * 10 ^ (q + (t : Nat) - e).toNat := by
    rcases Int.le_total e q with h | h
    · refine ⟨by omega, ?_⟩
      rw [h1 h, Nat.mul_assoc, ← Nat.pow_add, show t + (q - e).toNat = (q + (t : Nat) - e).toNat by omega]
    · have hm := h2 h
      have m0 : m ≠ 0 := fun e => hN (by rw [hm, e, Nat.zero_mul])
      obtain ⟨M', e', hM'⟩ := tz_form m m0
      generalize tz m = t' at e'
      rw [e', Nat.mul_assoc, ← Nat.pow_add] at hm
      have ht := congrArg tz hm
      rw [tz_of hM, tz_of hM'] at ht
      rw [← ht] at hm
      have hp : 0 < 10 ^ t := Nat.pow_pos (by decide)
      have hMM := Nat.eq_of_mul_eq_mul_right hp hm
      refine ⟨by omega, ?_⟩
      rw [e', hMM, show t' = (q + (t : Nat) - e).toNat by omega]
  obtain ⟨u1, u2⟩ := up
  have u3 : q + (t : Nat) - 34 + (L : Nat) ≤ e := by
    have := (ds_len_iff 34 m).2 (by rw [show (10 : Nat) ^ 34 = 10000000000000000000000000000000000 by decide]; exact a)
    rw [u2, ds_pow M0, List.length_append, List.length_replicate, hL] at this
    omega
  obtain ⟨lo, hlo⟩ : ∃ lo, lo = max (-6176) (q + (t : Nat) - 34 + (L : Nat)) := ⟨_, rfl⟩
  obtain ⟨hi, hhi⟩ : ∃ hi, hi = min 6111 (q + (t : Nat)) := ⟨_, rfl⟩
  have key : min (max q lo) hi = e := by
    obtain ⟨x, hx⟩ : ∃ x, x = min (max q lo) hi := ⟨_, rfl⟩
    rw [← hx]
    have x1 : lo ≤ x := by omega
    have x2 : x ≤ hi := by omega
    have hxj := hb (M * 10 ^ (q + (t : Nat) - x).toNat) x ⟨?_, by omega, by omega⟩ (fun h => ?_) (fun h => ?_)
    · omega
    · rw [show (10000000000000000000000000000000000 : Nat) = 10 ^ 34 by decide, ← ds_len_iff, ds_pow M0, List.length_append, List.length_replicate, hL]
      omega
    · rw [Nat.mul_assoc, ← Nat.pow_add, show t + (q - x).toNat = (q + (t : Nat) - x).toNat by omega]
    · rw [Nat.mul_assoc, ← Nat.pow_add, show (q + (t : Nat) - x).toNat + (x - q).toNat = t by omega]
  rw [find_of hM hL q, ← hlo, ← hhi, if_neg (by omega), key, ← u2]

/-- None is found just where there is none. -/
theorem find_none {N : Nat} {q : Int} (hb : ∀ m e, Joins m e → (e ≤ q → m = N * 10 ^ (q - e).toNat) → (q ≤ e → N = m * 10 ^ (e - q).toNat) → False) : find N q = none := by
  cases h : find N q with
  | none => rfl
  | some r =>
    obtain ⟨m, e⟩ := r
    obtain ⟨a, b, c⟩ := find_some h
    exact (hb m e a b c).elim

/-- A power that is far off is as any other one that is. -/
theorem find_high {N B : Nat} {q p : Int} (hq : 6150 ≤ q) (hp : 6150 ≤ p) (_hN : N < 10 ^ B) (_hB : B ≤ 6150) : find N q = find N p := by
  by_cases h0 : N = 0
  · subst h0
    rw [find_zero, find_zero]
    congr 2
    omega
  obtain ⟨M, e0, hM⟩ := tz_form N h0
  generalize tz N = t at e0
  obtain ⟨L, hL⟩ : ∃ L, (ds M).length = L := ⟨_, rfl⟩
  have hl : 1 ≤ L := by
    rcases Nat.eq_zero_or_pos L with h | h
    · rw [h] at hL
      have := ds_nil (List.length_eq_zero_iff.1 hL)
      omega
    · exact h
  subst e0
  rw [find_of hM hL, find_of hM hL, if_pos (by omega), if_pos (by omega)]
theorem find_low {N B : Nat} {q p : Int} (hN : N < 10 ^ B) (hq : q + (B : Nat) ≤ -6177) (hp : p + (B : Nat) ≤ -6177) : find N q = find N p := by
  by_cases h0 : N = 0
  · subst h0
    rw [find_zero, find_zero]
    congr 2
    omega
  obtain ⟨M, e0, hM⟩ := tz_form N h0
  generalize tz N = t at e0
  obtain ⟨L, hL⟩ : ∃ L, (ds M).length = L := ⟨_, rfl⟩
  have ht : t ≤ B := by
    have := (ds_len_iff B N).2 hN
    rw [e0, ds_pow (by omega), List.length_append, List.length_replicate] at this
    omega
  subst e0
  rw [find_of hM hL, find_of hM hL, if_pos (by omega), if_pos (by omega)]
end Go.Proofs.YtkkoefiennccoaaDoor
