/-
  What the laws of stage 12 ask of decimals and their nearest patterns: pure. No condition beyond what each lemma asks.
  What Read and Parse of stage 12 may answer, and that this is one answer alone: pure. No condition beyond what each lemma asks.
-/
import Derived.Test.YtemkllnnemadeaaDoorParseN12
namespace Go.Proofs.YtemkllnnemadeaaDoor
open Go.RowKit
open Go.Lib (decDigits itoa)

/-- With more digits a number is no smaller. -/
theorem more_digits (d m : List UInt8) (x : Int) : dA d x * dB (d ++ m) x ≤ dA (d ++ m) x * dB d x := by
  have h : nd d * 10 ^ m.length ≤ nd (d ++ m) := by rw [nd_append]; exact Nat.le_add_right _ _
  unfold dA dB
  rw [cross (nd d) (nd d * 10 ^ m.length) m.length _ rfl (a := (x - ((d ++ m).length : Int)).toNat) (d := ((d.length : Int) - x).toNat) (by rw [List.length_append]; omega)]
  exact Nat.mul_le_mul_right _ (Nat.mul_le_mul_right _ (Nat.mul_le_mul_right _ h))
/-- With a greater power a number is no smaller. -/
theorem more_power (d : List UInt8) (x : Int) : dA d x * dB d (x + 1) ≤ dA d (x + 1) * dB d x := by
  unfold dA dB
  have e : ∀ a b : Nat, nd d * 10 ^ a * uu 1074 * 10 ^ b = nd d * uu 1074 * 10 ^ (a + b) := fun a b => by
    rw [Nat.pow_add]
    generalize uu 1074 = U
    grind
  rw [e, e]
  exact Nat.mul_le_mul_left _ (Nat.pow_le_pow_right (by decide) (by omega))
theorem rises_digits {d m : List UInt8} {x : Int} {p q : Nat} (hp : NearIs (dA d x) (dB d x) p) (hq : NearIs (dA (d ++ m) x) (dB (d ++ m) x) q) : p ≤ q :=
  near_mono (dB_pos _ _) (dB_pos _ _) (more_digits d m x) hp hq
theorem rises_power {d : List UInt8} {x : Int} {p q : Nat} (hp : NearIs (dA d x) (dB d x) p) (hq : NearIs (dA d (x + 1)) (dB d (x + 1)) q) : p ≤ q :=
  near_mono (dB_pos _ _) (dB_pos _ _) (more_power d x) hp hq

/-- Noughts behind, and noughts ahead with a greater power. -/
theorem noughts_behind {d : List UInt8} {x : Int} {p : Nat} (n : Nat) (h : NearIs (dA d x) (dB d x) p) : NearIs (dA (d ++ List.replicate n 48) x) (dB (d ++ List.replicate n 48) x) p := by
  refine near_same (dB_pos _ _) (dB_pos _ _) ?_ h
  unfold dA dB
  refine cross _ _ n _ (nd_noughts d n).symm ?_
  rw [List.length_append, List.length_replicate]
  omega
theorem noughts_ahead (d : List UInt8) (n : Nat) : ∀ x : Int, dA (List.replicate n 48 ++ d) (x + (n : Int)) = dA d x ∧ dB (List.replicate n 48 ++ d) (x + (n : Int)) = dB d x := by
  induction n with
  | zero => intro x; simp
  | succ n ih =>
    intro x
    obtain ⟨e1, e2⟩ := dA_ahead (List.replicate n 48 ++ d) (x + ((n + 1 : Nat) : Int))
    rw [List.replicate_succ, List.cons_append, e1, e2, show x + ((n + 1 : Nat) : Int) - 1 = x + (n : Int) by omega]
    exact ih x

/-! ### Whole numbers -/
theorem nd_dec (u : Nat) : nd (decDigits u) = u := by
  induction u using Nat.strongRecOn with
  | ind u ih =>
    rw [decDigits]
    split
    · rename_i h
      rw [show [UInt8.ofNat (48 + u)] = [] ++ [UInt8.ofNat (48 + u)] from rfl, nd_snoc, (dig_dv h).2.1]
      simp [nd]
    · rename_i h
      rw [nd_snoc, ih (u / 10) (by omega), (dig_dv (d := u % 10) (by omega)).2.1]
      omega
/-- The text of a whole number, as a number of JSON. -/
theorem jn_itoa (v : Int) : JN (itoa v) (decide (v < 0)) (decDigits v.natAbs) [] 0 := by
  refine ⟨[], [], ?_, dec_digs _, .inl ⟨rfl, rfl⟩, .inl ⟨rfl, rfl⟩⟩
  unfold itoa
  by_cases h : v < 0
  · simp [h]
  · rw [if_neg h, decide_eq_false h, show v.toNat = v.natAbs by omega]
    simp
theorem dA_whole (l : List UInt8) : dA l (l.length : Int) = nd l * uu 1074 ∧ dB l (l.length : Int) = 1 := by
  unfold dA dB
  rw [show ((l.length : Int) - (l.length : Int)).toNat = 0 by omega, Nat.pow_zero, Nat.mul_one]
  exact ⟨rfl, rfl⟩
/-- A pattern that was made of V has V as its number. -/
theorem join_vN {V r : Nat} (hV : V < 18446744073709551616) (h : joinP V 0 = some r) : r ≤ 9218868437227405311 ∧ vN r = V * uu 1074 := by
  by_cases c0 : V = 0
  · subst c0
    obtain rfl : 0 = r := Option.some.inj h
    exact ⟨by decide, by rw [vN_low (by decide), Nat.zero_mul]⟩
  have ho := odd_of (m := V) (by omega) hV
  unfold joinP at h
  rw [if_neg c0] at h
  generalize oOf V = o at *
  generalize tOf V = t at *
  generalize lOf V = l at *
  obtain ⟨j, hj, p0, p1, pm, pe, u0, u1, hM, -, -⟩ := join_tells ho.lo ho.hi ho.pos h
  obtain ⟨k, hk1, hk2, -⟩ := vN_split p0 p1
  refine ⟨by omega, ?_⟩
  rw [hk2, pm, ho.eq]
  have hpos := ho.pos
  have key : ∀ n, n = 1074 → o * 2 ^ j * 2 ^ k = o * 2 ^ t * uu n := by
    intro n hn
    unfold uu
    rw [Nat.mul_assoc, Nat.mul_assoc, ← Nat.pow_add, ← Nat.pow_add]
    congr 2
    omega
  exact key 1074 rfl
/-- A whole number that a double has is nearest to that double. -/
theorem whole_near {v : Int} {r p : Nat} (hv : v.natAbs < 18446744073709551616) (h : joinP v.natAbs 0 = some r)
    (hp : NearIs (dA (decDigits v.natAbs ++ []) (((decDigits v.natAbs).length : Int) + 0)) (dB (decDigits v.natAbs ++ []) (((decDigits v.natAbs).length : Int) + 0)) p) : p = r := by
  obtain ⟨h1, h2⟩ := join_vN hv h
  rw [List.append_nil, Int.add_zero] at hp
  obtain ⟨e1, e2⟩ := dA_whole (decDigits v.natAbs)
  rw [e1, e2, nd_dec] at hp
  exact near_one (by decide) hp (near_exact (by decide) h1 (by rw [h2, Nat.mul_one]))
/-- A whole number of 64 bits is below all infinities. -/
theorem whole_small {v : Int} {p : Nat} (hv : v.natAbs ≤ 9223372036854775808)
    (hp : NearIs (dA (decDigits v.natAbs ++ []) (((decDigits v.natAbs).length : Int) + 0)) (dB (decDigits v.natAbs ++ []) (((decDigits v.natAbs).length : Int) + 0)) p) : p ≠ 9218868437227405312 := by
  rw [List.append_nil, Int.add_zero] at hp
  obtain ⟨e1, e2⟩ := dA_whole (decDigits v.natAbs)
  rw [e1, e2, nd_dec] at hp
  have hj : joinP 9223372036854775808 0 = some 4890909195324358656 := by decide +kernel
  obtain ⟨h1, h2⟩ := join_vN (by decide) hj
  have hq := near_exact (A := 9223372036854775808 * uu 1074) (B := 1) (by decide) h1 (by rw [h2, Nat.mul_one])
  have hle := near_mono (by decide) (by decide) (by rw [Nat.mul_one, Nat.mul_one]; exact Nat.mul_le_mul_right _ hv) hp hq
  omega

end Go.Proofs.YtemkllnnemadeaaDoor

namespace Go.Proofs.YtemkllnnemadeaaDoor
open Go.RowKit

def RdOk (ds : List UInt8) : Prop := 1 ≤ ds.length ∧ ds.length ≤ 300 ∧ Dgs ds
def ReadAns (ds : List UInt8) (x : Int) (a : Nat) (b : Bool) : Prop :=
  (¬ RdOk ds ∧ a = 0 ∧ b = false) ∨ (RdOk ds ∧ ∃ p, NearIs (dA ds x) (dB ds x) p ∧ a = rdP p ∧ b = rdB p)
theorem read_one {ds : List UInt8} {x : Int} {a a' : Nat} {b b' : Bool} (h : ReadAns ds x a b) (k : ReadAns ds x a' b') : a = a' ∧ b = b' := by
  rcases h with ⟨h0, h1, h2⟩ | ⟨h0, p, h1, h2, h3⟩
  · rcases k with ⟨_, k1, k2⟩ | ⟨k0, _⟩
    · exact ⟨h1.trans k1.symm, h2.trans k2.symm⟩
    · exact absurd k0 h0
  · rcases k with ⟨k0, _⟩ | ⟨_, q, k1, k2, k3⟩
    · exact absurd h0 k0
    · cases near_one (dB_pos _ _) h1 k1
      exact ⟨h2.trans k2.symm, h3.trans k3.symm⟩

def ParseAns (s : List UInt8) (a : Nat) (e : Int) : Prop :=
  (lexP s = 0 ∧ a = 0 ∧ e = 3) ∨ (lexP s ≠ 0 ∧ 300 < s.length ∧ a = 0 ∧ e = 10) ∨
    (lexP s ≠ 0 ∧ s.length ≤ 300 ∧ ∃ neg ip fp E, JN s neg ip fp E ∧ ∃ p, NearIs (dA (ip ++ fp) ((ip.length : Int) + E)) (dB (ip ++ fp) ((ip.length : Int) + E)) p ∧ a = pnP neg p ∧ e = pnE p)

theorem while_split {a b : List UInt8} (ha : ∀ c ∈ a, isD c = true) (hb : b = [] ∨ ∃ c t, b = c :: t ∧ isD c = false) : (a ++ b).takeWhile isD = a ∧ (a ++ b).dropWhile isD = b := by
  induction a with
  | nil =>
    rcases hb with rfl | ⟨c, t, rfl, hc⟩
    · exact ⟨rfl, rfl⟩
    · simp [hc]
  | cons c l ih =>
    have hc := ha c List.mem_cons_self
    obtain ⟨h1, h2⟩ := ih (fun x hx => ha x (List.mem_cons_of_mem _ hx))
    simp [hc, h1, h2]
/-- A front of digits is one alone. -/
theorem front_one {a a' b b' : List UInt8} (ha : ∀ c ∈ a, isD c = true) (ha' : ∀ c ∈ a', isD c = true) (hb : b = [] ∨ ∃ c t, b = c :: t ∧ isD c = false) (hb' : b' = [] ∨ ∃ c t, b' = c :: t ∧ isD c = false) (h : a ++ b = a' ++ b') : a = a' ∧ b = b' := by
  obtain ⟨h1, h2⟩ := while_split ha hb
  obtain ⟨k1, k2⟩ := while_split ha' hb'
  rw [h] at h1 h2
  exact ⟨h1.symm.trans k1, h2.symm.trans k2⟩
theorem isE_notD {c : UInt8} (h : isE c = true) : isD c = false := by
  cases hd : isD c with
  | false => rfl
  | true => rw [isE_of_isD hd] at h; cases h

/-- Its parts are told by the text. -/
theorem jn_one {s : List UInt8} {n n' : Bool} {ip ip' fp fp' : List UInt8} {E E' : Int} (h : JN s n ip fp E) (k : JN s n' ip' fp' E') : n = n' ∧ ip = ip' ∧ fp = fp' ∧ E = E' := by
  obtain ⟨fr, ex, hs, hip, hfr, hex⟩ := h
  obtain ⟨fr', ex', ks, kip, kfr, kex⟩ := k
  have i1 := digs_iff.1 hip
  have i2 := digs_iff.1 kip
  have head : ∀ {ip r : List UInt8}, (∀ c ∈ ip, isD c = true) → ip ≠ [] → (ip ++ r).getD 0 0 ≠ 45 := by
    intro ip r hd hne
    cases ip with
    | nil => exact absurd rfl hne
    | cons c l => exact ne_minus (hd c List.mem_cons_self)
  have hn : n = n' := by
    cases n <;> cases n'
    · rfl
    · have e : (ip ++ (fr ++ ex)).getD 0 0 = 45 := by
        have h1 : ip ++ (fr ++ ex) = 45 :: (ip' ++ (fr' ++ ex')) := by rw [ks] at hs; simpa using hs.symm
        rw [h1]; rfl
      exact absurd e (head i1.1 i1.2)
    · have e : (ip' ++ (fr' ++ ex')).getD 0 0 = 45 := by
        have h1 : ip' ++ (fr' ++ ex') = 45 :: (ip ++ (fr ++ ex)) := by rw [hs] at ks; simpa using ks.symm
        rw [h1]; rfl
      exact absurd e (head i2.1 i2.2)
    · rfl
  subst hn
  have hb : ip ++ (fr ++ ex) = ip' ++ (fr' ++ ex') := by rw [ks] at hs; exact (List.append_cancel_left hs).symm
  have exs : ∀ {ex : List UInt8} {E : Int}, ((ex = [] ∧ E = 0) ∨ ∃ (c : UInt8) (pl x : List UInt8), ex = c :: (pl ++ x) ∧ isE c = true ∧ (pl = [] ∨ pl = [43] ∨ pl = [45]) ∧ digs x = true ∧ E = if pl = [45] then -(nd x : Int) else (nd x : Int)) → (ex = [] ∨ ∃ c t, ex = c :: t ∧ isD c = false) := by
    intro ex E h
    rcases h with ⟨h, _⟩ | ⟨c, pl, x, h, hc, _⟩
    · exact .inl h
    · exact .inr ⟨c, _, h, isE_notD hc⟩
  have frs : ∀ {fr fp ex : List UInt8} {E : Int}, ((fr = [] ∧ fp = []) ∨ (fr = 46 :: fp ∧ digs fp = true)) → ((ex = [] ∧ E = 0) ∨ ∃ (c : UInt8) (pl x : List UInt8), ex = c :: (pl ++ x) ∧ isE c = true ∧ (pl = [] ∨ pl = [43] ∨ pl = [45]) ∧ digs x = true ∧ E = if pl = [45] then -(nd x : Int) else (nd x : Int)) → (fr ++ ex = [] ∨ ∃ c t, fr ++ ex = c :: t ∧ isD c = false) := by
    intro fr fp ex E h k
    rcases h with ⟨h, _⟩ | ⟨h, _⟩
    · rw [h, List.nil_append]; exact exs k
    · exact .inr ⟨46, fp ++ ex, by rw [h]; rfl, isD_46⟩
  obtain ⟨e1, e2⟩ := front_one i1.1 i2.1 (frs hfr hex) (frs kfr kex) hb
  subst e1
  have e3 : fp = fp' ∧ ex = ex' := by
    rcases hfr with ⟨f1, f2⟩ | ⟨f1, f2⟩
    · rcases kfr with ⟨g1, g2⟩ | ⟨g1, g2⟩
      · rw [f1, g1] at e2
        exact ⟨f2.trans g2.symm, by simpa using e2⟩
      · exfalso
        rw [f1, g1] at e2
        rcases hex with ⟨h, _⟩ | ⟨c, pl, x, h, hc, _⟩
        · rw [h] at e2; simp at e2
        · rw [h] at e2
          have : c = 46 := by simpa using (List.cons.inj (by simpa using e2)).1
          rw [this] at hc
          exact absurd hc (by decide)
    · rcases kfr with ⟨g1, g2⟩ | ⟨g1, g2⟩
      · exfalso
        rw [f1, g1] at e2
        rcases kex with ⟨h, _⟩ | ⟨c, pl, x, h, hc, _⟩
        · rw [h] at e2; simp at e2
        · rw [h] at e2
          have : 46 = c := (List.cons.inj (by simpa using e2)).1
          rw [← this] at hc
          exact absurd hc (by decide)
      · rw [f1, g1, List.cons_append, List.cons_append] at e2
        have e4 := (List.cons.inj e2).2
        exact front_one (digs_iff.1 f2).1 (digs_iff.1 g2).1 (exs hex) (exs kex) e4
  obtain ⟨rfl, rfl⟩ := e3
  refine ⟨rfl, rfl, rfl, ?_⟩
  rcases hex with ⟨h1, h2⟩ | ⟨c, pl, x, h1, _, hpl, hx, hE⟩
  · rcases kex with ⟨k1, k2⟩ | ⟨c, pl, x, k1, _⟩
    · rw [h2, k2]
    · rw [h1] at k1; cases k1
  · rcases kex with ⟨k1, _⟩ | ⟨c', pl', x', k1, _, kpl, kx, kE⟩
    · rw [h1] at k1; cases k1
    · rw [h1] at k1
      have k2 := (List.cons.inj k1).2
      have dx := digs_iff.1 hx
      have dx' := digs_iff.1 kx
      have d43 : isD 43 = false := by decide
      have nodig : ∀ {x y : List UInt8} {c : UInt8}, (∀ z ∈ x, isD z = true) → x ≠ [] → isD c = false → x ≠ c :: y := by
        intro x y c h hne hc e
        rw [e] at h
        rw [h c List.mem_cons_self] at hc
        cases hc
      have hboth : pl = pl' ∧ x = x' := by
        rcases hpl with rfl | rfl | rfl <;> rcases kpl with rfl | rfl | rfl
        · exact ⟨rfl, by simpa using k2⟩
        · exact absurd (by simpa using k2) (nodig dx.1 dx.2 d43 (y := x'))
        · exact absurd (by simpa using k2) (nodig dx.1 dx.2 isD_45 (y := x'))
        · exact absurd (by simpa using k2.symm) (nodig dx'.1 dx'.2 d43 (y := x))
        · exact ⟨rfl, by simpa using k2⟩
        · simp at k2
        · exact absurd (by simpa using k2.symm) (nodig dx'.1 dx'.2 isD_45 (y := x))
        · simp at k2
        · exact ⟨rfl, by simpa using k2⟩
      rw [hE, kE, hboth.1, hboth.2]

theorem parse_p12 {s : List UInt8} {a a' : Nat} {e e' : Int} (h : ParseAns s a e) (k : ParseAns s a' e') : a = a' ∧ e = e' := by
  rcases h with ⟨h0, h1, h2⟩ | ⟨h0, h1, h2, h3⟩ | ⟨h0, h1, n, ip, fp, E, hj, p, hp, h2, h3⟩
  · rcases k with ⟨_, k1, k2⟩ | ⟨k0, _⟩ | ⟨k0, _⟩
    · exact ⟨h1.trans k1.symm, h2.trans k2.symm⟩
    · exact absurd h0 k0
    · exact absurd h0 k0
  · rcases k with ⟨k0, _⟩ | ⟨_, k1, k2, k3⟩ | ⟨_, k1, _⟩
    · exact absurd k0 h0
    · exact ⟨h2.trans k2.symm, h3.trans k3.symm⟩
    · omega
  · rcases k with ⟨k0, _⟩ | ⟨_, k1, _⟩ | ⟨_, _, n', ip', fp', E', kj, p', kp, k2, k3⟩
    · exact absurd k0 h0
    · omega
    · obtain ⟨rfl, rfl, rfl, rfl⟩ := jn_one hj kj
      cases near_one (dB_pos _ _) hp kp
      exact ⟨h2.trans k2.symm, h3.trans k3.symm⟩

end Go.Proofs.YtemkllnnemadeaaDoor
