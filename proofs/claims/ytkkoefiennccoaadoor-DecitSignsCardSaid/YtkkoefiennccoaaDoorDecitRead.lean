/-
  What the program's cuts tell of a number's text, and its way to the decimal that is just a number: pure.
-/
import Derived.Test.YtkkoefiennccoaaDoorDecitText
import Derived.Lib.TrimByte
import Derived.Lib.Strings
namespace Go.Proofs.YtkkoefiennccoaaDoor
open Go.Lib (decDigits itoa)

/-! ### A text by its cuts -/
def allD (l : List UInt8) : Bool := l.all isD
theorem allD_iff {l : List UInt8} : allD l = true ↔ ∀ c ∈ l, isD c = true := by unfold allD; rw [List.all_eq_true]
/-- The exponent's digits, and whether a minus stands ahead. -/
def expD (u : List UInt8) : List UInt8 := if (cutE u).2.2 = true then unsign (cutE u).2.1 else [48]
def expN (u : List UInt8) : Bool := if (cutE u).2.2 = true then minus (cutE u).2.1 else false
def onesOf (u : List UInt8) : List UInt8 := (cutAt 46 (cutE u).1).1
def behindOf (u : List UInt8) : List UInt8 := (cutAt 46 (cutE u).1).2.1
def goodU (u : List UInt8) : Bool :=
  if (onesOf u = [] ∧ behindOf u = []) ∨ expD u = [] then false else allD (onesOf u) && allD (behindOf u) && allD (expD u)
def eOf (u : List UInt8) : Int := if expN u = true then -((dv 0 (expD u) : Nat) : Int) else ((dv 0 (expD u) : Nat) : Int)
def litP (u : List UInt8) : Option (List UInt8 × Int × Nat) := if goodU u = true then some (onesOf u ++ behindOf u, eOf u, (behindOf u).length) else none

theorem isD_noE {d : List UInt8} (h : ∀ c ∈ d, isD c = true) : ∀ c ∈ d, isE c = false := fun c hc => isE_of_isD (h c hc)
theorem isD_nodot {d : List UInt8} (h : ∀ c ∈ d, isD c = true) : (46 : UInt8) ∉ d := dot_notin h
theorem allD_app (a b : List UInt8) : allD (a ++ b) = (allD a && allD b) := by unfold allD; rw [List.all_append]
theorem allD_of {a : List UInt8} (h : ∀ c ∈ a, isD c = true) : allD a = true := allD_iff.2 h
theorem allD_bad {a : List UInt8} {c : UInt8} (hc : c ∈ a) (h : isD c = false) : allD a = false := by
  cases e : allD a with
  | false => rfl
  | true => rw [allD_iff.1 e c hc] at h; cases h
theorem digs_all (t : List UInt8) : digs t = if t = [] then false else allD t := by
  unfold digs allD
  cases t with
  | nil => rfl
  | cons c l => simp

/-- By what the cuts give. -/
theorem litP_parts {u f x o b : List UInt8} {h d : Bool} (h1 : cutE u = (f, x, h)) (h2 : cutAt 46 f = (o, b, d)) :
    litP u = if ((o = [] ∧ b = []) ∨ (if h = true then unsign x else [48]) = []) ∨ (allD o && allD b && allD (if h = true then unsign x else [48])) = false then none else
      some (o ++ b, (if (if h = true then minus x else false) = true then -((dv 0 (if h = true then unsign x else [48]) : Nat) : Int) else ((dv 0 (if h = true then unsign x else [48]) : Nat) : Int)), b.length) := by
  have e1 : onesOf u = o := by unfold onesOf; rw [h1]; show (cutAt 46 f).1 = o; rw [h2]
  have e2 : behindOf u = b := by unfold behindOf; rw [h1]; show (cutAt 46 f).2.1 = b; rw [h2]
  have e3 : expD u = if h = true then unsign x else [48] := by unfold expD; rw [h1]
  have e4 : expN u = if h = true then minus x else false := by unfold expN; rw [h1]
  unfold litP goodU eOf
  rw [e1, e2, e3, e4]
  generalize (if h = true then unsign x else [48]) = z
  by_cases q : (o = [] ∧ b = []) ∨ z = []
  · have e : (if (o = [] ∧ b = []) ∨ z = [] then false else allD o && allD b && allD z) = false := if_pos q
    rw [e, if_pos (Or.inl q)]
    exact if_neg (by decide)
  · have e : (if (o = [] ∧ b = []) ∨ z = [] then false else allD o && allD b && allD z) = (allD o && allD b && allD z) := if_neg q
    rw [e]
    cases r : (allD o && allD b && allD z) with
    | false =>
      rw [if_pos (Or.inr rfl)]
      exact if_neg (by decide)
    | true =>
      have g : ¬ (((o = [] ∧ b = []) ∨ z = []) ∨ true = false) := fun h => h.elim q (by decide)
      rw [if_neg g]
      exact if_pos rfl

theorem litP_end {o : List UInt8} (ho : ∀ c ∈ o, isD c = true) : litP o = if o = [] then none else some (o, 0, 0) := by
  rw [litP_parts (cutE_none (isD_noE ho)) (cutAt_none (isD_nodot ho))]
  by_cases h : o = []
  · rw [if_pos h, if_pos (.inl (.inl ⟨h, rfl⟩))]
  · rw [if_neg h, if_neg]
    · simp [dv_cons, dv_nil]
    · rintro ((⟨e, _⟩ | e) | e)
      · exact h e
      · exact absurd e (by decide)
      · rw [allD_of ho] at e; exact absurd e (by decide)
theorem litP_exp {o t : List UInt8} {c : UInt8} (ho : ∀ c ∈ o, isD c = true) (hc : isE c = true) : litP (o ++ c :: t) = if o = [] then none else (litE (c :: t)).map fun e => (o, e, 0) := by
  rw [litP_parts (cutE_of (isD_noE ho) hc) (cutAt_none (isD_nodot ho)), litE_cons, if_pos hc, digs_all]
  simp only [if_true]
  by_cases h : o = []
  · rw [if_pos h, if_pos (.inl (.inl ⟨h, trivial⟩))]
  · rw [if_neg h]
    by_cases g : unsign t = []
    · rw [if_pos g, if_pos (.inl (.inr g)), if_neg (by decide)]; rfl
    · rw [if_neg g, allD_of ho]
      cases r : allD (unsign t) with
      | false => rw [if_pos (.inr (by decide)), if_neg (by decide)]; rfl
      | true =>
        rw [if_neg, if_pos rfl, List.append_nil]
        · rfl
        · rintro ((⟨e, _⟩ | e) | e)
          · exact h e
          · exact g e
          · exact absurd e (by decide)
theorem litP_dot {o p : List UInt8} (ho : ∀ c ∈ o, isD c = true) (hp : ∀ c ∈ p, isD c = true) : litP (o ++ 46 :: p) = if o ++ p = [] then none else some (o ++ p, 0, p.length) := by
  have hE : ∀ c ∈ o ++ 46 :: p, isE c = false := fun c hc => by
    rcases List.mem_append.1 hc with h | h
    · exact isE_of_isD (ho c h)
    · rcases List.mem_cons.1 h with h | h
      · rw [h]; decide
      · exact isE_of_isD (hp c h)
  rw [litP_parts (cutE_none hE) (cutAt_of (isD_nodot ho))]
  by_cases h : o ++ p = []
  · rw [if_pos h, if_pos (.inl (.inl (List.append_eq_nil_iff.1 h)))]
  · rw [if_neg h, if_neg]
    · simp [dv_cons, dv_nil]
    · rintro ((e | e) | e)
      · exact h (List.append_eq_nil_iff.2 e)
      · exact absurd e (by decide)
      · rw [allD_of ho, allD_of hp] at e; exact absurd e (by decide)
theorem litP_dotexp {o p t : List UInt8} {c : UInt8} (ho : ∀ c ∈ o, isD c = true) (hp : ∀ c ∈ p, isD c = true) (hc : isE c = true) :
    litP (o ++ 46 :: (p ++ c :: t)) = if o ++ p = [] then none else (litE (c :: t)).map fun e => (o ++ p, e, p.length) := by
  have hE : ∀ c ∈ o ++ 46 :: p, isE c = false := fun c hc => by
    rcases List.mem_append.1 hc with h | h
    · exact isE_of_isD (ho c h)
    · rcases List.mem_cons.1 h with h | h
      · rw [h]; decide
      · exact isE_of_isD (hp c h)
  rw [show o ++ 46 :: (p ++ c :: t) = (o ++ 46 :: p) ++ c :: t by simp, litP_parts (cutE_of hE hc) (cutAt_of (isD_nodot ho)), litE_cons, if_pos hc, digs_all]
  simp only [if_true]
  by_cases h : o ++ p = []
  · rw [if_pos h, if_pos (.inl (.inl (List.append_eq_nil_iff.1 h)))]
  · rw [if_neg h]
    by_cases g : unsign t = []
    · rw [if_pos g, if_pos (.inl (.inr g)), if_neg (by decide)]; rfl
    · rw [if_neg g, allD_of ho, allD_of hp]
      cases r : allD (unsign t) with
      | false => rw [if_pos (.inr (by decide)), if_neg (by decide)]; rfl
      | true =>
        rw [if_neg, if_pos rfl]
        · rfl
        · rintro ((e | e) | e)
          · exact h (List.append_eq_nil_iff.2 e)
          · exact g e
          · exact absurd e (by decide)
/-- A byte that is neither a digit nor e, E or a point spoils a text. -/
theorem litP_bad {o t : List UInt8} {c : UInt8} (ho : ∀ c ∈ o, isD c = true) (hc : isD c = false) (he : isE c = false) (h46 : c ≠ 46) : litP (o ++ c :: t) = none := by
  have e1 := cutE_pass (c :: t) (isD_noE ho)
  rw [cutE_cons t he] at e1
  have e2 := cutAt_pass (c := 46) (c :: (cutE t).1) (isD_nodot ho)
  rw [cutAt_cons _ h46] at e2
  rw [litP_parts e1 e2, if_pos]
  refine .inr ?_
  rw [allD_app, show allD (c :: (cutAt 46 (cutE t).1).1) = false from allD_bad List.mem_cons_self hc]
  simp
theorem litP_dotbad {o p t : List UInt8} {c : UInt8} (ho : ∀ c ∈ o, isD c = true) (hp : ∀ c ∈ p, isD c = true) (hc : isD c = false) (he : isE c = false) : litP (o ++ 46 :: (p ++ c :: t)) = none := by
  have hE : ∀ c ∈ o ++ 46 :: p, isE c = false := fun c hc => by
    rcases List.mem_append.1 hc with h | h
    · exact isE_of_isD (ho c h)
    · rcases List.mem_cons.1 h with h | h
      · rw [h]; decide
      · exact isE_of_isD (hp c h)
  have e1 := cutE_pass (c :: t) hE
  rw [cutE_cons t he, List.append_assoc, List.append_assoc, List.cons_append, List.cons_append] at e1
  rw [litP_parts e1 (cutAt_of (isD_nodot ho)), if_pos]
  refine .inr ?_
  rw [allD_app, show allD (c :: (cutE t).1) = false from allD_bad List.mem_cons_self hc]
  simp

/-- The cuts tell what the runs tell. -/
theorem litP_eq (u : List UInt8) : litP u = litU u := by
  obtain ⟨d, r, e1, e2, e3, e4, e5⟩ := run_split u
  subst e1
  by_cases h46 : ∃ t, r = 46 :: t
  · obtain ⟨t, rfl⟩ := h46
    obtain ⟨p, q, f1, f2, f3, f4, f5⟩ := run_split t
    subst f1
    by_cases hne : d ++ p = []
    · have L : litU (d ++ 46 :: (p ++ q)) = none := by
        obtain ⟨a, b⟩ := take_run (r := 46 :: (p ++ q)) e2 (.inr ⟨46, _, rfl, isD_46⟩)
        have g1 : frac (46 :: (p ++ q)) = p := by
          show (if (46 : UInt8) = 46 then (p ++ q).takeWhile isD else []) = p
          rw [if_pos rfl, while_run, (take_run f2 f5).1]
        unfold litU
        rw [a, b, g1, if_pos hne]
      rw [L]
      rcases f5 with rfl | ⟨c, t, rfl, hc⟩
      · rw [List.append_nil, litP_dot e2 f2, if_pos hne]
      · cases he : isE c with
        | true => rw [litP_dotexp e2 f2 he, if_pos hne]
        | false => exact litP_dotbad e2 f2 hc he
    · rw [litU_dot e2 f2 f5 hne]
      rcases f5 with rfl | ⟨c, t, rfl, hc⟩
      · rw [List.append_nil, litP_dot e2 f2, if_neg hne]; rfl
      · cases he : isE c with
        | true => rw [litP_dotexp e2 f2 he, if_neg hne]
        | false =>
          rw [litP_dotbad e2 f2 hc he, litE_cons, he]; rfl
  · have e6 : r = [] ∨ ∃ c t, r = c :: t ∧ isD c = false ∧ c ≠ 46 := by
      rcases e5 with h | ⟨c, t, h, hc⟩
      · exact .inl h
      · exact .inr ⟨c, t, h, hc, fun e => h46 ⟨t, by rw [h, e]⟩⟩
    by_cases hne : d = []
    · subst hne
      have L : litU ([] ++ r) = none := by
        obtain ⟨a, b⟩ := take_run (r := r) e2 e5
        have g1 : frac r = [] := by
          rcases e6 with rfl | ⟨c, t, rfl, _, g⟩
          · rfl
          · exact if_neg g
        unfold litU
        rw [a, b, g1, if_pos (show ([] : List UInt8) ++ [] = [] from rfl)]
      rw [L]
      rcases e6 with rfl | ⟨c, t, rfl, hc, h4⟩
      · rw [List.append_nil, litP_end e2, if_pos rfl]
      · cases he : isE c with
        | true => rw [litP_exp e2 he, if_pos rfl]
        | false => exact litP_bad e2 hc he h4
    · rw [litU_bare e2 e6 hne]
      rcases e6 with rfl | ⟨c, t, rfl, hc, h4⟩
      · rw [List.append_nil, litP_end e2, if_neg hne]; rfl
      · cases he : isE c with
        | true => rw [litP_exp e2 he, if_neg hne]
        | false => rw [litP_bad e2 hc he h4, litE_cons, he]; rfl

/-! ### Signs -/
theorem cut_sign (s : List UInt8) : (if Lib.hasPrefix s [43] = true then (Lib.trimPrefix s [43], false) else (Lib.trimPrefix s [45], Lib.hasPrefix s [45])) = (unsign s, minus s) := by
  cases s with
  | nil => rfl
  | cons c t =>
    simp only [Lib.hasPrefix, Lib.trimPrefix, List.isPrefixOf, Bool.and_true, List.length_cons, List.length_nil, unsign, minus]
    by_cases h1 : c = 43
    · subst h1; simp
    · have e1 : ((43 : UInt8) == c) = false := by simpa using fun e => h1 e.symm
      by_cases h2 : c = 45
      · subst h2; simp
      · have e2 : ((45 : UInt8) == c) = false := by simpa using fun e => h2 e.symm
        simp [e1, e2, h1, h2]

/-! ### Digits without noughts ahead -/
theorem ds_more {v : Nat} (h : v ≠ 0) {c : UInt8} (hc : isD c = true) : ds (v * 10 + (c.toNat - 48)) = ds v ++ [c] := by
  simp only [isD, decide_eq_true_eq] at hc
  rw [ds_pos (by omega), show (v * 10 + (c.toNat - 48)) / 10 = v by omega]
  congr 2
  rw [show 48 + (v * 10 + (c.toNat - 48)) % 10 = c.toNat by omega]
  exact UInt8.toNat_inj.1 (by simp)
theorem ds_fold : ∀ (l : List UInt8) (v : Nat), v ≠ 0 → (∀ c ∈ l, isD c = true) → ds (dv v l) = ds v ++ l := by
  intro l
  induction l with
  | nil => intro v _ _; rw [dv_nil, List.append_nil]
  | cons c l ih =>
    intro v hv h
    rw [dv_cons, ih _ (by omega) (fun x hx => h x (List.mem_cons_of_mem _ hx)), ds_more hv (h c List.mem_cons_self), List.append_assoc]
    rfl
theorem trim_ds : ∀ (l : List UInt8), (∀ c ∈ l, isD c = true) → Lib.trimLeftB l 48 = ds (dv 0 l) := by
  intro l
  induction l with
  | nil => intro _; rw [dv_nil, ds_zero]; rfl
  | cons c l ih =>
    intro h
    have hc := h c List.mem_cons_self
    have hl := fun x hx => h x (List.mem_cons_of_mem c hx)
    unfold Lib.trimLeftB at ih ⊢
    rw [List.dropWhile_cons, dv_cons]
    by_cases h0 : c = 48
    · subst h0
      rw [if_pos (by decide), ih hl]
      rfl
    · rw [if_neg (by simpa using h0)]
      have hn : 0 * 10 + (c.toNat - 48) ≠ 0 := by
        simp only [isD, decide_eq_true_eq] at hc
        have : c.toNat ≠ 48 := fun e => h0 (UInt8.toNat_inj.1 e)
        omega
      rw [ds_fold l _ hn hl]
      have e : ds (0 * 10 + (c.toNat - 48)) = [c] := by
        have := hc
        simp only [isD, decide_eq_true_eq] at this
        rw [ds_pos hn, show (0 * 10 + (c.toNat - 48)) / 10 = 0 by omega, ds_zero, List.nil_append, show 48 + (0 * 10 + (c.toNat - 48)) % 10 = c.toNat by omega]
        congr 1
        exact UInt8.toNat_inj.1 (by simp)
      rw [e]; rfl

/-! ### The steps to the nearest exponent -/
theorem suffix_ds {n : Nat} (h : n ≠ 0) : Lib.hasSuffix (ds n) [48] = decide (n % 10 = 0) := by
  rw [ds_pos h, Lib.hasSuffix]
  by_cases q : n % 10 = 0
  · rw [decide_eq_true q, q]
    exact List.isSuffixOf_iff_suffix.2 ⟨ds (n / 10), rfl⟩
  · rw [decide_eq_false q]
    cases e : List.isSuffixOf [48] (ds (n / 10) ++ [UInt8.ofNat (48 + n % 10)]) with
    | false => rfl
    | true =>
      exfalso
      obtain ⟨t, ht⟩ := List.isSuffixOf_iff_suffix.1 e
      have hh := congrArg (fun l => l.getLast?) ht
      simp only [List.getLast?_append, List.getLast?_singleton, Option.some_or, Option.some.injEq] at hh
      have h2 := congrArg UInt8.toNat hh
      rw [dig_toNat (Nat.mod_lt n (by decide))] at h2
      have h3 : (48 : UInt8).toNat = 48 := rfl
      omega
theorem ds_strip {n : Nat} (h : n ≠ 0) : (ds n).take ((ds n).length - 1) = ds (n / 10) ∧ (ds n).length = (ds (n / 10)).length + 1 := by
  rw [ds_pos h]
  refine ⟨?_, by simp⟩
  rw [List.length_append, List.length_singleton, Nat.add_sub_cancel, List.take_left]
theorem ds_ten {n : Nat} (h : n ≠ 0) : ds (n * 10) = ds n ++ [48] := by
  have := ds_pow h 1
  simpa using this
theorem find_down {N : Nat} {q : Int} (h0 : N ≠ 0) (h1 : N % 10 = 0) (h2 : 34 < (ds N).length ∨ q < -6176) : find N q = find (N / 10) (q + 1) := by
  obtain ⟨M, e0, hM⟩ := tz_form N h0
  generalize tz N = t at e0
  obtain ⟨L, hL⟩ : ∃ L, (ds M).length = L := ⟨_, rfl⟩
  subst e0
  cases t with
  | zero => rw [Nat.pow_zero, Nat.mul_one] at h1; exact absurd h1 hM
  | succ t =>
    have e : M * 10 ^ (t + 1) / 10 = M * 10 ^ t := by rw [Nat.pow_succ, ← Nat.mul_assoc]; exact Nat.mul_div_cancel _ (by decide)
    rw [ds_pow (by omega), List.length_append, List.length_replicate, hL] at h2
    rw [e, find_of hM hL, find_of hM hL]
    have s1 : q + ((t + 1 : Nat) : Int) = q + 1 + (t : Nat) := by omega
    rw [s1]
    generalize hz : q + 1 + ((t : Nat) : Int) = z
    have s2 : max q (max (-6176) (z - 34 + (L : Nat))) = max (q + 1) (max (-6176) (z - 34 + (L : Nat))) := by omega
    rw [s2]
theorem find_up {N : Nat} {q : Int} (h0 : N ≠ 0) (h1 : (ds N).length < 34) (h2 : 6111 < q) : find N q = find (N * 10) (q - 1) := by
  obtain ⟨M, e0, hM⟩ := tz_form N h0
  generalize tz N = t at e0
  obtain ⟨L, hL⟩ : ∃ L, (ds M).length = L := ⟨_, rfl⟩
  subst e0
  have e : M * 10 ^ t * 10 = M * 10 ^ (t + 1) := by rw [Nat.pow_succ, ← Nat.mul_assoc]
  rw [ds_pow (by omega), List.length_append, List.length_replicate, hL] at h1
  rw [e, find_of hM hL, find_of hM hL]
  have s1 : q - 1 + ((t + 1 : Nat) : Int) = q + (t : Nat) := by omega
  rw [s1]
  generalize hz : q + ((t : Nat) : Int) = z
  have s2 : min (max q (max (-6176) (z - 34 + (L : Nat)))) (min 6111 z) = min (max (q - 1) (max (-6176) (z - 34 + (L : Nat)))) (min 6111 z) := by omega
  rw [s2]
/-- Where the first row of steps ends. -/
def Low (N : Nat) (q : Int) : Prop := ((ds N).length ≤ 34 ∧ -6176 ≤ q) ∨ (N % 10 ≠ 0 ∧ (34 < (ds N).length ∨ q < -6176))
theorem low_up {N : Nat} {q : Int} (h0 : N ≠ 0) (_h : Low N q) (h1 : (ds N).length < 34) (h2 : 6111 < q) : Low (N * 10) (q - 1) := by
  refine .inl ⟨?_, by omega⟩
  rw [ds_ten h0, List.length_append, List.length_singleton]
  omega
/-- What stands at the end of both. -/
def mend (N : Nat) (q : Int) : Option (Nat × Int) := if Joins N q then some (N, q) else none
theorem len_34 (N : Nat) : (ds N).length ≤ 34 ↔ N < 10000000000000000000000000000000000 := by
  rw [show (10000000000000000000000000000000000 : Nat) = 10 ^ 34 by decide]; exact ds_len_iff 34 N
theorem find_end {N : Nat} {q : Int} (h0 : N ≠ 0) (h : Low N q) (h2 : ¬ ((ds N).length < 34 ∧ 6111 < q)) : find N q = mend N q := by
  unfold mend
  by_cases j : Joins N q
  · rw [if_pos j, find_self j]
  rw [if_neg j]
  obtain ⟨M, e0, hM⟩ := tz_form N h0
  generalize tz N = t at e0
  obtain ⟨L, hL⟩ : ∃ L, (ds M).length = L := ⟨_, rfl⟩
  have hlen : (ds N).length = L + t := by rw [e0, ds_pow (by omega), List.length_append, List.length_replicate, hL]
  have hl := len_34 N
  unfold Low at h
  unfold Joins at j
  rw [hlen] at h h2 hl
  have ht : N % 10 ≠ 0 → t = 0 := by
    intro hn
    cases t with
    | zero => rfl
    | succ t =>
      exfalso
      rw [e0, Nat.pow_succ, ← Nat.mul_assoc] at hn
      omega
  subst e0
  rw [find_of hM hL, if_pos]
  rcases h with ⟨a, b⟩ | ⟨a, b⟩
  · have := hl.1 a
    omega
  · have := ht a
    omega

/-! ### Where the steps end -/
def near1 : Nat → Nat → Int → Nat × Int
  | 0, M, p => (M, p)
  | f + 1, M, p => if (34 < (ds M).length ∨ p < -6176) ∧ M % 10 = 0 then near1 f (M / 10) (p + 1) else (M, p)
def near2 : Nat → Nat → Int → Nat × Int
  | 0, M, p => (M, p)
  | f + 1, M, p => if (ds M).length < 34 ∧ 6111 < p then near2 f (M * 10) (p - 1) else (M, p)
theorem near1_stop {M : Nat} {p : Int} (h : ¬ ((34 < (ds M).length ∨ p < -6176) ∧ M % 10 = 0)) (f : Nat) : near1 f M p = (M, p) := by
  cases f with
  | zero => rfl
  | succ f => exact if_neg h
theorem near1_step {M : Nat} {p : Int} (h : (34 < (ds M).length ∨ p < -6176) ∧ M % 10 = 0) (f : Nat) : near1 (f + 1) M p = near1 f (M / 10) (p + 1) := if_pos h
theorem near2_stop {M : Nat} {p : Int} (h : ¬ ((ds M).length < 34 ∧ 6111 < p)) (f : Nat) : near2 f M p = (M, p) := by
  cases f with
  | zero => rfl
  | succ f => exact if_neg h
theorem near2_step {M : Nat} {p : Int} (h : (ds M).length < 34 ∧ 6111 < p) (f : Nat) : near2 (f + 1) M p = near2 f (M * 10) (p - 1) := if_pos h
theorem ds_pos_len {n : Nat} (h : n ≠ 0) : 1 ≤ (ds n).length := by
  rw [ds_pos h, List.length_append, List.length_singleton]; omega
theorem near1_spec : ∀ (f M : Nat) (p : Int), M ≠ 0 → (ds M).length ≤ f →
    (near1 f M p).1 ≠ 0 ∧ find M p = find (near1 f M p).1 (near1 f M p).2 ∧ Low (near1 f M p).1 (near1 f M p).2 ∧ (near1 f M p).2 + (ds (near1 f M p).1).length = p + (ds M).length ∧ (ds (near1 f M p).1).length ≤ (ds M).length := by
  intro f
  induction f with
  | zero => intro M p hM hl; have := ds_pos_len hM; omega
  | succ f ih =>
    intro M p hM hl
    by_cases h : (34 < (ds M).length ∨ p < -6176) ∧ M % 10 = 0
    · rw [near1_step h]
      obtain ⟨hc, hm⟩ := h
      have hM2 : M / 10 ≠ 0 := by omega
      obtain ⟨t1, t2⟩ := ds_strip hM
      obtain ⟨a, b, c, d, e⟩ := ih (M / 10) (p + 1) hM2 (by omega)
      exact ⟨a, (find_down hM hm hc).trans b, c, by omega, by omega⟩
    · rw [near1_stop h]
      refine ⟨hM, rfl, ?_, rfl, Nat.le_refl _⟩
      show Low M p
      by_cases g : (ds M).length ≤ 34 ∧ -6176 ≤ p
      · exact .inl g
      · exact .inr ⟨fun e => h ⟨by omega, e⟩, by omega⟩
theorem near2_spec : ∀ (f M : Nat) (p : Int), M ≠ 0 → 34 ≤ f + (ds M).length → Low M p →
    (near2 f M p).1 ≠ 0 ∧ find M p = mend (near2 f M p).1 (near2 f M p).2 ∧ (near2 f M p).2 + (ds (near2 f M p).1).length = p + (ds M).length ∧ (ds (near2 f M p).1).length ≤ max 34 (ds M).length := by
  intro f
  induction f with
  | zero =>
    intro M p hM hl hL
    refine ⟨hM, find_end hM hL (by omega), rfl, by show (ds M).length ≤ _; omega⟩
  | succ f ih =>
    intro M p hM hl hL
    by_cases h : (ds M).length < 34 ∧ 6111 < p
    · rw [near2_step h]
      have hlen : (ds (M * 10)).length = (ds M).length + 1 := by rw [ds_ten hM, List.length_append, List.length_singleton]
      obtain ⟨a, b, c, d⟩ := ih (M * 10) (p - 1) (by omega) (by omega) (low_up hM hL h.1 h.2)
      exact ⟨a, (find_up hM h.1 h.2).trans b, by omega, by omega⟩
    · rw [near2_stop h]
      exact ⟨hM, find_end hM hL h, rfl, by show (ds M).length ≤ _; omega⟩
/-- The digits' number and the exponent that stand at the end. -/
def nr (N : Nat) (q : Int) : Nat × Int :=
  if N = 0 then (0, min (max q (-6176)) 6111) else near2 34 (near1 (ds N).length N q).1 (near1 (ds N).length N q).2
theorem nr_spec (N : Nat) {q : Int} (hl : (ds N).length ≤ 700) (hq : -20000 ≤ q ∧ q ≤ 20000) :
    find N q = mend (nr N q).1 (nr N q).2 ∧ (dec (nr N q).1).length ≤ 700 ∧ -30000 ≤ (nr N q).2 ∧ (nr N q).2 ≤ 30000 := by
  unfold nr
  by_cases h : N = 0
  · rw [if_pos h, h, find_zero]
    refine ⟨?_, show (dec 0).length ≤ 700 by decide, ?_, ?_⟩
    · show _ = mend 0 (min (max q (-6176)) 6111)
      unfold mend
      rw [if_pos ⟨by decide, by omega, by omega⟩]
    · show -30000 ≤ min (max q (-6176)) 6111; omega
    · show min (max q (-6176)) 6111 ≤ 30000; omega
  · rw [if_neg h]
    obtain ⟨a, b, c, d, e⟩ := near1_spec (ds N).length N q h (Nat.le_refl _)
    obtain ⟨a', b', d', e'⟩ := near2_spec 34 _ _ a (by omega) c
    rw [dec_pos a']
    have := ds_pos_len h
    have := ds_pos_len a
    refine ⟨b.trans b', by omega, by omega, by omega⟩
theorem dec_inj15 {x y : Nat} (h : dec x = dec y) : x = y := by rw [← dv_dec x, h, dv_dec]
theorem parse_any_dec (M : Nat) : parseW (dec M) = if M < 340282366920938463463374607431768211456 then some M else none := by
  by_cases h : M < 340282366920938463463374607431768211456
  · rw [if_pos h]; exact (parse_dec h).1
  · rw [if_neg h]
    by_cases hl : (dec M).length ≤ 39
    · rw [parse_again _ hl]
      cases hr : rd 0 (dec M) with
      | none => rfl
      | some x =>
        have hx := rd_lt _ 0 x (by decide) hr
        show (if dec x = dec M then some x else none) = none
        rw [if_neg fun e => ?_]
        rw [dec_inj15 e] at hx
        exact h hx
    · unfold parseW
      rw [if_pos (.inr (.inl (by omega)))]

/-! ### The exponent held within bounds -/
/-- What the digits come to, whatever the bound at which the exponent is held. -/
theorem find_cap {N B C : Nat} {E E' : Int} {b : Nat} (hN : N < 10 ^ B) (hB : B ≤ 700) (hb : b ≤ 700) (hC : 10000 ≤ C) (h : E' = E ∨ ((C : Int) ≤ E ∧ E' = C) ∨ (E ≤ -(C : Int) ∧ E' = -(C : Int))) :
    find N (E' - (b : Nat)) = find N (E - (b : Nat)) := by
  rcases h with h | ⟨h1, h2⟩ | ⟨h1, h2⟩
  · rw [h]
  · exact find_high (B := B) (by omega) (by omega) hN (by omega)
  · exact find_low (B := B) hN (by omega) (by omega)
end Go.Proofs.YtkkoefiennccoaaDoor
