/-
  Numbers of JSON, as plain mathematics: by cuts (as the program does), by runs of digits (as the document does), that both are one, and what stands behind a number; no program in it, no condition beyond what each lemma asks.
-/
import Derived.Test.YthkcaogohkgheaaDoorFaultMath
import Derived.Lib.IndexAny
namespace Go.Proofs.YthkcaogohkgheaaDoor
open Go.Lib (decDigits itoa)

def isD (c : UInt8) : Bool := decide (48 ≤ c.toNat ∧ c.toNat ≤ 57)
def isE (c : UInt8) : Bool := c == 101 || c == 69
def digs (l : List UInt8) : Bool := l.all isD && !l.isEmpty
def plain (l : List UInt8) : Bool := digs l && (l == [48] || l.getD 0 0 != 48)
def trim : List UInt8 → List UInt8
  | [] => []
  | c :: t => if c = 45 then t else c :: t
def unsign : List UInt8 → List UInt8
  | [] => []
  | c :: t => if c = 43 ∨ c = 45 then t else c :: t
def cutE : List UInt8 → List UInt8 × List UInt8 × Bool
  | [] => ([], [], false)
  | x :: l => if isE x = true then ([], l, true) else (x :: (cutE l).1, (cutE l).2.1, (cutE l).2.2)
def lexU (u : List UInt8) : Nat :=
  if plain (cutAt 46 (cutE u).1).1 = false then 0 else
  if (cutAt 46 (cutE u).1).2.2 = true ∧ digs (cutAt 46 (cutE u).1).2.1 = false then 0 else
  if (cutE u).2.2 = true ∧ digs (unsign (cutE u).2.1) = false then 0 else
  if (cutAt 46 (cutE u).1).2.2 = true ∨ (cutE u).2.2 = true then 2 else 1
def lexP (s : List UInt8) : Nat :=
  if plain (trim (cutAt 46 (cutE s).1).1) = false then 0 else
  if (cutAt 46 (cutE s).1).2.2 = true ∧ digs (cutAt 46 (cutE s).1).2.1 = false then 0 else
  if (cutE s).2.2 = true ∧ digs (unsign (cutE s).2.1) = false then 0 else
  if (cutAt 46 (cutE s).1).2.2 = true ∨ (cutE s).2.2 = true then 2 else 1

/-! ### Digits -/
theorem isD_46 : isD 46 = false := by decide
theorem isD_45 : isD 45 = false := by decide
theorem isD_101 : isD 101 = false := by decide
theorem isD_69 : isD 69 = false := by decide
theorem isE_of_isD {c : UInt8} (h : isD c = true) : isE c = false := by
  have h1 : c ≠ 101 := fun e => by rw [e, isD_101] at h; cases h
  have h2 : c ≠ 69 := fun e => by rw [e, isD_69] at h; cases h
  simp [isE, h1, h2]
theorem ne_dot {c : UInt8} (h : isD c = true) : c ≠ 46 := fun e => by rw [e, isD_46] at h; cases h
theorem ne_minus {c : UInt8} (h : isD c = true) : c ≠ 45 := fun e => by rw [e, isD_45] at h; cases h
theorem digs_iff {l : List UInt8} : digs l = true ↔ (∀ c ∈ l, isD c = true) ∧ l ≠ [] := by
  simp [digs, List.all_eq_true]
theorem digs_nil : digs [] = false := rfl
theorem digs_false {l : List UInt8} {c : UInt8} (hc : c ∈ l) (h : isD c = false) : digs l = false := by
  cases hd : digs l with
  | false => rfl
  | true => rw [(digs_iff.1 hd).1 c hc] at h; cases h
theorem plain_digs {l : List UInt8} (h : plain l = true) : digs l = true := by
  simp only [plain, Bool.and_eq_true] at h
  exact h.1
theorem plain_of_bad {l : List UInt8} (h : digs l = false) : plain l = false := by simp [plain, h]
theorem digs_append {a b : List UInt8} (ha : ∀ c ∈ a, isD c = true) (hb : digs b = true) : digs (a ++ b) = true := by
  obtain ⟨h1, h2⟩ := digs_iff.1 hb
  refine digs_iff.2 ⟨fun c hc => ?_, by simp [h2]⟩
  rcases List.mem_append.1 hc with h | h
  · exact ha c h
  · exact h1 c h

/-! ### The first e or E -/
theorem cutE_none {u : List UInt8} (h : ∀ c ∈ u, isE c = false) : cutE u = (u, [], false) := by
  induction u with
  | nil => rfl
  | cons x l ih =>
    have hx := h x (by simp)
    simp only [cutE, hx]
    rw [ih (fun c hc => h c (by simp [hc]))]
    rfl
theorem cutE_of {a b : List UInt8} {c : UInt8} (h : ∀ x ∈ a, isE x = false) (hc : isE c = true) : cutE (a ++ c :: b) = (a, b, true) := by
  induction a with
  | nil => simp [cutE, hc]
  | cons x l ih =>
    have hx := h x (by simp)
    simp only [List.cons_append, cutE, hx]
    rw [ih (fun y hy => h y (by simp [hy]))]
    rfl
theorem cutE_front (s : List UInt8) : ∀ c ∈ (cutE s).1, isE c = false := by
  induction s with
  | nil => simp [cutE]
  | cons x l ih =>
    simp only [cutE]
    split
    · simp
    · rename_i hx
      intro c hc
      rcases List.mem_cons.1 hc with h | h
      · rw [h]; simpa using hx
      · exact ih c h
theorem cutE_hit {s : List UInt8} (h : (cutE s).2.2 = true) : ∃ c, isE c = true ∧ s = (cutE s).1 ++ c :: (cutE s).2.1 := by
  induction s with
  | nil => cases h
  | cons x l ih =>
    simp only [cutE] at h ⊢
    split
    · rename_i hx
      exact ⟨x, hx, rfl⟩
    · rename_i hx
      rw [if_neg hx] at h
      obtain ⟨c, h1, h2⟩ := ih h
      exact ⟨c, h1, by simp only [List.cons_append]; rw [← h2]⟩
theorem cutE_miss {s : List UInt8} (h : (cutE s).2.2 = false) : (cutE s).1 = s ∧ (cutE s).2.1 = [] := by
  induction s with
  | nil => exact ⟨rfl, rfl⟩
  | cons x l ih =>
    simp only [cutE] at h ⊢
    split
    · rename_i hx
      rw [if_pos hx] at h
      cases h
    · rename_i hx
      rw [if_neg hx] at h
      obtain ⟨h1, h2⟩ := ih h
      exact ⟨by rw [h1], h2⟩
theorem cutE_cons {x : UInt8} (l : List UInt8) (h : isE x = false) : cutE (x :: l) = (x :: (cutE l).1, (cutE l).2.1, (cutE l).2.2) := by
  simp [cutE, h]
theorem cutE_pass {a : List UInt8} (b : List UInt8) (h : ∀ c ∈ a, isE c = false) : cutE (a ++ b) = (a ++ (cutE b).1, (cutE b).2.1, (cutE b).2.2) := by
  induction a with
  | nil => rfl
  | cons x l ih =>
    rw [List.cons_append, cutE_cons _ (h x (by simp)), ih (fun y hy => h y (by simp [hy]))]
    rfl
theorem cutAt_pass {a : List UInt8} {c : UInt8} (b : List UInt8) (h : c ∉ a) : cutAt c (a ++ b) = (a ++ (cutAt c b).1, (cutAt c b).2.1, (cutAt c b).2.2) := by
  induction a with
  | nil => rfl
  | cons x l ih =>
    simp only [List.mem_cons, not_or] at h
    rw [List.cons_append]
    simp only [cutAt]
    rw [if_neg (fun e => h.1 e.symm), ih h.2]
    rfl
theorem cutAt_cons {x c : UInt8} (l : List UInt8) (h : x ≠ c) : cutAt c (x :: l) = (x :: (cutAt c l).1, (cutAt c l).2.1, (cutAt c l).2.2) := by
  simp [cutAt, h]
theorem dot_notin {d : List UInt8} (h : ∀ c ∈ d, isD c = true) : (46 : UInt8) ∉ d := fun hm => ne_dot (h _ hm) rfl
theorem noE {d : List UInt8} (h : ∀ c ∈ d, isD c = true) : ∀ c ∈ d, isE c = false := fun c hc => isE_of_isD (h c hc)

/-- A sign ahead is left out, and nothing else. -/
theorem lexP_trim (s : List UInt8) : lexP s = lexU (trim s) := by
  cases s with
  | nil => rfl
  | cons c t =>
    by_cases h : c = 45
    · subst h
      have e1 := cutE_cons (x := 45) t (by decide)
      have e2 := cutAt_cons (x := 45) (c := 46) (cutE t).1 (by decide)
      unfold lexP lexU
      rw [e1]
      simp only
      rw [e2]
      rfl
    · have ht : trim (c :: t) = c :: t := by simp [trim, h]
      rw [ht]
      unfold lexP lexU
      have : trim (cutAt 46 (cutE (c :: t)).1).1 = (cutAt 46 (cutE (c :: t)).1).1 := by
        by_cases he : isE c = true
        · simp [cutE, he, cutAt, trim]
        · rw [cutE_cons t (by simpa using he)]
          simp only
          by_cases hd : c = 46
          · simp [hd, cutAt, trim]
          · rw [cutAt_cons _ hd]
            simp [trim, h]
      rw [this]

/-! ### The document's: by runs of digits -/
def run (s : List UInt8) : Nat := (s.takeWhile isD).length
def lexEnd (k : Nat) (t : List UInt8) : Nat := if t = [] then k else 0
def lexExp (k : Nat) : List UInt8 → Nat
  | [] => k
  | c :: t => if isE c = true then (if run (unsign t) = 0 then 0 else lexEnd 2 ((unsign t).drop (run (unsign t)))) else 0
def lexFrac : List UInt8 → Nat
  | [] => 1
  | c :: t => if c = 46 then (if run t = 0 then 0 else lexExp 2 (t.drop (run t))) else lexExp 1 (c :: t)
def lexD (s : List UInt8) : Nat :=
  if run (trim s) = 0 ∨ ((trim s).getD 0 0 = 48 ∧ 1 < run (trim s)) then 0 else lexFrac ((trim s).drop (run (trim s)))

theorem run_split (u : List UInt8) : ∃ d r : List UInt8, u = d ++ r ∧ (∀ c ∈ d, isD c = true) ∧ run u = d.length ∧ u.drop (run u) = r ∧ (r = [] ∨ ∃ c t, r = c :: t ∧ isD c = false) := by
  induction u with
  | nil => exact ⟨[], [], rfl, by simp, rfl, rfl, .inl rfl⟩
  | cons x l ih =>
    by_cases hx : isD x = true
    · obtain ⟨d, r, h1, h2, h3, h4, h5⟩ := ih
      have hr : run (x :: l) = run l + 1 := by simp [run, hx]
      refine ⟨x :: d, r, by rw [h1]; rfl, fun c hc => ?_, by rw [hr, h3]; rfl, by rw [hr, List.drop_succ_cons, h4], h5⟩
      rcases List.mem_cons.1 hc with h | h
      · rw [h]; exact hx
      · exact h2 c h
    · have hx' : isD x = false := by simpa using hx
      have hr : run (x :: l) = 0 := by simp [run, hx']
      exact ⟨[], x :: l, rfl, by simp, by rw [hr]; rfl, by rw [hr]; rfl, .inr ⟨x, l, rfl, hx'⟩⟩
theorem run_end (k : Nat) (u : List UInt8) : (if run u = 0 then 0 else lexEnd k (u.drop (run u))) = if digs u = false then 0 else k := by
  obtain ⟨d, r, h1, h2, h3, h4, h5⟩ := run_split u
  rw [h4, h3]
  rcases h5 with rfl | ⟨c, t, rfl, hc⟩
  · rw [List.append_nil] at h1
    subst h1
    by_cases hu : u = []
    · subst hu; rfl
    · rw [if_neg (by simpa using hu), digs_iff.2 ⟨h2, hu⟩]
      rfl
  · have hd : digs u = false := digs_false (c := c) (by rw [h1]; simp) hc
    rw [hd]
    simp [lexEnd]
theorem lexExp_cons (k : Nat) {c : UInt8} (t : List UInt8) (h : isE c = true) : lexExp k (c :: t) = if digs (unsign t) = false then 0 else 2 := by
  simp only [lexExp]
  rw [if_pos h, run_end]
theorem lexExp_other (k : Nat) {c : UInt8} (t : List UInt8) (h : isE c = false) : lexExp k (c :: t) = 0 := by
  simp [lexExp, h]

/-- One run of digits, and then perhaps an exponent. -/
theorem run_exp (k : Nat) (u : List UInt8) : (if run u = 0 then 0 else lexExp k (u.drop (run u))) =
    if digs (cutE u).1 = false then 0 else if (cutE u).2.2 = true ∧ digs (unsign (cutE u).2.1) = false then 0 else if (cutE u).2.2 = true then 2 else k := by
  obtain ⟨d, r, h1, h2, h3, h4, h5⟩ := run_split u
  rw [h4, h3]
  rcases h5 with rfl | ⟨c, t, rfl, hc⟩
  · rw [List.append_nil] at h1
    subst h1
    rw [cutE_none (noE h2)]
    by_cases hu : u = []
    · subst hu; rfl
    · rw [if_neg (by simpa using hu)]
      simp only
      rw [digs_iff.2 ⟨h2, hu⟩]
      simp [lexExp]
  · by_cases he : isE c = true
    · rw [h1, cutE_of (noE h2) he, lexExp_cons k t he]
      simp only
      by_cases hd : d = []
      · subst hd; rfl
      · rw [if_neg (by simpa using hd), digs_iff.2 ⟨h2, hd⟩]
        cases digs (unsign t) <;> simp
    · have he' : isE c = false := by simpa using he
      have hd : digs (cutE u).1 = false := by
        rw [h1, cutE_pass _ (noE h2), cutE_cons t he']
        exact digs_false (c := c) (by simp) hc
      rw [lexExp_other k t he', hd]
      simp

theorem plain_head {d : List UInt8} (h : ∀ c ∈ d, isD c = true) : (d.length = 0 ∨ (d.getD 0 0 = 48 ∧ 1 < d.length)) ↔ plain d = false := by
  constructor
  · rintro (h0 | ⟨h0, h1⟩)
    · have : d = [] := List.length_eq_zero_iff.1 h0
      subst this; rfl
    · have hn : (d == [48]) = false := by
        apply beq_eq_false_iff_ne.2
        intro e
        rw [e] at h1
        simp at h1
      simp only [plain, hn, h0, Bool.false_or, bne_self_eq_false, Bool.and_false]
  · intro hp
    by_cases hd : d = []
    · left; rw [hd]; rfl
    · right
      have h1 : digs d = true := digs_iff.2 ⟨h, hd⟩
      simp only [plain, h1, Bool.true_and, Bool.or_eq_false_iff, bne_eq_false_iff_eq] at hp
      refine ⟨hp.2, ?_⟩
      have hl : 0 < d.length := List.length_pos_iff.2 hd
      apply Nat.lt_of_not_le
      intro hle
      have hl1 : d.length = 1 := by omega
      obtain ⟨x, rfl⟩ := List.length_eq_one_iff.1 hl1
      have := hp.2
      simp only [List.getD_cons_zero] at this
      rw [this] at hp
      simp at hp
theorem getD_append_left {d r : List UInt8} (h : d ≠ []) : (d ++ r).getD 0 0 = d.getD 0 0 := by
  cases d with
  | nil => exact absurd rfl h
  | cons x l => rfl

theorem lexD_eq_lexU (u : List UInt8) : (if run u = 0 ∨ (u.getD 0 0 = 48 ∧ 1 < run u) then 0 else lexFrac (u.drop (run u))) = lexU u := by
  obtain ⟨d, r, h1, h2, h3, h4, h5⟩ := run_split u
  have hp := plain_head h2
  have hcond : (run u = 0 ∨ (u.getD 0 0 = 48 ∧ 1 < run u)) ↔ plain d = false := by
    rw [← hp, h3]
    by_cases hd : d = []
    · subst hd; simp
    · rw [h1, getD_append_left hd]
  rw [h4]
  simp only [hcond]
  clear hcond hp h3 h4
  unfold lexU
  rcases h5 with rfl | ⟨c, t, rfl, hc⟩
  · rw [List.append_nil] at h1
    subst h1
    rw [cutE_none (noE h2)]
    simp only
    rw [cutAt_none (dot_notin h2)]
    cases plain u <;> simp [lexFrac]
  · by_cases hdot : c = 46
    · subst hdot
      have hx := run_exp 2 t
      rw [h1, cutE_pass _ (noE h2), cutE_cons t (by decide)]
      simp only
      rw [cutAt_of (dot_notin h2)]
      simp only [lexFrac, if_true]
      rw [hx]
      cases plain d <;> cases digs (cutE t).1 <;> cases (cutE t).2.2 <;> cases digs (unsign (cutE t).2.1) <;> simp
    · simp only [lexFrac]
      rw [if_neg hdot]
      by_cases he : isE c = true
      · rw [lexExp_cons 1 t he, h1, cutE_of (noE h2) he]
        simp only
        rw [cutAt_none (dot_notin h2)]
        cases plain d <;> cases digs (unsign t) <;> simp
      · have he' : isE c = false := by simpa using he
        rw [lexExp_other 1 t he', h1, cutE_pass _ (noE h2), cutE_cons t he']
        simp only
        rw [cutAt_pass _ (dot_notin h2), cutAt_cons _ hdot]
        simp only
        have hbad : digs (d ++ c :: (cutAt 46 (cutE t).1).1) = false := digs_false (c := c) (by simp) hc
        rw [if_pos (plain_of_bad hbad)]
        simp
theorem lexD_eq (s : List UInt8) : lexD s = lexP s := by
  rw [lexP_trim, ← lexD_eq_lexU]
  rfl

/-! ### What a number tells -/
theorem lexU_digits {d : List UInt8} (h : plain d = true) : lexU d = 1 := by
  have h2 := (digs_iff.1 (plain_digs h)).1
  unfold lexU
  rw [cutE_none (noE h2)]
  simp only
  rw [cutAt_none (dot_notin h2)]
  simp [h]
theorem dec_isD (u : Nat) : ∀ c ∈ decDigits u, isD c = true := fun c hc => by
  have := dec_bytes u c hc
  simp [isD, this]
theorem dec_digs (u : Nat) : digs (decDigits u) = true := digs_iff.2 ⟨dec_isD u, dec_ne u⟩
theorem dec_plain (u : Nat) : plain (decDigits u) = true := by
  simp only [plain, dec_digs, Bool.true_and, Bool.or_eq_true, bne_iff_ne, beq_iff_eq]
  by_cases hu : u = 0
  · left
    subst hu
    rw [decDigits, dif_pos (by omega)]
    rfl
  · exact .inr (dec_head u (by omega))
theorem trim_of {l : List UInt8} (h : ∀ c ∈ l, isD c = true) : trim l = l := by
  cases l with
  | nil => rfl
  | cons c t => simp [trim, ne_minus (h c (by simp))]
theorem lexP_itoa (v : Int) : lexP (itoa v) = 1 := by
  rw [lexP_trim]
  by_cases hv : v < 0
  · rw [show itoa v = 45 :: decDigits v.natAbs from if_pos hv]
    exact lexU_digits (dec_plain _)
  · rw [show itoa v = decDigits v.toNat from if_neg hv, trim_of (dec_isD _)]
    exact lexU_digits (dec_plain _)

/-! ### What stands behind a number, and ahead of it -/
theorem trim_append {s t : List UInt8} (h : s ≠ []) : trim (s ++ t) = trim s ++ t := by
  cases s with
  | nil => exact absurd rfl h
  | cons c l =>
    simp only [List.cons_append, trim]
    split <;> rfl
theorem lexU_one {u : List UInt8} (h : lexU u = 1) : plain u = true := by
  unfold lexU at h
  split at h
  · cases h
  · rename_i h1
    split at h
    · cases h
    · split at h
      · cases h
      · split at h
        · cases h
        · rename_i h4
          simp only [not_or, Bool.not_eq_true] at h4
          obtain ⟨e1, _⟩ := cutE_miss h4.2
          rw [e1] at h1 h4
          obtain ⟨e2, _, _⟩ := cutAt_miss h4.1
          rw [e2] at h1
          simpa using h1
/-- What a sort 2 is made of. -/
theorem lexU_two {u : List UInt8} (h : lexU u = 2) : ∃ o t : List UInt8, u = o ++ t ∧ plain o = true ∧
    ((∃ p, t = 46 :: p ∧ digs p = true) ∨ (∃ c x, t = c :: x ∧ isE c = true ∧ digs (unsign x) = true) ∨ (∃ p c x, t = 46 :: p ++ c :: x ∧ digs p = true ∧ isE c = true ∧ digs (unsign x) = true)) := by
  unfold lexU at h
  split at h
  · cases h
  · rename_i h1
    split at h
    · cases h
    · rename_i h2
      split at h
      · cases h
      · rename_i h3
        split at h
        · rename_i h4
          have hp : plain (cutAt 46 (cutE u).1).1 = true := by simpa using h1
          refine ⟨(cutAt 46 (cutE u).1).1, ?_⟩
          cases hd : (cutAt 46 (cutE u).1).2.2 with
          | true =>
            obtain ⟨e1, _⟩ := cutAt_hit hd
            have hq : digs (cutAt 46 (cutE u).1).2.1 = true := by simpa [hd] using h2
            cases he : (cutE u).2.2 with
            | true =>
              obtain ⟨c, hc, e2⟩ := cutE_hit he
              have hx : digs (unsign (cutE u).2.1) = true := by simpa [he] using h3
              exact ⟨46 :: (cutAt 46 (cutE u).1).2.1 ++ c :: (cutE u).2.1, by rw [← List.append_assoc, ← e1, ← e2], hp, .inr (.inr ⟨_, c, _, rfl, hq, hc, hx⟩)⟩
            | false =>
              obtain ⟨e2, _⟩ := cutE_miss he
              exact ⟨46 :: (cutAt 46 (cutE u).1).2.1, by rw [← e1, e2], hp, .inl ⟨_, rfl, hq⟩⟩
          | false =>
            obtain ⟨e1, _, _⟩ := cutAt_miss hd
            have he : (cutE u).2.2 = true := by simpa [hd] using h4
            obtain ⟨c, hc, e2⟩ := cutE_hit he
            have hx : digs (unsign (cutE u).2.1) = true := by simpa [he] using h3
            exact ⟨c :: (cutE u).2.1, by rw [e1, ← e2], hp, .inr (.inl ⟨c, _, rfl, hc, hx⟩)⟩
        · cases h
theorem lexU_frac {o p : List UInt8} (ho : plain o = true) (hp : ∀ c ∈ p, isE c = false) : lexU (o ++ 46 :: p) = if digs p = false then 0 else 2 := by
  have h2 := (digs_iff.1 (plain_digs ho)).1
  unfold lexU
  rw [cutE_none (u := o ++ 46 :: p) (by
    intro c hc
    rcases List.mem_append.1 hc with h | h
    · exact noE h2 c h
    · rcases List.mem_cons.1 h with h | h
      · rw [h]; decide
      · exact hp c h)]
  simp only
  rw [cutAt_of (dot_notin h2)]
  cases digs p <;> simp [ho]
theorem lexU_exp {o x : List UInt8} {c : UInt8} (ho : plain o = true) (hc : isE c = true) : lexU (o ++ c :: x) = if digs (unsign x) = false then 0 else 2 := by
  have h2 := (digs_iff.1 (plain_digs ho)).1
  unfold lexU
  rw [cutE_of (noE h2) hc]
  simp only
  rw [cutAt_none (dot_notin h2)]
  cases digs (unsign x) <;> simp [ho]
theorem lexU_both {o p x : List UInt8} {c : UInt8} (ho : plain o = true) (hp : digs p = true) (hc : isE c = true) : lexU (o ++ (46 :: p ++ c :: x)) = if digs (unsign x) = false then 0 else 2 := by
  have h2 := (digs_iff.1 (plain_digs ho)).1
  have h3 := (digs_iff.1 hp).1
  unfold lexU
  rw [← List.append_assoc, cutE_of (a := o ++ 46 :: p) (by
    intro y hy
    rcases List.mem_append.1 hy with h | h
    · exact noE h2 y h
    · rcases List.mem_cons.1 h with h | h
      · rw [h]; decide
      · exact noE h3 y h) hc]
  simp only
  rw [cutAt_of (dot_notin h2)]
  cases digs (unsign x) <;> simp [ho, hp]
theorem unsign_append {x d : List UInt8} (h : x ≠ []) : unsign (x ++ d) = unsign x ++ d := by
  cases x with
  | nil => exact absurd rfl h
  | cons c t =>
    simp only [List.cons_append, unsign]
    split <;> rfl
theorem unsign_ne {x : List UInt8} (h : digs (unsign x) = true) : x ≠ [] := fun e => by rw [e] at h; cases h
theorem digs_more {p d : List UInt8} (hp : digs p = true) (hd : digs d = true) : digs (p ++ d) = true := digs_append (digs_iff.1 hp).1 hd
/-- More digits behind one of sort 2. -/
theorem lexU_more {u d : List UInt8} (h : lexU u = 2) (hd : digs d = true) : lexU (u ++ d) = 2 := by
  obtain ⟨o, t, rfl, ho, h1⟩ := lexU_two h
  have hd1 := (digs_iff.1 hd).1
  rcases h1 with ⟨p, rfl, hp⟩ | ⟨c, x, rfl, hc, hx⟩ | ⟨p, c, x, rfl, hp, hc, hx⟩
  · rw [List.append_assoc, List.cons_append, lexU_frac ho (noE (digs_iff.1 (digs_more hp hd)).1), digs_more hp hd]
    rfl
  · rw [List.append_assoc, List.cons_append, lexU_exp ho hc, unsign_append (unsign_ne hx), digs_more hx hd]
    rfl
  · rw [List.append_assoc, List.append_assoc, List.cons_append, List.cons_append, ← List.cons_append, lexU_both ho hp hc, unsign_append (unsign_ne hx), digs_more hx hd]
    rfl
theorem digs_blank (p : List UInt8) : digs (p ++ [32]) = false := digs_false (c := 32) (by simp) (by decide)
/-- A blank behind one of sort 2. -/
theorem lexU_blank {u : List UInt8} (h : lexU u = 2) : lexU (u ++ [32]) = 0 := by
  obtain ⟨o, t, rfl, ho, h1⟩ := lexU_two h
  rcases h1 with ⟨p, rfl, hp⟩ | ⟨c, x, rfl, hc, hx⟩ | ⟨p, c, x, rfl, hp, hc, hx⟩
  · rw [List.append_assoc, List.cons_append, lexU_frac ho (by
      intro c hc
      rcases List.mem_append.1 hc with h | h
      · exact noE (digs_iff.1 hp).1 c h
      · rw [List.mem_singleton.1 h]; decide), digs_blank]
    rfl
  · rw [List.append_assoc, List.cons_append, lexU_exp ho hc, unsign_append (unsign_ne hx), digs_blank]
    rfl
  · rw [List.append_assoc, List.append_assoc, List.cons_append, List.cons_append, ← List.cons_append, lexU_both ho hp hc, unsign_append (unsign_ne hx), digs_blank]
    rfl
/-- A nought ahead of one of sort 2. -/
theorem lexU_nought {u : List UInt8} (h : lexU u = 2) : lexU (48 :: u) = 0 := by
  unfold lexU at h
  split at h
  · cases h
  · rename_i h1
    have hp : plain (cutAt 46 (cutE u).1).1 = true := by simpa using h1
    unfold lexU
    rw [cutE_cons u (by decide)]
    simp only
    rw [cutAt_cons _ (by decide)]
    simp only
    have : plain (48 :: (cutAt 46 (cutE u).1).1) = false := by
      generalize (cutAt 46 (cutE u).1).1 = o at hp
      have ho := (digs_iff.1 (plain_digs hp)).2
      have hn : ((48 :: o : List UInt8) == [48]) = false := by
        apply beq_eq_false_iff_ne.2
        intro e
        exact ho (List.cons.inj e).2
      simp [plain, hn]
    rw [if_pos this]
theorem lexP_nought {s : List UInt8} (h : lexP s = 2) : lexP (48 :: s) = 0 := by
  rw [lexP_trim] at h ⊢
  rw [show trim (48 :: s) = 48 :: s from rfl]
  cases s with
  | nil => exact absurd h (by decide)
  | cons c t =>
    by_cases hc : c = 45
    · subst hc
      unfold lexU
      rw [cutE_cons _ (by decide), cutE_cons _ (by decide)]
      simp only
      rw [cutAt_cons _ (by decide), cutAt_cons _ (by decide)]
      simp only
      rw [if_pos (plain_of_bad (digs_false (c := 45) (by simp) (by decide)))]
    · rw [show trim (c :: t) = c :: t by simp [trim, hc]] at h
      exact lexU_nought h
theorem lexP_minus {s : List UInt8} (h0 : s ≠ []) (h : s.getD 0 0 ≠ 45) : lexP (45 :: s) = lexP s := by
  rw [lexP_trim, lexP_trim]
  cases s with
  | nil => exact absurd rfl h0
  | cons c t =>
    simp only [List.getD_cons_zero] at h
    simp [trim, h]
/-- The signs that may stand ahead of an exponent's digits. -/
theorem unsign_plus {pl d : List UInt8} (hp : pl = [] ∨ pl = [43] ∨ pl = [45]) (hd : digs d = true) : unsign (pl ++ d) = d := by
  obtain ⟨h1, h2⟩ := digs_iff.1 hd
  rcases hp with rfl | rfl | rfl
  · cases d with
    | nil => rfl
    | cons c t =>
      have hc := h1 c (by simp)
      have h43 : c ≠ 43 := fun e => by rw [e] at hc; exact absurd hc (by decide)
      have h45 : c ≠ 45 := ne_minus hc
      simp [unsign, h43, h45]
  · simp [unsign]
  · simp [unsign]
theorem goes_frac {s d : List UInt8} (h0 : s ≠ []) (h : lexP s = 1) (hd : digs d = true) : lexP (s ++ 46 :: d) = 2 := by
  rw [lexP_trim] at h ⊢
  rw [trim_append h0, lexU_frac (lexU_one h) (noE (digs_iff.1 hd).1), hd]
  rfl
theorem goes_dot {s : List UInt8} (h0 : s ≠ []) (h : lexP s = 1) : lexP (s ++ [46]) = 0 := by
  rw [lexP_trim] at h ⊢
  rw [trim_append h0, lexU_frac (lexU_one h) (by simp)]
  rfl
theorem goes_exp {s d pl : List UInt8} (h0 : s ≠ []) (h : lexP s = 1) (hd : digs d = true) (hp : pl = [] ∨ pl = [43] ∨ pl = [45]) : lexP (s ++ 101 :: (pl ++ d)) = 2 := by
  rw [lexP_trim] at h ⊢
  rw [trim_append h0, lexU_exp (lexU_one h) (by decide), unsign_plus hp hd, hd]
  rfl
theorem goes_both {s d pl : List UInt8} (h0 : s ≠ []) (h : lexP s = 1) (hd : digs d = true) (hp : pl = [] ∨ pl = [43] ∨ pl = [45]) : lexP (s ++ (46 :: d ++ 69 :: (pl ++ d))) = 2 := by
  rw [lexP_trim] at h ⊢
  rw [trim_append h0, lexU_both (lexU_one h) hd (by decide), unsign_plus hp hd, hd]
  rfl
theorem goes_more {s d : List UInt8} (h0 : s ≠ []) (h : lexP s = 2) (hd : digs d = true) : lexP (s ++ d) = 2 := by
  rw [lexP_trim] at h ⊢
  rw [trim_append h0, lexU_more h hd]
theorem goes_blank {s : List UInt8} (h0 : s ≠ []) (h : lexP s = 2) : lexP (s ++ [32]) = 0 := by
  rw [lexP_trim] at h ⊢
  rw [trim_append h0, lexU_blank h]

/-! ### The library's look for e or E -/
theorem indexAny_cutE (s : List UInt8) : cutE s = if Lib.indexAny s [101, 69] < 0 then (s, [], false) else (s.take (Lib.indexAny s [101, 69]).toNat, s.drop ((Lib.indexAny s [101, 69]).toNat + 1), true) := by
  induction s with
  | nil => rfl
  | cons x l ih =>
    have hg := Lib.indexAny_ge [101, 69] l
    have hxe : ([101, 69] : List UInt8).contains x = isE x := by simp [isE, List.contains, List.elem]; cases h1 : (x == 101) <;> cases h2 : (x == 69) <;> simp_all
    simp only [cutE, Lib.indexAny, hxe]
    by_cases h : isE x = true
    · simp [h]
    · rw [if_neg h, if_neg h, ih]
      by_cases h1 : Lib.indexAny l [101, 69] = -1
      · simp [h1]
      · have h2 : (Lib.indexAny l [101, 69] == -1) = false := by simpa using h1
        rw [h2]
        simp only [Bool.false_eq_true, if_false]
        rw [if_neg (by omega), if_neg (by omega)]
        have h4 : (Lib.indexAny l [101, 69] + 1).toNat = (Lib.indexAny l [101, 69]).toNat + 1 := by omega
        rw [h4]
        simp
theorem plain_le {l : List UInt8} : (cutE l).1.length ≤ l.length ∧ (cutE l).2.1.length ≤ l.length := by
  induction l with
  | nil => exact ⟨Nat.le_refl _, Nat.le_refl _⟩
  | cons x l ih =>
    simp only [cutE]
    split
    · simp
    · simp only [List.length_cons]
      omega

end Go.Proofs.YthkcaogohkgheaaDoor
