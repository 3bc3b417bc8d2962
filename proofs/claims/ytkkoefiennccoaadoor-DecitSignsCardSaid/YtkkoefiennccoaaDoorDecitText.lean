/-
  A decimal's text, what a text tells of a decimal, and that the one is read as the other; pure.
-/
import Derived.Test.YtkkoefiennccoaaDoorDecitNum
namespace Go.Proofs.YtkkoefiennccoaaDoor
open Go.Lib (decDigits itoa)

/-! ### Texts read -/
/-- The digits behind a point, if there is one. -/
def frac : List UInt8 → List UInt8
  | [] => []
  | c :: t => if c = 46 then t.takeWhile isD else []
/-- What stands behind them. -/
def past : List UInt8 → List UInt8
  | [] => []
  | c :: t => if c = 46 then t.drop (run t) else c :: t
def minus : List UInt8 → Bool
  | [] => false
  | c :: _ => decide (c = 45)
/-- The exponent that a text's rest tells. -/
def litE : List UInt8 → Option Int
  | [] => some 0
  | c :: t => if isE c = true then (if digs (unsign t) = true then some (if minus t = true then -((dv 0 (unsign t) : Nat) : Int) else ((dv 0 (unsign t) : Nat) : Int)) else none) else none
/-- All digits ahead of the exponent, the exponent, how many digits stand behind the point. -/
def litU (u : List UInt8) : Option (List UInt8 × Int × Nat) :=
  if u.take (run u) ++ frac (u.drop (run u)) = [] then none else
  (litE (past (u.drop (run u)))).map fun e => (u.take (run u) ++ frac (u.drop (run u)), e, (frac (u.drop (run u))).length)

def tN : List UInt8 := [78, 97, 78]
def tI : List UInt8 := [73, 110, 102, 105, 110, 105, 116, 121]
def sg (n : Bool) : List UInt8 := if n then [45] else []
/-- What digits and an exponent come to: the bits and the error's number. -/
def pFind (n : Bool) (c : List UInt8) (q : Int) : Nat × Nat × Nat :=
  match find (dv 0 c) q with
  | none => (0, 0, 10)
  | some (m, e) => (dH n m e, m % 18446744073709551616, 0)
def pNum (n : Bool) (k : Nat) (u : List UInt8) : Nat × Nat × Nat :=
  match litU u with
  | none => (0, 0, 3)
  | some (c, E, b) => if 300 < k then (0, 0, 10) else pFind n c (E - (b : Nat))
/-- What a text of k bytes tells. -/
def pAns (s : List UInt8) : Nat × Nat × Nat :=
  if s = tN then (8935141660703064064, 0, 0) else if s = tI then (8646911284551352320, 0, 0) else if s = 45 :: tI then (17870283321406128128, 0, 0) else
  pNum (minus s) s.length (unsign s)

/-! ### Texts written -/
def bodyL (d : List UInt8) (x : Int) : List UInt8 :=
  if x ≤ 0 ∧ -6 ≤ x + (d.length : Int) - 1 then
    if x = 0 then d else
      (List.replicate (1 - x - (d.length : Int)).toNat 48 ++ d).take (((List.replicate (1 - x - (d.length : Int)).toNat 48 ++ d).length : Int) + x).toNat ++
        46 :: (List.replicate (1 - x - (d.length : Int)).toNat 48 ++ d).drop (((List.replicate (1 - x - (d.length : Int)).toNat 48 ++ d).length : Int) + x).toNat
  else d.take 1 ++ (if 1 < d.length then 46 :: d.drop 1 else []) ++
    69 :: (if x + (d.length : Int) - 1 < 0 then 45 :: itoa (-(x + (d.length : Int) - 1)) else 43 :: itoa (x + (d.length : Int) - 1))
/-- A decimal's text. -/
def dText (k : Nat) (n : Bool) (c : Nat) (x : Int) : List UInt8 := if k = 3 then tN else if k = 2 then sg n ++ tI else sg n ++ bodyL (dec c) x
def textD (h l : Nat) : List UInt8 := dText (dK h) (dN h) (dC h l) (dX h)

/-! ### Runs -/
theorem run_of {o r : List UInt8} (ho : ∀ c ∈ o, isD c = true) (hr : r = [] ∨ ∃ c t, r = c :: t ∧ isD c = false) : run (o ++ r) = o.length := by
  induction o with
  | nil =>
    rcases hr with rfl | ⟨c, t, rfl, h⟩
    · rfl
    · simp [run, h]
  | cons x l ih =>
    have := ih fun c hc => ho c (List.mem_cons_of_mem _ hc)
    simp [run, ho x List.mem_cons_self] at this ⊢
    exact this
theorem run_all {o : List UInt8} (ho : ∀ c ∈ o, isD c = true) : run o = o.length := by
  have := run_of (r := []) ho (.inl rfl)
  rwa [List.append_nil] at this
theorem take_run {o r : List UInt8} (ho : ∀ c ∈ o, isD c = true) (hr : r = [] ∨ ∃ c t, r = c :: t ∧ isD c = false) : (o ++ r).take (run (o ++ r)) = o ∧ (o ++ r).drop (run (o ++ r)) = r := by
  rw [run_of ho hr]
  exact ⟨List.take_left, List.drop_left⟩
theorem while_run (t : List UInt8) : t.takeWhile isD = t.take (run t) := by
  obtain ⟨d, r, h1, h2, h3, h4, h5⟩ := run_split t
  rw [h3, h1, List.take_left]
  rw [List.takeWhile_append_of_pos h2]
  rcases h5 with rfl | ⟨c, u, rfl, hc⟩
  · simp
  · simp [hc]
theorem litU_dot {o f r : List UInt8} (ho : ∀ c ∈ o, isD c = true) (hf : ∀ c ∈ f, isD c = true) (hr : r = [] ∨ ∃ c t, r = c :: t ∧ isD c = false) (hne : o ++ f ≠ []) :
    litU (o ++ 46 :: (f ++ r)) = (litE r).map fun e => (o ++ f, e, f.length) := by
  obtain ⟨a, b⟩ := take_run (r := 46 :: (f ++ r)) ho (.inr ⟨46, _, rfl, isD_46⟩)
  obtain ⟨a', b'⟩ := take_run hf hr
  have e1 : frac (46 :: (f ++ r)) = f := by
    show (if (46 : UInt8) = 46 then (f ++ r).takeWhile isD else []) = f
    rw [if_pos rfl, while_run, a']
  have e2 : past (46 :: (f ++ r)) = r := by
    show (if (46 : UInt8) = 46 then (f ++ r).drop (run (f ++ r)) else 46 :: (f ++ r)) = r
    rw [if_pos rfl, b']
  unfold litU
  rw [a, b, e1, e2, if_neg hne]
theorem litU_bare {o r : List UInt8} (ho : ∀ c ∈ o, isD c = true) (hr : r = [] ∨ ∃ c t, r = c :: t ∧ isD c = false ∧ c ≠ 46) (hne : o ≠ []) :
    litU (o ++ r) = (litE r).map fun e => (o, e, 0) := by
  obtain ⟨a, b⟩ := take_run (r := r) ho (by rcases hr with h | ⟨c, t, h, g, _⟩; exact .inl h; exact .inr ⟨c, t, h, g⟩)
  have e1 : frac r = [] ∧ past r = r := by
    rcases hr with rfl | ⟨c, t, rfl, _, g⟩
    · exact ⟨rfl, rfl⟩
    · exact ⟨if_neg g, if_neg g⟩
  unfold litU
  rw [a, b, e1.1, e1.2, List.append_nil, if_neg hne]
  rfl

/-! ### Exponents -/
theorem unsign_dig {t : List UInt8} (h : ∀ c ∈ t, isD c = true) : unsign t = t := by
  cases t with
  | nil => rfl
  | cons c l =>
    have hc := h c List.mem_cons_self
    have h1 : ¬ (c = 43 ∨ c = 45) := by
      rintro (e | e)
      · rw [e] at hc; exact absurd hc (by decide)
      · exact ne_minus hc e
    exact if_neg h1
theorem minus_dig {t : List UInt8} (h : ∀ c ∈ t, isD c = true) : minus t = false := by
  cases t with
  | nil => rfl
  | cons c l => exact decide_eq_false (ne_minus (h c List.mem_cons_self))
theorem litE_cons (c : UInt8) (t : List UInt8) : litE (c :: t) = if isE c = true then (if digs (unsign t) = true then some (if minus t = true then -((dv 0 (unsign t) : Nat) : Int) else ((dv 0 (unsign t) : Nat) : Int)) else none) else none := rfl
theorem litE_sign {c : UInt8} (hc : isE c = true) {s : UInt8} (hs : s = 43 ∨ s = 45) {d : List UInt8} (hd : digs d = true) :
    litE (c :: s :: d) = some (if s = 45 then -((dv 0 d : Nat) : Int) else ((dv 0 d : Nat) : Int)) := by
  have e1 : unsign (s :: d) = d := if_pos hs
  have e2 : minus (s :: d) = decide (s = 45) := rfl
  rw [litE_cons, if_pos hc, e1, e2, if_pos hd]
  simp only [decide_eq_true_eq]
theorem litE_bare {c : UInt8} (hc : isE c = true) {d : List UInt8} (hd : digs d = true) : litE (c :: d) = some ((dv 0 d : Nat) : Int) := by
  have h := (digs_iff.1 hd).1
  rw [litE_cons, if_pos hc, unsign_dig h, minus_dig h, if_pos hd]
  rfl
theorem litE_itoa {c : UInt8} (hc : isE c = true) (v : Int) : litE (c :: itoa v) = some v := by
  unfold itoa
  split
  · rename_i h
    rw [litE_sign hc (.inr rfl) (dec_digs _), if_pos rfl, dv_itoa]
    congr 1; omega
  · rename_i h
    rw [litE_bare hc (dec_digs _), dv_itoa]
    congr 1; omega
theorem itoa_nat {v : Int} (h : 0 ≤ v) : itoa v = decDigits v.toNat := if_neg (by omega)

/-! ### A text is read as it was written -/
theorem noughts_isD (k : Nat) : ∀ c ∈ List.replicate k (48 : UInt8), isD c = true := fun c hc => by
  rw [(List.mem_replicate.1 hc).2]; decide
theorem dig_append {a b : List UInt8} (ha : ∀ c ∈ a, isD c = true) (hb : ∀ c ∈ b, isD c = true) : ∀ c ∈ a ++ b, isD c = true := fun c hc => by
  rcases List.mem_append.1 hc with h | h
  · exact ha c h
  · exact hb c h
theorem dv_front (k : Nat) (d : List UInt8) : dv 0 (List.replicate k 48 ++ d) = dv 0 d := by
  rw [dv_append, dv_noughts, Nat.zero_mul]

theorem lit_body {d : List UInt8} (hd : digs d = true) (x : Int) : ∃ cs E b, litU (bodyL d x) = some (cs, E, b) ∧ dv 0 cs = dv 0 d ∧ E - ((b : Nat) : Int) = x := by
  obtain ⟨h, hne⟩ := digs_iff.1 hd
  have hlen : 0 < d.length := List.length_pos_iff.2 hne
  unfold bodyL
  split
  · rename_i hx
    split
    · rename_i h0
      refine ⟨d, 0, 0, ?_, rfl, by omega⟩
      have := litU_bare (r := []) h (.inl rfl) hne
      rw [List.append_nil] at this
      rw [this]; rfl
    · rename_i h0
      obtain ⟨e, he⟩ : ∃ e, e = List.replicate (1 - x - (d.length : Int)).toNat 48 ++ d := ⟨_, rfl⟩
      have hv : dv 0 e = dv 0 d := by rw [he]; exact dv_front _ _
      have hD : ∀ c ∈ e, isD c = true := by rw [he]; exact dig_append (noughts_isD _) h
      have hl : (e.length : Int) + x ≥ 1 := by rw [he, List.length_append, List.length_replicate]; omega
      rw [← he]
      obtain ⟨j, hj⟩ : ∃ j : Nat, (e.length : Int) + x = j := ⟨((e.length : Int) + x).toNat, by omega⟩
      rw [hj, Int.toNat_natCast]
      refine ⟨e, 0, e.length - j, ?_, hv, by omega⟩
      have k := litU_dot (o := e.take j) (f := e.drop j) (r := []) (fun c hc => hD c (List.mem_of_mem_take hc)) (fun c hc => hD c (List.mem_of_mem_drop hc)) (.inl rfl) (by
        rw [List.take_append_drop]
        intro hh; rw [hh] at hl; simp at hl; omega)
      rw [List.append_nil] at k
      rw [k, List.take_append_drop, List.length_drop]
      rfl
  · rename_i hx
    obtain ⟨a, ha⟩ : ∃ a, a = x + (d.length : Int) - 1 := ⟨_, rfl⟩
    rw [← ha]
    have hE : ∀ r, r = (69 : UInt8) :: (if a < 0 then 45 :: itoa (-a) else 43 :: itoa a) → litE r = some a ∧ (r = [] ∨ ∃ c t, r = c :: t ∧ isD c = false) ∧ (r = [] ∨ ∃ c t, r = c :: t ∧ isD c = false ∧ c ≠ 46) := by
      intro r hr
      refine ⟨?_, .inr ⟨69, _, hr, isD_69⟩, .inr ⟨69, _, hr, isD_69, by decide⟩⟩
      rw [hr]
      split
      · rename_i hn
        rw [itoa_nat (by omega), litE_sign (by decide) (.inr rfl) (dec_digs _), if_pos rfl, dv_itoa]
        congr 1; omega
      · rename_i hn
        rw [itoa_nat (by omega), litE_sign (by decide) (.inl rfl) (dec_digs _), if_neg (by decide), dv_itoa]
        congr 1; omega
    obtain ⟨r, hr⟩ : ∃ r, r = (69 : UInt8) :: (if a < 0 then 45 :: itoa (-a) else 43 :: itoa a) := ⟨_, rfl⟩
    obtain ⟨hE1, hE2, hE3⟩ := hE r hr
    rw [← hr]
    split
    · rename_i h1
      have k := litU_dot (o := d.take 1) (f := d.drop 1) (r := r) (fun c hc => h c (List.mem_of_mem_take hc)) (fun c hc => h c (List.mem_of_mem_drop hc)) hE2 (by rw [List.take_append_drop]; exact hne)
      refine ⟨d, a, d.length - 1, ?_, rfl, by omega⟩
      rw [List.append_assoc, List.cons_append, k, hE1, List.take_append_drop, List.length_drop]
      rfl
    · rename_i h1
      have h2 : d.take 1 = d := List.take_of_length_le (by omega)
      have k := litU_bare (o := d) (r := r) h hE3 hne
      refine ⟨d, a, 0, ?_, rfl, by omega⟩
      rw [h2, List.append_nil, k, hE1]
      rfl

/-- A text whose first byte is a digit has no sign, and is no name. -/
def Headed (u : List UInt8) : Prop := ∃ c t, u = c :: t ∧ isD c = true
theorem headed_unsign {u : List UInt8} (h : Headed u) : unsign u = u ∧ minus u = false := by
  obtain ⟨c, t, rfl, hc⟩ := h
  have h1 : ¬ (c = 43 ∨ c = 45) := by
    rintro (e | e)
    · rw [e] at hc; exact absurd hc (by decide)
    · exact ne_minus hc e
  exact ⟨if_neg h1, decide_eq_false fun e => h1 (.inr e)⟩
theorem headed_name {u : List UInt8} (h : Headed u) (n : Bool) : pAns (sg n ++ u) = pNum n (sg n ++ u).length u := by
  obtain ⟨a, b⟩ := headed_unsign h
  obtain ⟨c, t, rfl, hc⟩ := h
  cases n
  · show pAns (c :: t) = pNum false (c :: t).length (c :: t)
    unfold pAns
    rw [if_neg, if_neg, if_neg, a, b]
    · intro e; cases e; exact absurd hc (by decide)
    · intro e; cases e; exact absurd hc (by decide)
    · intro e; cases e; exact absurd hc (by decide)
  · show pAns (45 :: c :: t) = pNum true (45 :: c :: t).length (c :: t)
    unfold pAns
    rw [if_neg, if_neg, if_neg]
    · rfl
    · intro e; cases e; exact absurd hc (by decide)
    · intro e; cases e
    · intro e; cases e
theorem headed_plus {u : List UInt8} (_h : Headed u) : pAns (43 :: u) = pNum false (u.length + 1) u := by
  unfold pAns
  rw [if_neg, if_neg, if_neg]
  · rfl
  · intro e; cases e
  · intro e; cases e
  · intro e; cases e
theorem headed_dig {d : List UInt8} (hd : digs d = true) (r : List UInt8) : Headed (d ++ r) := by
  obtain ⟨h, hne⟩ := digs_iff.1 hd
  cases d with
  | nil => exact absurd rfl hne
  | cons c t => exact ⟨c, t ++ r, rfl, h c List.mem_cons_self⟩
theorem headed_body {d : List UInt8} (hd : digs d = true) (x : Int) : Headed (bodyL d x) := by
  obtain ⟨h, hne⟩ := digs_iff.1 hd
  have hlen : 0 < d.length := List.length_pos_iff.2 hne
  unfold bodyL
  split
  · split
    · have := headed_dig hd []
      rwa [List.append_nil] at this
    · rename_i hx h0
      obtain ⟨e, he⟩ : ∃ e, e = List.replicate (1 - x - (d.length : Int)).toNat 48 ++ d := ⟨_, rfl⟩
      have hD : ∀ c ∈ e, isD c = true := by rw [he]; exact dig_append (noughts_isD _) h
      have hl : (e.length : Int) + x ≥ 1 := by rw [he, List.length_append, List.length_replicate]; omega
      rw [← he]
      refine headed_dig (digs_iff.2 ⟨fun c hc => hD c (List.mem_of_mem_take hc), fun hh => ?_⟩) _
      have := congrArg List.length hh
      rw [List.length_take, List.length_nil] at this
      omega
  · rw [List.append_assoc]
    refine headed_dig (digs_iff.2 ⟨fun c hc => h c (List.mem_of_mem_take hc), fun hh => ?_⟩) _
    have := congrArg List.length hh
    rw [List.length_take, List.length_nil] at this
    omega
theorem sg_length (n : Bool) : (sg n).length ≤ 1 := by cases n <;> decide
theorem dec_isDg (c : Nat) : digs (dec c) = true := by rw [dec_digits]; exact dec_digs c
theorem dec_le {c k : Nat} (h : c < 10 ^ k) (hk : 1 ≤ k) : (dec c).length ≤ k := by
  by_cases h0 : c = 0
  · subst h0; exact hk
  · rw [dec_pos h0]; exact ds_length k c h
theorem itoa_len {v : Int} (h0 : 0 ≤ v) (h1 : v < 100000) : (itoa v).length ≤ 5 := by
  rw [itoa_nat h0, ← dec_digits]
  exact dec_le (by omega) (by omega)
theorem body_len {d : List UInt8} (hd : 1 ≤ d.length) (hl : d.length ≤ 34) {x : Int} (h0 : -7000 ≤ x) (h1 : x ≤ 7000) : (bodyL d x).length ≤ 60 := by
  unfold bodyL
  split
  · split
    · omega
    · rename_i hx _
      simp only [List.length_append, List.length_take, List.length_cons, List.length_drop, List.length_replicate]
      omega
  · simp only [List.length_append, List.length_cons, List.length_take]
    have k : (if x + (d.length : Int) - 1 < 0 then (45 : UInt8) :: itoa (-(x + (d.length : Int) - 1)) else 43 :: itoa (x + (d.length : Int) - 1)).length ≤ 6 := by
      split
      · have := itoa_len (v := -(x + (d.length : Int) - 1)) (by omega) (by omega)
        rw [List.length_cons]; omega
      · have := itoa_len (v := x + (d.length : Int) - 1) (by omega) (by omega)
        rw [List.length_cons]; omega
    have k2 : (if 1 < d.length then (46 : UInt8) :: d.drop 1 else []).length ≤ 40 := by
      split
      · rw [List.length_cons, List.length_drop]; omega
      · simp
    omega

/-- P15.3. -/
theorem back_ans {n : Bool} {c : Nat} {x : Int} (j : Joins c x) : pAns (sg n ++ bodyL (dec c) x) = (dH n c x, c % 18446744073709551616, 0) := by
  have hd := dec_isDg c
  have hl : (dec c).length ≤ 34 := dec_le (by rw [show (10 : Nat) ^ 34 = 10000000000000000000000000000000000 by decide]; exact j.1) (by omega)
  have h1 : 1 ≤ (dec c).length := List.length_pos_iff.2 (digs_iff.1 hd).2
  have hb := body_len h1 hl (x := x) (by have := j.2.1; omega) (by have := j.2.2; omega)
  have hs := sg_length n
  rw [headed_name (headed_body hd x) n]
  obtain ⟨cs, E, b, e1, e2, e3⟩ := lit_body hd x
  unfold pNum
  rw [e1]
  show (if 300 < (sg n ++ bodyL (dec c) x).length then _ else pFind n cs (E - (b : Nat))) = _
  rw [if_neg (by rw [List.length_append]; omega), e3]
  unfold pFind
  rw [e2, dv_dec, find_self j]

/-- Digits and an exponent. -/
theorem just_ans {n : Bool} {c : Nat} (hc : c < 340282366920938463463374607431768211456) {x : Int} (h0 : -7000 ≤ x) (h1 : x ≤ 7000) :
    pAns (sg n ++ (dec c ++ 101 :: itoa x)) = match find c x with | none => (0, 0, 10) | some (m, e) => (dH n m e, m % 18446744073709551616, 0) := by
  have hd := dec_isDg c
  have hl : (dec c).length ≤ 39 := (parse_dec hc).2
  have hs := sg_length n
  have hi : (itoa x).length ≤ 6 := by
    by_cases hx : x < 0
    · have := itoa_len (v := -x) (by omega) (by omega)
      rw [itoa_nat (by omega)] at this
      unfold itoa
      rw [if_pos hx, List.length_cons, show x.natAbs = (-x).toNat by omega]
      omega
    · have := itoa_len (v := x) (by omega) (by omega)
      omega
  rw [headed_name (headed_dig hd _) n]
  have k := litU_bare (o := dec c) (r := 101 :: itoa x) (digs_iff.1 hd).1 (.inr ⟨101, _, rfl, isD_101, by decide⟩) (digs_iff.1 hd).2
  rw [litE_itoa (by decide)] at k
  unfold pNum
  rw [k]
  show (if 300 < (sg n ++ (dec c ++ 101 :: itoa x)).length then _ else pFind n (dec c) (x - ((0 : Nat) : Int))) = _
  rw [if_neg (by rw [List.length_append, List.length_append, List.length_cons]; omega), show x - ((0 : Nat) : Int) = x by omega]
  unfold pFind
  rw [dv_dec]

/-- Signs, and noughts ahead. -/
theorem pNum_len {n : Bool} {j k : Nat} {u : List UInt8} (hj : j ≤ 300) (hk : k ≤ 300) : pNum n j u = pNum n k u := by
  unfold pNum
  cases litU u with
  | none => rfl
  | some r =>
    obtain ⟨c, E, b⟩ := r
    show (if 300 < j then _ else _) = (if 300 < k then _ else _)
    rw [if_neg (by omega), if_neg (by omega)]
theorem pNum_neg (k : Nat) (u : List UInt8) : (pNum true k u).2 = (pNum false k u).2 ∧ ((pNum false k u).2.2 = 0 → (pNum true k u).1 = (pNum false k u).1 + 9223372036854775808 ∧ (pNum false k u).1 < 9223372036854775808) := by
  unfold pNum
  cases litU u with
  | none => exact ⟨rfl, fun h => by cases h⟩
  | some r =>
    obtain ⟨c, E, b⟩ := r
    dsimp only
    split
    · exact ⟨rfl, fun h => by cases h⟩
    · unfold pFind
      cases hf : find (dv 0 c) (E - (b : Nat)) with
      | none => exact ⟨rfl, fun h => by cases h⟩
      | some p =>
        obtain ⟨m, e⟩ := p
        obtain ⟨j, _, _⟩ := find_some hf
        obtain ⟨a, b1, b2⟩ := j
        have := high_lt a
        refine ⟨rfl, fun _ => ⟨?_, ?_⟩⟩
        · show dH true m e = dH false m e + _
          unfold dH
          simp
        · show dH false m e < _
          unfold dH
          simp
          omega
theorem pNum_noughts {u : List UInt8} (h : Headed u) (n : Bool) (j k : Nat) : pNum n j (List.replicate k 48 ++ u) = pNum n j u := by
  obtain ⟨d, r, e1, e2, e3, e4, e5⟩ := run_split u
  have hd : d ≠ [] := by
    rintro rfl
    obtain ⟨c, t, rfl, hc⟩ := h
    rcases e5 with rfl | ⟨c', t', rfl, hc'⟩
    · cases e1
    · rw [List.nil_append] at e1
      injection e1 with e _
      rw [e, hc'] at hc; cases hc
  have k1 := take_run e2 e5
  have k2 := take_run (o := List.replicate k 48 ++ d) (dig_append (noughts_isD k) e2) e5
  rw [List.append_assoc] at k2
  have L1 : litU (d ++ r) = (litE (past r)).map fun e => (d ++ frac r, e, (frac r).length) := by
    unfold litU
    rw [k1.1, k1.2, if_neg (by simp [hd])]
  have L2 : litU (List.replicate k 48 ++ (d ++ r)) = (litE (past r)).map fun e => (List.replicate k 48 ++ d ++ frac r, e, (frac r).length) := by
    unfold litU
    rw [k2.1, k2.2, if_neg (by simp [hd])]
  rw [e1]
  unfold pNum
  rw [L1, L2]
  cases litE (past r) with
  | none => rfl
  | some e =>
    show (if 300 < j then _ else pFind n (List.replicate k 48 ++ d ++ frac r) _) = (if 300 < j then _ else pFind n (d ++ frac r) _)
    unfold pFind
    rw [List.append_assoc, dv_front]

/-- The names. -/
theorem name_ans : pAns tN = (8935141660703064064, 0, 0) ∧ pAns (sg false ++ tI) = (8646911284551352320, 0, 0) ∧ pAns (sg true ++ tI) = (17870283321406128128, 0, 0) := by
  refine ⟨if_pos rfl, ?_, ?_⟩
  · unfold pAns
    rw [if_neg (by decide), if_pos (by decide)]
  · unfold pAns
    rw [if_neg (by decide), if_neg (by decide), if_pos (by decide)]
end Go.Proofs.YtkkoefiennccoaaDoor
