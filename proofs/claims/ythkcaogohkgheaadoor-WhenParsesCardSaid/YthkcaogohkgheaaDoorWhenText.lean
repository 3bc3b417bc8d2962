/-
  A time's text, what a text tells, that the one is read as the other, and that later times have later texts; pure.
-/
import Derived.Test.YthkcaogohkgheaaDoorWhenMath
namespace Go.Proofs.YthkcaogohkgheaaDoor

/-! ### Digits -/
def dg (n : Nat) : UInt8 := UInt8.ofNat (48 + n % 10)
def d2 (v : Nat) : List UInt8 := [dg (v / 10), dg v]
def d3 (v : Nat) : List UInt8 := [dg (v / 100), dg (v / 10), dg v]
def d4 (v : Nat) : List UInt8 := [dg (v / 1000), dg (v / 100), dg (v / 10), dg v]
theorem dg_toNat (n : Nat) : (dg n).toNat = 48 + n % 10 := by
  unfold dg
  rw [UInt8.toNat_ofNat']
  omega
def dig (c : UInt8) : Bool := decide (48 ≤ c.toNat ∧ c.toNat ≤ 57)
theorem dg_dig (n : Nat) : dig (dg n) = true := decide_eq_true (by rw [dg_toNat]; omega)
/-- The number of digits; -1: they are none. -/
def valW (l : List UInt8) : Nat := l.foldl (fun v c => v * 10 + (c.toNat - 48)) 0
def numW (l : List UInt8) : Int := if l.all dig = true then (valW l : Int) else -1
theorem num_d2 {v : Nat} (h : v < 100) : numW (d2 v) = v := by
  unfold numW d2 valW
  rw [if_pos (by simp [dg_dig])]
  simp only [List.foldl_cons, List.foldl_nil, dg_toNat]
  omega
theorem num_d3 {v : Nat} (h : v < 1000) : numW (d3 v) = v := by
  unfold numW d3 valW
  rw [if_pos (by simp [dg_dig])]
  simp only [List.foldl_cons, List.foldl_nil, dg_toNat]
  omega
theorem num_d4 {v : Nat} (h : v < 10000) : numW (d4 v) = v := by
  unfold numW d4 valW
  rw [if_pos (by simp [dg_dig])]
  simp only [List.foldl_cons, List.foldl_nil, dg_toNat]
  omega

/-! ### Texts -/
/-- The first nineteen bytes of a time's text. -/
def headW (y m d h i c : Nat) : List UInt8 := d4 y ++ 45 :: (d2 m ++ 45 :: (d2 d ++ 84 :: (d2 h ++ 58 :: (d2 i ++ 58 :: d2 c))))
def tailW (f : Nat) : List UInt8 := if f = 0 then [90] else 46 :: (d3 f ++ [90])
def whenL (y m d h i c f : Nat) : List UInt8 := headW y m d h i c ++ tailW f
/-- What a time's text is. -/
def TextW (ms : Nat) (t : List UInt8) : Prop :=
  ∃ k j d, VDate k j d ∧ dnum k j d = ms / 86400000 ∧ t = whenL (1970 + k) (j + 1) (d + 1) (ms / 3600000 % 24) (ms / 60000 % 60) (ms / 1000 % 60) (ms % 1000)
theorem text_one {ms : Nat} {t t' : List UInt8} (h : TextW ms t) (h' : TextW ms t') : t = t' := by
  obtain ⟨k, j, d, v, e, rfl⟩ := h
  obtain ⟨k', j', d', v', e', rfl⟩ := h'
  obtain ⟨rfl, rfl, rfl⟩ := day_inj v v' (e.trans e'.symm)
  rfl
theorem head_len (y m d h i c : Nat) : (headW y m d h i c).length = 19 := rfl
theorem when_len (y m d h i c f : Nat) : (whenL y m d h i c f).length = if f = 0 then 20 else 24 := by
  unfold whenL tailW
  rw [List.length_append, head_len]
  split <;> rfl

/-! ### Texts read -/
def fld (s : List UInt8) (a b : Nat) : List UInt8 := (s.drop a).take (b - a)
def byteW (s : List UInt8) (i : Nat) : UInt8 := s.getD i 0
/-- Digits of the second's part, if the text is of one of the two lengths. -/
def fracW (s : List UInt8) : Option Int :=
  if s.length = 24 ∧ byteW s 19 = 46 ∧ byteW s 23 = 90 then some (numW (fld s 20 23)) else if s.length ≠ 20 ∨ byteW s 19 ≠ 90 then none else some 0
def goodW (s : List UInt8) (f : Int) : Prop :=
  byteW s 4 = 45 ∧ byteW s 7 = 45 ∧ byteW s 10 = 84 ∧ byteW s 13 = 58 ∧ byteW s 16 = 58 ∧ 1970 ≤ numW (fld s 0 4) ∧ 1 ≤ numW (fld s 5 7) ∧ numW (fld s 5 7) ≤ 12 ∧ 1 ≤ numW (fld s 8 10) ∧
    numW (fld s 8 10) ≤ (mdy (numW (fld s 0 4)).toNat (numW (fld s 5 7)).toNat : Nat) ∧ 0 ≤ numW (fld s 11 13) ∧ numW (fld s 11 13) ≤ 23 ∧ 0 ≤ numW (fld s 14 16) ∧ numW (fld s 14 16) ≤ 59 ∧ 0 ≤ numW (fld s 17 19) ∧ numW (fld s 17 19) ≤ 59 ∧ 0 ≤ f
instance (s : List UInt8) (f : Int) : Decidable (goodW s f) := by unfold goodW; infer_instance
def timeW (s : List UInt8) (f : Int) : Int :=
  ((((dnum ((numW (fld s 0 4)).toNat - 1970) ((numW (fld s 5 7)).toNat - 1) ((numW (fld s 8 10)).toNat - 1) : Nat) : Int) * 24 + numW (fld s 11 13)) * 60 + numW (fld s 14 16)) * 60000 + numW (fld s 17 19) * 1000 + f
/-- The time that a text tells. -/
def pW (s : List UInt8) : Option Int :=
  match fracW s with
  | none => none
  | some f => if goodW s f then some (timeW s f) else none

theorem frac_when (y m d h i c f : Nat) (hf : f < 1000) : fracW (whenL y m d h i c f) = some (f : Int) := by
  unfold fracW
  rw [when_len]
  by_cases q : f = 0
  · subst q
    rw [if_neg (by simp), if_neg]
    · rfl
    · rintro (g | g)
      · exact g rfl
      · exact g rfl
  · rw [if_neg q, if_pos]
    · have e : fld (whenL y m d h i c f) 20 23 = d3 f := by unfold whenL tailW; rw [if_neg q]; rfl
      rw [e, num_d3 hf]
    · refine ⟨rfl, ?_, ?_⟩
      · unfold whenL tailW; rw [if_neg q]; rfl
      · unfold whenL tailW; rw [if_neg q]; rfl
theorem parse_when {k j d h i c f : Nat} (v : VDate k j d) (hk : k < 8030) (hh : h < 24) (hi : i < 60) (hc : c < 60) (hf : f < 1000) :
    pW (whenL (1970 + k) (j + 1) (d + 1) h i c f) = some (((((dnum k j d : Nat) : Int) * 24 + (h : Int)) * 60 + (i : Int)) * 60000 + (c : Int) * 1000 + (f : Int)) := by
  unfold pW
  rw [frac_when _ _ _ _ _ _ _ hf]
  have b := mdy_bounds (1970 + k) (j + 1)
  have v1 := v.1
  have v2 := v.2
  have f1 : numW (fld (whenL (1970 + k) (j + 1) (d + 1) h i c f) 0 4) = ((1970 + k : Nat) : Int) := num_d4 (by omega)
  have f2 : numW (fld (whenL (1970 + k) (j + 1) (d + 1) h i c f) 5 7) = ((j + 1 : Nat) : Int) := num_d2 (by omega)
  have f3 : numW (fld (whenL (1970 + k) (j + 1) (d + 1) h i c f) 8 10) = ((d + 1 : Nat) : Int) := num_d2 (by omega)
  have f4 : numW (fld (whenL (1970 + k) (j + 1) (d + 1) h i c f) 11 13) = (h : Int) := num_d2 (by omega)
  have f5 : numW (fld (whenL (1970 + k) (j + 1) (d + 1) h i c f) 14 16) = (i : Int) := num_d2 (by omega)
  have f6 : numW (fld (whenL (1970 + k) (j + 1) (d + 1) h i c f) 17 19) = (c : Int) := num_d2 (by omega)
  have g : goodW (whenL (1970 + k) (j + 1) (d + 1) h i c f) (f : Int) := by
    unfold goodW
    rw [f1, f2, f3, f4, f5, f6]
    refine ⟨rfl, rfl, rfl, rfl, rfl, by omega, by omega, by omega, by omega, ?_, by omega, by omega, by omega, by omega, by omega, by omega, by omega⟩
    rw [show ((1970 + k : Nat) : Int).toNat = 1970 + k by omega, show ((j + 1 : Nat) : Int).toNat = j + 1 by omega]
    omega
  show (if goodW _ _ then _ else _) = _
  rw [if_pos g]
  unfold timeW
  rw [f1, f2, f3, f4, f5, f6]
  rw [show ((1970 + k : Nat) : Int).toNat - 1970 = k by omega, show ((j + 1 : Nat) : Int).toNat - 1 = j by omega, show ((d + 1 : Nat) : Int).toNat - 1 = d by omega]
/-- P16.2. -/
theorem back_when {ms : Nat} (hm : ms ≤ 253402300799999) {t : List UInt8} (h : TextW ms t) : pW t = some (ms : Int) := by
  obtain ⟨k, j, d, v, e, rfl⟩ := h
  have hk := year_lt (k := k) (j := j) (d := d) (by omega)
  rw [parse_when v hk (Nat.mod_lt _ (by decide)) (Nat.mod_lt _ (by decide)) (Nat.mod_lt _ (by decide)) (Nat.mod_lt _ (by decide)), e]
  congr 1
  omega
theorem text_len {ms : Nat} {t : List UInt8} (h : TextW ms t) : t.length = if ms % 1000 = 0 then 20 else 24 := by
  obtain ⟨k, j, d, v, e, rfl⟩ := h
  exact when_len _ _ _ _ _ _ _

/-! ### The order -/
theorem less_cons (a b : UInt8) (l m : List UInt8) : Op.bytesLess (a :: l) (b :: m) = true ↔ a.toNat < b.toNat ∨ (a.toNat = b.toNat ∧ Op.bytesLess l m = true) := by
  simp only [Op.bytesLess, Bool.or_eq_true, Bool.and_eq_true, decide_eq_true_eq, beq_iff_eq]
  rw [UInt8.lt_iff_toNat_lt, ← UInt8.toNat_inj]
theorem less_same (a : UInt8) (l m : List UInt8) : Op.bytesLess (a :: l) (a :: m) = true ↔ Op.bytesLess l m = true := by
  rw [less_cons]
  cases Op.bytesLess l m <;> simp
theorem less_d2 {v u : Nat} (hv : v < 100) (hu : u < 100) (l m : List UInt8) : Op.bytesLess (d2 v ++ l) (d2 u ++ m) = true ↔ v < u ∨ (v = u ∧ Op.bytesLess l m = true) := by
  show Op.bytesLess (dg (v / 10) :: dg v :: l) (dg (u / 10) :: dg u :: m) = true ↔ _
  rw [less_cons, less_cons, dg_toNat, dg_toNat, dg_toNat, dg_toNat]
  cases Op.bytesLess l m
  · simp only [Bool.false_eq_true, and_false, or_false]; omega
  · simp only [and_true]; omega
theorem four (v : Nat) (h : v < 10000) : ∃ a b c d, a < 10 ∧ b < 10 ∧ c < 10 ∧ d < 10 ∧ v = 1000 * a + 100 * b + 10 * c + d ∧ v / 1000 % 10 = a ∧ v / 100 % 10 = b ∧ v / 10 % 10 = c ∧ v % 10 = d :=
  ⟨v / 1000, v / 100 % 10, v / 10 % 10, v % 10, by omega, by omega, by omega, by omega, by omega, by omega, rfl, rfl, rfl⟩
theorem less_d4 {v u : Nat} (hv : v < 10000) (hu : u < 10000) (l m : List UInt8) : Op.bytesLess (d4 v ++ l) (d4 u ++ m) = true ↔ v < u ∨ (v = u ∧ Op.bytesLess l m = true) := by
  show Op.bytesLess (dg (v / 1000) :: dg (v / 100) :: dg (v / 10) :: dg v :: l) (dg (u / 1000) :: dg (u / 100) :: dg (u / 10) :: dg u :: m) = true ↔ _
  rw [less_cons, less_cons, less_cons, less_cons, dg_toNat, dg_toNat, dg_toNat, dg_toNat, dg_toNat, dg_toNat, dg_toNat, dg_toNat]
  obtain ⟨a, b, c, d, h1, h2, h3, h4, h5, e1, e2, e3, e4⟩ := four v hv
  obtain ⟨a', b', c', d', g1, g2, g3, g4, g5, f1, f2, f3, f4⟩ := four u hu
  rw [e1, e2, e3, e4, f1, f2, f3, f4]
  clear e1 e2 e3 e4 f1 f2 f3 f4
  cases Op.bytesLess l m
  · simp only [Bool.false_eq_true, and_false, or_false]; omega
  · simp only [and_true]; omega
theorem head_less {y m d h i c y' m' d' h' i' c' : Nat} (b1 : y < 10000) (b2 : m < 100) (b3 : d < 100) (b4 : h < 100) (b5 : i < 100) (b6 : c < 100) (a1 : y' < 10000) (a2 : m' < 100) (a3 : d' < 100) (a4 : h' < 100) (a5 : i' < 100) (a6 : c' < 100) :
    Op.bytesLess (headW y m d h i c) (headW y' m' d' h' i' c') = true ↔ y < y' ∨ (y = y' ∧ (m < m' ∨ (m = m' ∧ (d < d' ∨ (d = d' ∧ (h < h' ∨ (h = h' ∧ (i < i' ∨ (i = i' ∧ c < c'))))))))) := by
  unfold headW
  rw [less_d4 b1 a1, less_same, less_d2 b2 a2, less_same, less_d2 b3 a3, less_same, less_d2 b4 a4, less_same, less_d2 b5 a5, less_same]
  have e : Op.bytesLess (d2 c) (d2 c') = true ↔ c < c' := by
    have := less_d2 b6 a6 [] []
    rw [List.append_nil, List.append_nil] at this
    rw [this]
    simp [Op.bytesLess]
  rw [e]
theorem head_inj {y m d h i c y' m' d' h' i' c' : Nat} (b1 : y < 10000) (b2 : m < 100) (b3 : d < 100) (b4 : h < 100) (b5 : i < 100) (b6 : c < 100) (a1 : y' < 10000) (a2 : m' < 100) (a3 : d' < 100) (a4 : h' < 100) (a5 : i' < 100) (a6 : c' < 100)
    (e : headW y m d h i c = headW y' m' d' h' i' c') : y = y' ∧ m = m' ∧ d = d' ∧ h = h' ∧ i = i' ∧ c = c' := by
  have irr : ∀ l : List UInt8, Op.bytesLess l l = false := fun l => by
    induction l with
    | nil => rfl
    | cons x l ih => simp [Op.bytesLess, ih]
  have h1 := head_less b1 b2 b3 b4 b5 b6 a1 a2 a3 a4 a5 a6
  have h2 := head_less a1 a2 a3 a4 a5 a6 b1 b2 b3 b4 b5 b6
  rw [e, irr] at h1 h2
  simp only [Bool.false_eq_true, false_iff] at h1 h2
  omega
/-- Two times' heads: the later second's comes later, and each second has one. -/
theorem heads {a b : Nat} (ha : a ≤ 253402300799999) (hb : b ≤ 253402300799999) {s t : List UInt8} (hs : TextW a s) (ht : TextW b t) :
    (Op.bytesLess (s.take 19) (t.take 19) = true ↔ a / 1000 < b / 1000) ∧ (s.take 19 = t.take 19 ↔ a / 1000 = b / 1000) := by
  obtain ⟨k, j, d, v, e, rfl⟩ := hs
  obtain ⟨k', j', d', v', e', rfl⟩ := ht
  have t1 : ∀ y m d h i c f, (whenL y m d h i c f).take 19 = headW y m d h i c := fun y m d h i c f => by
    unfold whenL
    rw [List.take_append_of_le_length (by rw [head_len]; omega), List.take_of_length_le (by rw [head_len]; omega)]
  rw [t1, t1]
  have hk := year_lt (k := k) (j := j) (d := d) (by omega)
  have hk' := year_lt (k := k') (j := j') (d := d') (by omega)
  have m1 := mdy_bounds (1970 + k) (j + 1)
  have m2 := mdy_bounds (1970 + k') (j' + 1)
  have v1 := v.1; have v2 := v.2; have v1' := v'.1; have v2' := v'.2
  have L := day_lt v v'
  have L' := day_lt v' v
  generalize dnum k j d = D at *
  generalize dnum k' j' d' = D' at *
  have hl : Op.bytesLess (headW (1970 + k) (j + 1) (d + 1) (a / 3600000 % 24) (a / 60000 % 60) (a / 1000 % 60)) (headW (1970 + k') (j' + 1) (d' + 1) (b / 3600000 % 24) (b / 60000 % 60) (b / 1000 % 60)) = true ↔ a / 1000 < b / 1000 := by
    rw [head_less (by omega) (by omega) (by omega) (by omega) (by omega) (by omega) (by omega) (by omega) (by omega) (by omega) (by omega) (by omega)]
    omega
  refine ⟨hl, ?_, ?_⟩
  · intro h
    obtain ⟨e1, e2, e3, e4, e5, e6⟩ := head_inj (by omega) (by omega) (by omega) (by omega) (by omega) (by omega) (by omega) (by omega) (by omega) (by omega) (by omega) (by omega) h
    omega
  · intro h
    have : k = k' ∧ j = j' ∧ d = d' := by omega
    obtain ⟨rfl, rfl, rfl⟩ := this
    rw [show a / 3600000 % 24 = b / 3600000 % 24 by omega, show a / 60000 % 60 = b / 60000 % 60 by omega, show a / 1000 % 60 = b / 1000 % 60 by omega]
end Go.Proofs.YthkcaogohkgheaaDoor
