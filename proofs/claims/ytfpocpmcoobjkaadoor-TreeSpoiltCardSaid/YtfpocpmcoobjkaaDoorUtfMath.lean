/-
  The characters of UTF-8 as plain mathematics over lists of bytes: the character at a place, its bytes, where a walk stops, how many it goes past; no condition beyond what each lemma asks.
-/
import Derived.Test.YtfpocpmcoobjkaaDoorRows
namespace Go.Proofs.YtfpocpmcoobjkaaDoor

/-- The byte at a place, as a number. -/
def byt (bs : List UInt8) (k : Nat) : Nat := (bs.getD k 0).toNat
theorem byt_lt (bs : List UInt8) (k : Nat) : byt bs k < 256 := (bs.getD k 0).toNat_lt

/-- j bytes more from p on, each with six bits, behind the bits v. -/
def more (bs : List UInt8) : Nat → Nat → Nat → Option Nat
  | 0, _, v => some v
  | j + 1, p, v => if p < bs.length ∧ 128 ≤ byt bs p ∧ byt bs p < 192 then more bs j (p + 1) (v * 64 + (byt bs p - 128)) else none

/-- What is told of a number of n bytes, at least 'least'. -/
def fin (least n : Nat) : Option Nat → Nat × Nat
  | none => (0, 0)
  | some r => if r < least ∨ 1114111 < r ∨ (55296 ≤ r ∧ r ≤ 57343) then (0, 0) else (r, n)

/-- The character that begins at a place, and how many bytes it has. -/
def rune (bs : List UInt8) (k : Nat) : Nat × Nat :=
  if bs.length ≤ k then (0, 0)
  else if byt bs k < 128 then (byt bs k, 1)
  else if byt bs k < 192 then (0, 0)
  else if byt bs k < 224 then fin 128 2 (more bs 1 (k + 1) (byt bs k - 192))
  else if byt bs k < 240 then fin 2048 3 (more bs 2 (k + 1) (byt bs k - 224))
  else if byt bs k < 248 then fin 65536 4 (more bs 3 (k + 1) (byt bs k - 240))
  else (0, 0)

theorem more_bounds (bs : List UInt8) : ∀ (j p v r : Nat), more bs j p v = some r → v * 64 ^ j ≤ r ∧ r < (v + 1) * 64 ^ j ∧ p + j ≤ max p bs.length := by
  intro j
  induction j with
  | zero =>
    intro p v r h
    simp [more] at h
    subst h
    simp
    omega
  | succ j ih =>
    intro p v r h
    rw [more] at h
    split at h
    · rename_i hc
      obtain ⟨h1, h2, h3⟩ := ih _ _ _ h
      have e : (64 : Nat) ^ (j + 1) = 64 * 64 ^ j := by rw [Nat.pow_succ, Nat.mul_comm]
      rw [e]
      generalize 64 ^ j = q at h1 h2
      have m1 : v * (64 * q) ≤ (v * 64 + (byt bs p - 128)) * q := by
        rw [← Nat.mul_assoc]
        exact Nat.mul_le_mul_right _ (by omega)
      have m2 : (v * 64 + (byt bs p - 128) + 1) * q ≤ (v + 1) * (64 * q) := by
        rw [← Nat.mul_assoc]
        exact Nat.mul_le_mul_right _ (by omega)
      omega
    · cases h

theorem fin_cases (least n : Nat) (o : Option Nat) : fin least n o = (0, 0) ∨ ∃ r, o = some r ∧ fin least n o = (r, n) ∧ least ≤ r ∧ r ≤ 1114111 ∧ (r < 55296 ∨ 57343 < r) := by
  cases o with
  | none => exact .inl rfl
  | some r =>
    by_cases h : r < least ∨ 1114111 < r ∨ (55296 ≤ r ∧ r ≤ 57343)
    · exact .inl (by simp [fin, h])
    · exact .inr ⟨r, rfl, by simp only [fin, if_neg h], by omega, by omega, by omega⟩

/-- A character has 1 to 4 bytes, which lie within; none: 0, 0. -/
theorem rune_cases (bs : List UInt8) (k : Nat) : rune bs k = (0, 0) ∨ (1 ≤ (rune bs k).2 ∧ (rune bs k).2 ≤ 4 ∧ k + (rune bs k).2 ≤ bs.length ∧ (rune bs k).1 ≤ 1114111) := by
  have hb := byt_lt bs k
  unfold rune
  split
  · exact .inl rfl
  split
  · exact .inr (by simp; omega)
  split
  · exact .inl rfl
  split
  · rcases fin_cases 128 2 (more bs 1 (k + 1) (byt bs k - 192)) with h | ⟨r, e, h, _, h2, _⟩
    · exact .inl h
    · have := more_bounds bs _ _ _ _ e
      rw [h]; exact .inr ⟨by simp, by simp, by simp; omega, by simpa using h2⟩
  split
  · rcases fin_cases 2048 3 (more bs 2 (k + 1) (byt bs k - 224)) with h | ⟨r, e, h, _, h2, _⟩
    · exact .inl h
    · have := more_bounds bs _ _ _ _ e
      rw [h]; exact .inr ⟨by simp, by simp, by simp; omega, by simpa using h2⟩
  split
  · rcases fin_cases 65536 4 (more bs 3 (k + 1) (byt bs k - 240)) with h | ⟨r, e, h, _, h2, _⟩
    · exact .inl h
    · have := more_bounds bs _ _ _ _ e
      rw [h]; exact .inr ⟨by simp, by simp, by simp; omega, by simpa using h2⟩
  · exact .inl rfl

theorem rune_past (bs : List UInt8) (k : Nat) (h : bs.length ≤ k) : rune bs k = (0, 0) := by unfold rune; rw [if_pos h]

/-- The states behind E0, ED, F0 and F4: the first byte more is from lo to hi. -/
def tight (bs : List UInt8) (lo hi j p v : Nat) : Option Nat :=
  if p < bs.length ∧ lo ≤ byt bs p ∧ byt bs p ≤ hi then more bs j (p + 1) (v * 64 + (byt bs p - 128)) else none
def told (n : Nat) : Option Nat → Nat × Nat
  | none => (0, 0)
  | some r => (r, n)
/-- What the states tell, by the first byte. -/
def longF (bs : List UInt8) (k : Nat) : Nat × Nat :=
  if byt bs k ≤ 193 then (0, 0)
  else if byt bs k ≤ 223 then told 2 (more bs 1 (k + 1) (byt bs k - 192))
  else if byt bs k = 224 then told 3 (tight bs 160 191 1 (k + 1) 0)
  else if byt bs k = 237 then told 3 (tight bs 128 159 1 (k + 1) 13)
  else if byt bs k ≤ 239 then told 3 (more bs 2 (k + 1) (byt bs k - 224))
  else if byt bs k = 240 then told 4 (tight bs 144 191 2 (k + 1) 0)
  else if byt bs k ≤ 243 then told 4 (more bs 3 (k + 1) (byt bs k - 240))
  else if byt bs k = 244 then told 4 (tight bs 128 143 2 (k + 1) 4)
  else (0, 0)

theorem fin_told {least n : Nat} {o : Option Nat} (h : ∀ r, o = some r → least ≤ r ∧ r ≤ 1114111 ∧ (r < 55296 ∨ 57343 < r)) : fin least n o = told n o := by
  cases o with
  | none => rfl
  | some r =>
    have := h r rfl
    simp only [fin, told]
    rw [if_neg (by omega)]

/-- All that is read behind lo to hi, and nothing else, is a character. -/
theorem fin_tight {bs : List UInt8} {least n lo hi j p v : Nat} (hlo : 128 ≤ lo) (hhi : hi ≤ 191)
    (hin : ∀ x r, lo ≤ x → x ≤ hi → (v * 64 + (x - 128)) * 64 ^ j ≤ r → r < (v * 64 + (x - 128) + 1) * 64 ^ j → least ≤ r ∧ r ≤ 1114111 ∧ (r < 55296 ∨ 57343 < r))
    (hout : ∀ x r, 128 ≤ x → x < 192 → (x < lo ∨ hi < x) → (v * 64 + (x - 128)) * 64 ^ j ≤ r → r < (v * 64 + (x - 128) + 1) * 64 ^ j → r < least ∨ 1114111 < r ∨ (55296 ≤ r ∧ r ≤ 57343)) :
    fin least n (more bs (j + 1) p v) = told n (tight bs lo hi j p v) := by
  rw [more, tight]
  by_cases h1 : p < bs.length ∧ 128 ≤ byt bs p ∧ byt bs p < 192
  · rw [if_pos h1]
    by_cases h2 : lo ≤ byt bs p ∧ byt bs p ≤ hi
    · rw [if_pos ⟨h1.1, h2⟩]
      refine fin_told fun r hr => ?_
      have hb := more_bounds bs _ _ _ _ hr
      exact hin _ r h2.1 h2.2 hb.1 hb.2.1
    · rw [if_neg (fun h => h2 h.2)]
      cases hm : more bs j (p + 1) (v * 64 + (byt bs p - 128)) with
      | none => rfl
      | some r =>
        have hb := more_bounds bs _ _ _ _ hm
        have := hout _ r h1.2.1 h1.2.2 (by omega) hb.1 hb.2.1
        simp only [fin, told]
        rw [if_pos this]
  · rw [if_neg h1, if_neg (by omega)]
    rfl

theorem rune_long (bs : List UInt8) (k : Nat) (hk : k < bs.length) (h : 128 ≤ byt bs k) : rune bs k = longF bs k := by
  have hb := byt_lt bs k
  unfold rune longF
  rw [if_neg (by omega), if_neg (by omega)]
  generalize byt bs k = c at h hb
  by_cases c1 : c ≤ 193
  · rw [if_pos c1]
    by_cases c2 : c < 192
    · rw [if_pos c2]
    · rw [if_neg c2, if_pos (by omega)]
      rcases fin_cases 128 2 (more bs 1 (k + 1) (c - 192)) with h | ⟨r, e, _, h1, _⟩
      · exact h
      · have := more_bounds bs _ _ _ _ e
        omega
  rw [if_neg c1, if_neg (by omega)]
  by_cases c2 : c ≤ 223
  · rw [if_pos c2, if_pos (by omega)]
    refine fin_told fun r hr => ?_
    have := more_bounds bs _ _ _ _ hr
    omega
  rw [if_neg c2, if_neg (by omega)]
  by_cases c3 : c = 224
  · subst c3
    rw [if_pos rfl, if_pos (by omega)]
    exact fin_tight (by omega) (by omega) (fun x r _ _ _ _ => by omega) (fun x r _ _ _ _ _ => by omega)
  rw [if_neg c3]
  by_cases c4 : c = 237
  · subst c4
    rw [if_pos rfl, if_pos (by omega)]
    exact fin_tight (by omega) (by omega) (fun x r _ _ _ _ => by omega) (fun x r _ _ _ _ _ => by omega)
  rw [if_neg c4]
  by_cases c5 : c ≤ 239
  · rw [if_pos c5, if_pos (by omega)]
    refine fin_told fun r hr => ?_
    have := more_bounds bs _ _ _ _ hr
    omega
  rw [if_neg c5, if_neg (by omega)]
  by_cases c6 : c = 240
  · subst c6
    rw [if_pos rfl, if_pos (by omega)]
    exact fin_tight (by omega) (by omega) (fun x r _ _ _ _ => by omega) (fun x r _ _ _ _ _ => by omega)
  rw [if_neg c6]
  by_cases c7 : c ≤ 243
  · rw [if_pos c7, if_pos (by omega)]
    refine fin_told fun r hr => ?_
    have := more_bounds bs _ _ _ _ hr
    omega
  rw [if_neg c7]
  by_cases c8 : c = 244
  · subst c8
    rw [if_pos rfl, if_pos (by omega)]
    exact fin_tight (by omega) (by omega) (fun x r _ _ _ _ => by omega) (fun x r _ _ _ _ _ => by omega)
  rw [if_neg c8]
  by_cases c9 : c < 248
  · rw [if_pos c9]
    rcases fin_cases 65536 4 (more bs 3 (k + 1) (c - 240)) with h | ⟨r, e, _, _, h2, _⟩
    · exact h
    · have := more_bounds bs _ _ _ _ e
      omega
  · rw [if_neg c9]

/-- Where a walk from k on stops. -/
def stop (bs : List UInt8) (k : Nat) : Nat :=
  if _h : (rune bs k).2 = 0 then k else stop bs (k + (rune bs k).2)
termination_by bs.length - k
decreasing_by
  rcases rune_cases bs k with e | e
  · rw [e] at _h; exact absurd rfl _h
  · omega
/-- How many characters it goes past. -/
def cnt (bs : List UInt8) (k : Nat) : Nat :=
  if _h : (rune bs k).2 = 0 then 0 else cnt bs (k + (rune bs k).2) + 1
termination_by bs.length - k
decreasing_by
  rcases rune_cases bs k with e | e
  · rw [e] at _h; exact absurd rfl _h
  · omega
theorem stop_end {bs : List UInt8} {k : Nat} (h : (rune bs k).2 = 0) : stop bs k = k := by rw [stop, dif_pos h]
theorem stop_on {bs : List UInt8} {k : Nat} (h : (rune bs k).2 ≠ 0) : stop bs k = stop bs (k + (rune bs k).2) := by rw [stop, dif_neg h]
theorem cnt_end {bs : List UInt8} {k : Nat} (h : (rune bs k).2 = 0) : cnt bs k = 0 := by rw [cnt, dif_pos h]
theorem cnt_on {bs : List UInt8} {k : Nat} (h : (rune bs k).2 ≠ 0) : cnt bs k = cnt bs (k + (rune bs k).2) + 1 := by rw [cnt, dif_neg h]

/-- A way to show something of all places that a walk comes to. -/
theorem walk_ind (bs : List UInt8) (C : Nat → Prop) (hend : ∀ k, (rune bs k).2 = 0 → C k) (hon : ∀ k, (rune bs k).2 ≠ 0 → 1 ≤ (rune bs k).2 → k + (rune bs k).2 ≤ bs.length → C (k + (rune bs k).2) → C k) : ∀ k, C k := by
  have key : ∀ n k, bs.length - k ≤ n → C k := by
    intro n
    induction n with
    | zero =>
      intro k hk
      exact hend k (by rw [rune_past bs k (by omega)])
    | succ n ih =>
      intro k hk
      by_cases h : (rune bs k).2 = 0
      · exact hend k h
      · rcases rune_cases bs k with e | ⟨e1, e2, e3, _⟩
        · exact absurd (by rw [e]) h
        · exact hon k h e1 e3 (ih _ (by omega))
  exact fun k => key _ k (Nat.le_refl _)

theorem stop_le (bs : List UInt8) : ∀ k, k ≤ stop bs k ∧ cnt bs k + k ≤ stop bs k ∧ (k ≤ bs.length → stop bs k ≤ bs.length) := by
  refine walk_ind bs _ ?_ ?_
  · intro k h
    rw [stop_end h, cnt_end h]
    omega
  · intro k h h1 h2 ih
    rw [stop_on h, cnt_on h]
    omega

/-- The bytes of a character. -/
def enc (r : Nat) : List UInt8 :=
  if r < 128 then [UInt8.ofNat r]
  else if r < 2048 then [UInt8.ofNat (192 + r / 64), UInt8.ofNat (128 + r % 64)]
  else if r < 65536 then [UInt8.ofNat (224 + r / 4096), UInt8.ofNat (128 + r / 64 % 64), UInt8.ofNat (128 + r % 64)]
  else [UInt8.ofNat (240 + r / 262144), UInt8.ofNat (128 + r / 4096 % 64), UInt8.ofNat (128 + r / 64 % 64), UInt8.ofNat (128 + r % 64)]
/-- Is a number a character? -/
def isRune (r : Int) : Bool := decide (0 ≤ r ∧ r ≤ 1114111 ∧ (r < 55296 ∨ 57343 < r))

theorem byt_nat (l : List UInt8) (k n : Nat) (h : l.getD k 0 = UInt8.ofNat n) (hn : n < 256) : byt l k = n := by
  unfold byt
  rw [h, UInt8.toNat_ofNat']
  exact Nat.mod_eq_of_lt hn

/-- What is put is told. -/
theorem rune_enc (r : Nat) (h1 : r ≤ 1114111) (h2 : r < 55296 ∨ 57343 < r) : rune (enc r) 0 = (r, (enc r).length) := by
  unfold enc
  split
  · rename_i c
    have b0 := byt_nat [UInt8.ofNat r] 0 r rfl (by omega)
    unfold rune
    rw [b0, if_neg (by simp), if_pos c]
    rfl
  split
  · rename_i c0 c1
    have b0 := byt_nat [UInt8.ofNat (192 + r / 64), UInt8.ofNat (128 + r % 64)] 0 _ rfl (by omega)
    have b1 := byt_nat [UInt8.ofNat (192 + r / 64), UInt8.ofNat (128 + r % 64)] 1 _ rfl (by omega)
    unfold rune
    rw [b0, if_neg (by simp), if_neg (by omega), if_neg (by omega), if_pos (by omega)]
    simp only [more]
    rw [b1, if_pos (by refine ⟨by simp, ?_, ?_⟩ <;> omega)]
    simp only [fin]
    rw [if_neg (by omega)]
    simp
    omega
  split
  · rename_i c0 c1 c2
    have b0 := byt_nat [UInt8.ofNat (224 + r / 4096), UInt8.ofNat (128 + r / 64 % 64), UInt8.ofNat (128 + r % 64)] 0 _ rfl (by omega)
    have b1 := byt_nat [UInt8.ofNat (224 + r / 4096), UInt8.ofNat (128 + r / 64 % 64), UInt8.ofNat (128 + r % 64)] 1 _ rfl (by omega)
    have b2 := byt_nat [UInt8.ofNat (224 + r / 4096), UInt8.ofNat (128 + r / 64 % 64), UInt8.ofNat (128 + r % 64)] 2 _ rfl (by omega)
    unfold rune
    rw [b0, if_neg (by simp), if_neg (by omega), if_neg (by omega), if_neg (by omega), if_pos (by omega)]
    simp only [more, Nat.zero_add, Nat.reduceAdd]
    rw [b1, if_pos (by refine ⟨by simp, ?_, ?_⟩ <;> omega), b2, if_pos (by refine ⟨by simp, ?_, ?_⟩ <;> omega)]
    simp only [fin]
    rw [if_neg (by omega)]
    simp
    omega
  · rename_i c0 c1 c2
    have b0 := byt_nat [UInt8.ofNat (240 + r / 262144), UInt8.ofNat (128 + r / 4096 % 64), UInt8.ofNat (128 + r / 64 % 64), UInt8.ofNat (128 + r % 64)] 0 _ rfl (by omega)
    have b1 := byt_nat [UInt8.ofNat (240 + r / 262144), UInt8.ofNat (128 + r / 4096 % 64), UInt8.ofNat (128 + r / 64 % 64), UInt8.ofNat (128 + r % 64)] 1 _ rfl (by omega)
    have b2 := byt_nat [UInt8.ofNat (240 + r / 262144), UInt8.ofNat (128 + r / 4096 % 64), UInt8.ofNat (128 + r / 64 % 64), UInt8.ofNat (128 + r % 64)] 2 _ rfl (by omega)
    have b3 := byt_nat [UInt8.ofNat (240 + r / 262144), UInt8.ofNat (128 + r / 4096 % 64), UInt8.ofNat (128 + r / 64 % 64), UInt8.ofNat (128 + r % 64)] 3 _ rfl (by omega)
    unfold rune
    rw [b0, if_neg (by simp), if_neg (by omega), if_neg (by omega), if_neg (by omega), if_neg (by omega), if_pos (by omega)]
    simp only [more, Nat.zero_add, Nat.reduceAdd]
    rw [b1, if_pos (by refine ⟨by simp, ?_, ?_⟩ <;> omega), b2, if_pos (by refine ⟨by simp, ?_, ?_⟩ <;> omega), b3, if_pos (by refine ⟨by simp, ?_, ?_⟩ <;> omega)]
    simp only [fin]
    rw [if_neg (by omega)]
    simp
    omega
theorem enc_length (r : Nat) : 1 ≤ (enc r).length ∧ (enc r).length ≤ 4 := by
  unfold enc
  repeat' split
  all_goals simp

/-- Bytes ahead. -/
theorem byt_ahead (a b : List UInt8) (k : Nat) : byt (a ++ b) (a.length + k) = byt b k := by
  simp only [byt, List.getD]
  rw [List.getElem?_append_right (by omega), Nat.add_sub_cancel_left]
theorem more_ahead (a b : List UInt8) : ∀ j p v, more (a ++ b) j (a.length + p) v = more b j p v := by
  intro j
  induction j with
  | zero => intro p v; rfl
  | succ j ih =>
    intro p v
    rw [more, more, byt_ahead, Nat.add_assoc, ih]
    simp
theorem rune_ahead (a b : List UInt8) (k : Nat) : rune (a ++ b) (a.length + k) = rune b k := by
  unfold rune
  rw [byt_ahead]
  simp only [Nat.add_assoc, more_ahead]
  simp
/-- Bytes behind. -/
theorem byt_behind (a b : List UInt8) (k : Nat) (h : k < a.length) : byt (a ++ b) k = byt a k := by
  simp only [byt, List.getD]
  rw [List.getElem?_append_left h]
theorem more_behind (a b : List UInt8) : ∀ j p v r, more a j p v = some r → more (a ++ b) j p v = some r := by
  intro j
  induction j with
  | zero => intro p v r h; exact h
  | succ j ih =>
    intro p v r h
    rw [more] at h
    split at h
    · rename_i c
      rw [more, byt_behind a b p c.1, if_pos ⟨by simp; omega, c.2⟩]
      exact ih _ _ _ h
    · cases h
theorem fin_behind {a b : List UInt8} {least n j p v : Nat} (h : (fin least n (more a j p v)).2 ≠ 0) : fin least n (more (a ++ b) j p v) = fin least n (more a j p v) := by
  cases hm : more a j p v with
  | none => rw [hm] at h; exact absurd rfl h
  | some r => rw [more_behind a b _ _ _ _ hm]
theorem rune_behind (a b : List UInt8) (k : Nat) (h : (rune a k).2 ≠ 0) : rune (a ++ b) k = rune a k := by
  have hk : k < a.length := by
    rcases Nat.lt_or_ge k a.length with hl | hg
    · exact hl
    · rw [rune_past a k hg] at h; exact absurd rfl h
  have hk' : ¬ (a ++ b).length ≤ k := by simp; omega
  have hn : ¬ a.length ≤ k := by omega
  unfold rune at h ⊢
  rw [byt_behind a b k hk, if_neg hk', if_neg hn]
  rw [if_neg hn] at h
  generalize byt a k = c at h ⊢
  by_cases c1 : c < 128
  · rw [if_pos c1, if_pos c1]
  rw [if_neg c1] at h ⊢
  rw [if_neg c1]
  by_cases c2 : c < 192
  · rw [if_pos c2, if_pos c2]
  rw [if_neg c2] at h ⊢
  rw [if_neg c2]
  by_cases c3 : c < 224
  · rw [if_pos c3] at h ⊢
    rw [if_pos c3]
    exact fin_behind h
  rw [if_neg c3] at h ⊢
  rw [if_neg c3]
  by_cases c4 : c < 240
  · rw [if_pos c4] at h ⊢
    rw [if_pos c4]
    exact fin_behind h
  rw [if_neg c4] at h ⊢
  rw [if_neg c4]
  by_cases c5 : c < 248
  · rw [if_pos c5] at h ⊢
    rw [if_pos c5]
    exact fin_behind h
  rw [if_neg c5, if_neg c5]

theorem walk_ahead (a b : List UInt8) : ∀ k, stop (a ++ b) (a.length + k) = a.length + stop b k ∧ cnt (a ++ b) (a.length + k) = cnt b k := by
  refine walk_ind b _ ?_ ?_
  · intro k h
    have h' : (rune (a ++ b) (a.length + k)).2 = 0 := by rw [rune_ahead]; exact h
    rw [stop_end h, stop_end h', cnt_end h, cnt_end h']
    exact ⟨rfl, rfl⟩
  · intro k h _ _ ih
    have h' : (rune (a ++ b) (a.length + k)).2 ≠ 0 := by rw [rune_ahead]; exact h
    rw [stop_on h, stop_on h', cnt_on h, cnt_on h', rune_ahead, Nat.add_assoc]
    exact ⟨ih.1, by rw [ih.2]⟩
theorem walk_join (a b : List UInt8) : ∀ k, stop a k = a.length → stop (a ++ b) k = a.length + stop b 0 ∧ cnt (a ++ b) k = cnt a k + cnt b 0 := by
  refine walk_ind a _ ?_ ?_
  · intro k h hs
    rw [stop_end h] at hs
    subst hs
    have := walk_ahead a b 0
    rw [Nat.add_zero] at this
    rw [this.1, this.2, cnt_end h]
    omega
  · intro k h _ _ ih hs
    rw [stop_on h] at hs
    have h' : (rune (a ++ b) k).2 ≠ 0 := by rw [rune_behind a b k h]; exact h
    have i := ih hs
    rw [stop_on h', cnt_on h', rune_behind a b k h, i.1, i.2, cnt_on h]
    omega

/-- Characters one behind the other. -/
def encs : List Nat → List UInt8
  | [] => []
  | r :: l => enc r ++ encs l
def AllRunes (l : List Nat) : Prop := ∀ r ∈ l, r ≤ 1114111 ∧ (r < 55296 ∨ 57343 < r)
theorem encs_snoc (l : List Nat) (r : Nat) : encs (l ++ [r]) = encs l ++ enc r := by
  induction l with
  | nil => simp [encs]
  | cons x l ih => simp [encs, ih]
theorem encs_length (l : List Nat) : (encs l).length ≤ 4 * l.length := by
  induction l with
  | nil => simp [encs]
  | cons x l ih =>
    have := enc_length x
    simp [encs]
    omega
theorem stop_enc (r : Nat) (h1 : r ≤ 1114111) (h2 : r < 55296 ∨ 57343 < r) : stop (enc r) 0 = (enc r).length ∧ cnt (enc r) 0 = 1 := by
  have e := rune_enc r h1 h2
  have hl := enc_length r
  have h : (rune (enc r) 0).2 ≠ 0 := by rw [e]; show (enc r).length ≠ 0; omega
  have h' : (rune (enc r) (0 + (enc r).length)).2 = 0 := by rw [Nat.zero_add, rune_past _ _ (Nat.le_refl _)]
  rw [stop_on h, cnt_on h, e, stop_end h', cnt_end h']
  simp
theorem stop_encs (l : List Nat) (h : AllRunes l) : stop (encs l) 0 = (encs l).length ∧ cnt (encs l) 0 = l.length := by
  induction l with
  | nil =>
    have h' : (rune (encs []) 0).2 = 0 := by rw [rune_past _ _ (by simp [encs])]
    rw [stop_end h', cnt_end h']
    exact ⟨rfl, rfl⟩
  | cons r l ih =>
    have hr := h r (List.mem_cons_self ..)
    have i := ih (fun x hx => h x (List.mem_cons_of_mem _ hx))
    have s := stop_enc r hr.1 hr.2
    have j := walk_join (enc r) (encs l) 0 s.1
    simp only [encs]
    rw [j.1, j.2, i.1, i.2, s.2]
    simp
    omega
/-- The one behind the first m of them. -/
theorem rune_encs (l : List Nat) (h : AllRunes l) (m : Nat) (hm : m < l.length) : rune (encs l) (encs (l.take m)).length = (l.getD m 0, (enc (l.getD m 0)).length) ∧
    (encs (l.take (m + 1))).length = (encs (l.take m)).length + (enc (l.getD m 0)).length := by
  have e : l = l.take m ++ (l.getD m 0 :: l.drop (m + 1)) := by
    rw [List.getD, List.getElem?_eq_getElem hm]
    simp
  have hr := h (l.getD m 0) (by simp [List.getD, hm])
  have he : encs l = encs (l.take m) ++ (enc (l.getD m 0) ++ encs (l.drop (m + 1))) := by
    have : ∀ a b : List Nat, encs (a ++ b) = encs a ++ encs b := by
      intro a b
      induction a with
      | nil => simp [encs]
      | cons x a ih => simp [encs, ih]
    conv => lhs; rw [e]
    rw [this]
    rfl
  constructor
  · have hb := rune_behind (enc (l.getD m 0)) (encs (l.drop (m + 1))) 0 (by rw [rune_enc _ hr.1 hr.2]; have := enc_length (l.getD m 0); show (enc (l.getD m 0)).length ≠ 0; omega)
    have ha := rune_ahead (encs (l.take m)) (enc (l.getD m 0) ++ encs (l.drop (m + 1))) 0
    rw [he, ← Nat.add_zero (encs (l.take m)).length, ha, hb, rune_enc _ hr.1 hr.2]
  · have : l.take (m + 1) = l.take m ++ [l.getD m 0] := by
      rw [List.take_succ_eq_append_getElem hm]
      simp [List.getD, hm]
    rw [this, encs_snoc, List.length_append]

end Go.Proofs.YtfpocpmcoobjkaaDoor
