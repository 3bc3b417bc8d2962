/-
  Bytes as hexadecimal digits, as plain mathematics; no program, no condition beyond what each lemma asks.
-/
import Derived.Test.YtkdbonghmjejcaaBase
namespace Go.Proofs.Ytkdbonghmjejcaa

/-- The digit of a number below 16. -/
def dig (n : Nat) : UInt8 := if n < 10 then UInt8.ofNat (48 + n) else UInt8.ofNat (87 + n)
/-- The two digits of a byte. -/
def two (b : UInt8) : List UInt8 := [dig (b.toNat / 16), dig (b.toNat % 16)]
/-- The digits of bytes. -/
def hex : List UInt8 → List UInt8
  | [] => []
  | b :: r => two b ++ hex r
/-- A digit's number; 16 of what is none. -/
def val (c : UInt8) : Nat :=
  if 48 ≤ c.toNat ∧ c.toNat ≤ 57 then c.toNat - 48
  else if 97 ≤ c.toNat ∧ c.toNat ≤ 102 then c.toNat - 87
  else if 65 ≤ c.toNat ∧ c.toNat ≤ 70 then c.toNat - 55 else 16
/-- The bytes whose digits these are. -/
def unhex : List UInt8 → Option (List UInt8)
  | [] => some []
  | [_] => none
  | a :: b :: r => if val a < 16 ∧ val b < 16 then (unhex r).map (UInt8.ofNat (val a * 16 + val b) :: ·) else none

theorem hex_length (l : List UInt8) : (hex l).length = 2 * l.length := by
  induction l with
  | nil => rfl
  | cons b r ih => simp [hex, two, ih]; omega
theorem hex_append (a b : List UInt8) : hex (a ++ b) = hex a ++ hex b := by
  induction a with
  | nil => rfl
  | cons x r ih => simp [hex, ih]
theorem hex_snoc (a : List UInt8) (x : UInt8) : hex (a ++ [x]) = hex a ++ [dig (x.toNat / 16), dig (x.toNat % 16)] := by
  rw [hex_append]
  simp [hex, two]
theorem val_le (c : UInt8) : val c ≤ 16 := by
  unfold val
  split
  · omega
  · split
    · omega
    · split <;> omega
theorem val_dig (n : Nat) (h : n < 16) : val (dig n) = n := by
  have : ∀ n, n < 16 → val (dig n) = n := by decide
  exact this n h
/-- A small letter as a great one. -/
def great (c : UInt8) : UInt8 := if 97 ≤ c.toNat ∧ c.toNat ≤ 102 then UInt8.ofNat (c.toNat - 32) else c
theorem val_great_dig (n : Nat) (h : n < 16) : val (great (dig n)) = n := by
  have : ∀ n, n < 16 → val (great (dig n)) = n := by decide
  exact this n h
theorem byte_of_parts (b : UInt8) : UInt8.ofNat (b.toNat / 16 * 16 + b.toNat % 16) = b := by
  rw [show b.toNat / 16 * 16 + b.toNat % 16 = b.toNat by omega]
  exact UInt8.ofNat_toNat
theorem unhex_hex (l : List UInt8) : unhex (hex l) = some l := by
  induction l with
  | nil => rfl
  | cons b r ih =>
    have hb : b.toNat < 256 := b.toNat_lt
    simp only [hex, two, List.cons_append, List.nil_append, unhex]
    rw [val_dig _ (by omega), val_dig _ (by omega), if_pos ⟨by omega, by omega⟩, ih, byte_of_parts]
    rfl
theorem unhex_great (l : List UInt8) : unhex ((hex l).map great) = some l := by
  induction l with
  | nil => rfl
  | cons b r ih =>
    have hb : b.toNat < 256 := b.toNat_lt
    simp only [hex, two, List.cons_append, List.nil_append, List.map_cons, unhex]
    rw [val_great_dig _ (by omega), val_great_dig _ (by omega), if_pos ⟨by omega, by omega⟩, ih, byte_of_parts]
    rfl
theorem unhex_odd : (l : List UInt8) → l.length % 2 = 1 → unhex l = none
  | [], h => by simp at h
  | [_], _ => rfl
  | a :: b :: r, h => by
    have := unhex_odd r (by simp at h; omega)
    simp [unhex, this]
/-- All of them are digits. -/
def AllDig (l : List UInt8) : Prop := ∀ c ∈ l, val c < 16
theorem unhex_some : (l : List UInt8) → l.length % 2 = 0 → AllDig l → ∃ m, unhex l = some m ∧ 2 * m.length = l.length
  | [], _, _ => ⟨[], rfl, rfl⟩
  | [_], h, _ => by simp at h
  | a :: b :: r, h, ha => by
    obtain ⟨m, hm, hl⟩ := unhex_some r (by simp at h; omega) (fun c hc => ha c (by simp [hc]))
    refine ⟨UInt8.ofNat (val a * 16 + val b) :: m, ?_, by simp; omega⟩
    rw [unhex, if_pos ⟨ha a (by simp), ha b (by simp)⟩, hm]
    rfl
theorem unhex_none : (l : List UInt8) → (∃ c ∈ l, ¬ val c < 16) → unhex l = none
  | [], h => by obtain ⟨c, hc, _⟩ := h; simp at hc
  | [_], _ => rfl
  | a :: b :: r, h => by
    rw [unhex]
    by_cases hab : val a < 16 ∧ val b < 16
    · rw [if_pos hab, unhex_none r ?_]
      · rfl
      · obtain ⟨c, hc, hv⟩ := h
        refine ⟨c, ?_, hv⟩
        rcases List.mem_cons.1 hc with rfl | hc
        · exact absurd hab.1 hv
        · rcases List.mem_cons.1 hc with rfl | hc
          · exact absurd hab.2 hv
          · exact hc
    · rw [if_neg hab]
/-- What is read of a text, a pair of digits at a time: the bytes of the pairs up to the k-th, and what the rest says. -/
theorem unhex_at (l : List UInt8) (k : Nat) (h : 2 * k + 2 ≤ l.length) :
    unhex (l.drop (2 * k)) = if val (l.getD (2 * k) 0) < 16 ∧ val (l.getD (2 * k + 1) 0) < 16 then (unhex (l.drop (2 * (k + 1)))).map (UInt8.ofNat (val (l.getD (2 * k) 0) * 16 + val (l.getD (2 * k + 1) 0)) :: ·) else none := by
  have e : l.drop (2 * k) = l.getD (2 * k) 0 :: l.getD (2 * k + 1) 0 :: l.drop (2 * (k + 1)) := by
    rw [List.drop_eq_getElem_cons (by omega), List.drop_eq_getElem_cons (by omega : 2 * k + 1 < l.length)]
    simp [List.getD, show 2 * k < l.length by omega, show 2 * k + 1 < l.length by omega, show 2 * (k + 1) = 2 * k + 1 + 1 by omega]
  rw [e, unhex]

theorem hex_dig (l : List UInt8) : AllDig (hex l) := by
  induction l with
  | nil => intro c hc; simp [hex] at hc
  | cons b r ih =>
    have hb : b.toNat < 256 := b.toNat_lt
    intro c hc
    simp only [hex, two, List.cons_append, List.nil_append, List.mem_cons] at hc
    rcases hc with rfl | rfl | hc
    · rw [val_dig _ (by omega)]; omega
    · rw [val_dig _ (by omega)]; omega
    · exact ih c hc

end Go.Proofs.Ytkdbonghmjejcaa
