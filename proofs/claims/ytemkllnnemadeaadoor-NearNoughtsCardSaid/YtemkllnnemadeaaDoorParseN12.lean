/-
  What the document's ParseNear answers: by its Lexeme and its Read. No condition but the text's length and what Lexeme answers.
-/
import Derived.Test.YtemkllnnemadeaaDoorRefRead12
import Derived.Test.YtemkllnnemadeaaDoorLexMath
import Derived.Deep.DeepCutAuto
namespace Go.Proofs.YtemkllnnemadeaaDoor
open Go.RowKit

/-- What a number of JSON is made of: its sign, its digits ahead of the point, those behind it, its exponent. -/
def JN (s : List UInt8) (neg : Bool) (ip fp : List UInt8) (E : Int) : Prop :=
  ∃ fr ex : List UInt8, s = (if neg then [45] else []) ++ (ip ++ (fr ++ ex)) ∧ digs ip = true ∧ ((fr = [] ∧ fp = []) ∨ (fr = 46 :: fp ∧ digs fp = true)) ∧
    ((ex = [] ∧ E = 0) ∨ ∃ (c : UInt8) (pl x : List UInt8), ex = c :: (pl ++ x) ∧ isE c = true ∧ (pl = [] ∨ pl = [43] ∨ pl = [45]) ∧ digs x = true ∧ E = if pl = [45] then -(nd x : Int) else (nd x : Int))

theorem unsign_split (x : List UInt8) : ∃ pl : List UInt8, x = pl ++ unsign x ∧ (pl = [] ∨ pl = [43] ∨ pl = [45]) := by
  cases x with
  | nil => exact ⟨[], rfl, .inl rfl⟩
  | cons c t =>
    by_cases h : c = 43
    · subst h; exact ⟨[43], rfl, .inr (.inl rfl)⟩
    · by_cases h2 : c = 45
      · subst h2; exact ⟨[45], rfl, .inr (.inr rfl)⟩
      · exact ⟨[], by simp [unsign, h, h2], .inl rfl⟩

theorem lexU_small (u : List UInt8) : lexU u = 0 ∨ lexU u = 1 ∨ lexU u = 2 := by
  unfold lexU
  split
  · exact .inl rfl
  · split
    · exact .inl rfl
    · split
      · exact .inl rfl
      · split
        · exact .inr (.inr rfl)
        · exact .inr (.inl rfl)

/-- A text that is a number of JSON is made of these. -/
theorem jn_of {s : List UInt8} (h : lexP s ≠ 0) : ∃ neg ip fp E, JN s neg ip fp E := by
  rw [lexP_trim] at h
  have hs : ∃ neg : Bool, s = (if neg then [45] else []) ++ trim s := by
    cases s with
    | nil => exact ⟨false, rfl⟩
    | cons c t =>
      by_cases hc : c = 45
      · subst hc; exact ⟨true, by simp [trim]⟩
      · exact ⟨false, by simp [trim, hc]⟩
  obtain ⟨neg, hs⟩ := hs
  generalize trim s = u at *
  have hexp : ∀ (c : UInt8) (x : List UInt8), isE c = true → digs (unsign x) = true → ∃ E, ∃ (c' : UInt8) (pl y : List UInt8), c :: x = c' :: (pl ++ y) ∧ isE c' = true ∧ (pl = [] ∨ pl = [43] ∨ pl = [45]) ∧ digs y = true ∧ E = if pl = [45] then -(nd y : Int) else (nd y : Int) := by
    intro c x hc hx
    obtain ⟨pl, h1, h2⟩ := unsign_split x
    exact ⟨_, c, pl, unsign x, by rw [← h1], hc, h2, hx, rfl⟩
  rcases lexU_small u with h0 | h0 | h0
  · exact absurd h0 h
  · exact ⟨neg, u, [], 0, [], [], by rw [hs]; simp, plain_digs (lexU_one h0), .inl ⟨rfl, rfl⟩, .inl ⟨rfl, rfl⟩⟩
  · obtain ⟨o, t, hu, ho, ht⟩ := lexU_two h0
    rcases ht with ⟨p, rfl, hp⟩ | ⟨c, x, rfl, hc, hx⟩ | ⟨p, c, x, rfl, hp, hc, hx⟩
    · exact ⟨neg, o, p, 0, 46 :: p, [], by rw [hs, hu]; simp, plain_digs ho, .inr ⟨rfl, hp⟩, .inl ⟨rfl, rfl⟩⟩
    · obtain ⟨E, hE⟩ := hexp c x hc hx
      exact ⟨neg, o, [], E, [], c :: x, by rw [hs, hu]; simp, plain_digs ho, .inl ⟨rfl, rfl⟩, .inr hE⟩
    · obtain ⟨E, hE⟩ := hexp c x hc hx
      exact ⟨neg, o, p, E, 46 :: p, c :: x, by rw [hs, hu]; first | done | simp, plain_digs ho, .inr ⟨rfl, hp⟩, .inr hE⟩

theorem digs_Dgs {l : List UInt8} (h : digs l = true) : Dgs l := fun c hc => by
  have := (digs_iff.1 h).1 c hc
  unfold isD12
  simpa [isD] using this

set_option maxHeartbeats 1000000 in
theorem parseN_form (s : List UInt8) (w : World) (cL : Hid (∀ w, Calls Tryd.prog 25 #[.string ⟨s.toArray⟩] w fun x w' => x = .returned (.int .i64 0) ∧ Below w.heap.size w w')) :
    Calls Tryd.prog 12 #[.string ⟨s.toArray⟩] w fun r w' => r = .returned (.tuple #[.int .u64 0, .int .i64 3]) ∧ Below w.heap.size w w' := by
  go_enter Tryd.func12, Tryd.ntmps12
  go_wp2_with fail
  refine (cL.out _).mono ?_
  rintro r w1 ⟨rfl, hB⟩
  have HB := Lib.hid hB
  clear hB
  go_wp2_with fail
  go_ret2
  exact ⟨rfl, HB.out⟩

set_option maxHeartbeats 1000000 in
theorem parseN_long (s : List UInt8) (k : Int) (w : World) (hk : (k == 0) = false) (hs : 300 < s.length) (cL : Hid (∀ w, Calls Tryd.prog 25 #[.string ⟨s.toArray⟩] w fun x w' => x = .returned (.int .i64 k) ∧ Below w.heap.size w w')) :
    Calls Tryd.prog 12 #[.string ⟨s.toArray⟩] w fun r w' => r = .returned (.tuple #[.int .u64 0, .int .i64 10]) ∧ Below w.heap.size w w' := by
  have d1 : decide (300 < (s.length : Int)) = true := by simp; omega
  have d1n : decide (300 < s.length) = true := by simp; omega
  clear hs
  go_enter Tryd.func12, Tryd.ntmps12
  go_wp2_with fail
  refine (cL.out _).mono ?_
  rintro r w1 ⟨rfl, hB⟩
  have HB := Lib.hid hB
  clear hB
  go_wp2_with fail
  go_ret2
  exact ⟨rfl, HB.out⟩

theorem near_move {l : List UInt8} {x y : Int} {p : Nat} (hd : Dgs l) (hl : l.length ≤ 300) (h : (3000 ≤ x ∧ 3000 ≤ y) ∨ (x < -400 ∧ y < -400)) (hp : NearIs (dA l x) (dB l x) p) : NearIs (dA l y) (dB l y) p := by
  rcases h with ⟨h1, h2⟩ | ⟨h1, h2⟩
  · by_cases h0 : nd l = 0
    · rw [dA_zero h0] at hp
      rw [dA_zero h0]
      exact near_same (dB_pos _ _) (dB_pos _ _) (by rw [Nat.zero_mul, Nat.zero_mul]) hp
    · have e := near_one (dB_pos _ _) hp (big_up h0 hl h1)
      rw [e]
      exact big_up h0 hl h2
  · have e := near_one (dB_pos _ _) hp (far_dn hd h1)
    rw [e]
    exact far_dn hd h2

theorem cat_s12 (u v : List UInt8) : (⟨u.toArray⟩ : ByteArray) ++ (⟨v.toArray⟩ : ByteArray) = ⟨(u ++ v).toArray⟩ := by
  apply ByteArray.ext
  simp [ByteArray.data_append]
theorem part_s12 (s : List UInt8) (a b : Nat) (i j : Int) (hi : i = (a : Int)) (hj : j = (b : Int)) (hab : a ≤ b) (hb : b ≤ s.length) (w : World) :
    (Instr.slice 9 (.string ⟨s.toArray⟩) (some (.int .i64 i)) (some (.int .i64 j)) none).run Tryd.prog w = .ok (.string ⟨((s.drop a).take (b - a)).toArray⟩) w := by
  subst hi hj
  rw [run_slice_string w _ _ .i64 .i64 (a : Int) (b : Int) Tryd.underlying9 (by omega) (by omega) (by simp [ByteArray.size]; omega), Lib.extract_eq]
  simp

/-- What stands at a place behind a front. -/
theorem get_front {a b : List UInt8} {i : Nat} (h : i < a.length) : (a ++ b).getD i 0 = a.getD i 0 := by
  rw [List.getD_eq_getElem?_getD, List.getElem?_append_left h, List.getD_eq_getElem?_getD]
theorem get_behind {a b : List UInt8} {i j : Nat} (h : i = a.length + j) : (a ++ b).getD i 0 = b.getD j 0 := by
  subst h
  rw [List.getD_eq_getElem?_getD, List.getElem?_append_right (by omega), List.getD_eq_getElem?_getD]
  congr 2
  omega
theorem digs_at {l : List UInt8} {i : Nat} (h : digs l = true) (hi : i < l.length) : 48 ≤ (l.getD i 0).toNat ∧ (l.getD i 0).toNat ≤ 57 := by
  have e : l.getD i 0 = l[i] := by simp [List.getD, hi]
  rw [e]
  have := (digs_iff.1 h).1 _ (List.getElem_mem hi)
  simpa [isD] using this
theorem isE_range {c : UInt8} (h : isE c = true) : 57 < c.toNat ∧ ((c.toNat : Int) == 46) = false ∧ 48 ≤ c.toNat := by
  simp only [isE, Bool.or_eq_true, beq_iff_eq] at h
  rcases h with rfl | rfl <;> decide

/-- The exponent's digits, as far as they were read; none beyond 10000. -/
def ce (l : List UInt8) : Nat := min (nd (l.filter isD)) 10000
theorem ce_digit {q : List UInt8} {c : UInt8} (h : isD c = true) : ce (q ++ [c]) = min (ce q * 10 + dv c) 10000 := by
  unfold ce
  have e : (q ++ [c]).filter isD = q.filter isD ++ [c] := by rw [List.filter_append]; simp [h]
  rw [e, nd_snoc]
  generalize nd (q.filter isD) = a
  omega
theorem ce_other {q : List UInt8} {c : UInt8} (h : isD c = false) : ce (q ++ [c]) = ce q := by
  unfold ce
  have e : (q ++ [c]).filter isD = q.filter isD := by rw [List.filter_append]; simp [h]
  rw [e]
theorem ce_all {pl x : List UInt8} (hp : pl = [] ∨ pl = [43] ∨ pl = [45]) (hx : digs x = true) : ce (pl ++ x) = min (nd x) 10000 := by
  unfold ce
  have e1 : pl.filter isD = [] := by rcases hp with rfl | rfl | rfl <;> decide
  have e2 : x.filter isD = x := List.filter_eq_self.2 (digs_iff.1 hx).1
  rw [List.filter_append, e1, e2, List.nil_append]

/-- What ParseNear answers of a pattern. -/
def pnP (neg : Bool) (p : Nat) : Nat := if p = 9218868437227405312 then 0 else pat neg p
def pnE (p : Nat) : Int := if p = 9218868437227405312 then 10 else 0

end Go.Proofs.YtemkllnnemadeaaDoor
