/-
  How the document's Parse goes through a text: the mathematics of its two loops; no condition beyond what each lemma asks.
-/
import Derived.Test.YtbfneeggfaoeaaaDoorFaultD
import Derived.Lib.Strings
namespace Go.Proofs.YtbfneeggfaoeaaaDoor
open Go.RowKit

theorem drop_at {s : List UInt8} {k : Nat} (h : k < s.length) : s.drop k = s.getD k 0 :: s.drop (k + 1) := by
  rw [List.drop_eq_getElem_cons h]
  simp [List.getD, h]
theorem take_at {s : List UInt8} {k : Nat} (h : k < s.length) : s.take (k + 1) = s.take k ++ [s.getD k 0] := by
  rw [List.take_add_one, List.getElem?_eq_getElem h]
  simp [List.getD, h]
theorem at_mid {s : List UInt8} {k : Nat} (h : k < s.length) : s = s.take k ++ s.getD k 0 :: s.drop (k + 1) := by
  rw [← drop_at h, List.take_append_drop]
theorem found_cut {s : List UInt8} {k : Nat} (hk : k < s.length) (hno : (64 : UInt8) ∉ s.take k) (hc : s.getD k 0 = 64) : cutAt 64 s = (s.take k, s.drop (k + 1), true) := by
  have h := at_mid hk
  rw [hc] at h
  conv => lhs; rw [h]
  exact cutAt_of hno
theorem no_step {c : UInt8} {s : List UInt8} {k : Nat} (hk : k < s.length) (hno : c ∉ s.take k) (hc : s.getD k 0 ≠ c) : c ∉ s.take (k + 1) := by
  rw [take_at hk, List.mem_append, List.mem_singleton]
  rintro (h | h)
  · exact hno h
  · exact hc h.symm
theorem split_here {t : List UInt8} {j : Nat} (hj : j < t.length) (hno : (47 : UInt8) ∉ t.take j) (hc : t.getD j 0 = 47) : split 47 t = t.take j :: split 47 (t.drop (j + 1)) := by
  have h := at_mid hj
  rw [hc] at h
  conv => lhs; rw [h]
  exact split_two hno
theorem drop_getD (s : List UInt8) (f j : Nat) : (s.drop f).getD j 0 = s.getD (f + j) 0 := by
  simp [List.getD, List.getElem?_drop]

/-! ### The first loop: where the pieces are -/
/-- Behind i signs: no @ yet; or one at k, with the pieces ps, and the next one from f on. -/
def Cuts (s : List UInt8) (i : Nat) (name from_ : Int) (ps : List (List UInt8)) : Prop :=
  (name = -1 ∧ from_ = 0 ∧ ps = [] ∧ (64 : UInt8) ∉ s.take i) ∨
  ∃ k f : Nat, name = (k : Int) ∧ from_ = (f : Int) ∧ k < s.length ∧ f ≤ s.length + 1 ∧ cutAt 64 s = (s.take k, s.drop (k + 1), true) ∧
    ((i ≤ s.length ∧ f ≤ i ∧ ps ++ split 47 (s.drop f) = split 47 (s.drop (k + 1)) ∧ (47 : UInt8) ∉ (s.drop f).take (i - f)) ∨ (i = s.length + 1 ∧ ps = split 47 (s.drop (k + 1))))
theorem Cuts.start (s : List UInt8) : Cuts s 0 (-1) 0 [] := .inl ⟨rfl, rfl, rfl, by simp⟩
/-- At an @ that is the first. -/
theorem Cuts.hit {s : List UInt8} {i : Nat} {f : Int} {ps : List (List UInt8)} (h : Cuts s i (-1) f ps) (hi : i < s.length) (hc : s.getD i 0 = 64) : ps = [] ∧ Cuts s (i + 1) (i : Int) ((i : Int) + 1) ps := by
  rcases h with ⟨_, _, rfl, h4⟩ | ⟨k, _, h1, _⟩
  · exact ⟨rfl, .inr ⟨i, i + 1, rfl, by omega, hi, by omega, found_cut hi h4 hc, .inl ⟨by omega, by omega, by simp, by simp⟩⟩⟩
  · omega
theorem Cuts.miss {s : List UInt8} {i : Nat} {f : Int} {ps : List (List UInt8)} (h : Cuts s i (-1) f ps) (hc : i < s.length → s.getD i 0 ≠ 64) : Cuts s (i + 1) (-1) f ps := by
  rcases h with ⟨_, h2, h3, h4⟩ | ⟨k, _, h1, _⟩
  · refine .inl ⟨rfl, h2, h3, ?_⟩
    by_cases hi : i < s.length
    · exact no_step hi h4 (hc hi)
    · rw [List.take_of_length_le (by omega)] at h4 ⊢
      exact h4
  · omega
theorem Cuts.lay {s : List UInt8} {i k f : Nat} {ps : List (List UInt8)} (h : Cuts s i (k : Int) (f : Int) ps) (hi : i ≤ s.length) (hc : i < s.length → s.getD i 0 = 47) :
    f ≤ i ∧ Cuts s (i + 1) (k : Int) ((i : Int) + 1) (ps ++ [(s.drop f).take (i - f)]) := by
  rcases h with ⟨h1, _⟩ | ⟨k', f', h1, h2, h3, h4, h5, h6 | h6⟩
  · omega
  · obtain rfl : k' = k := by omega
    obtain rfl : f' = f := by omega
    obtain ⟨_, hf, hp, hno⟩ := h6
    refine ⟨hf, .inr ⟨k', i + 1, rfl, by omega, h3, by omega, h5, ?_⟩⟩
    by_cases hl : i < s.length
    · have hs := split_here (t := s.drop f') (j := i - f') (by simp; omega) hno (by rw [drop_getD, show f' + (i - f') = i by omega]; exact hc hl)
      rw [hs, List.drop_drop, show f' + (i - f' + 1) = i + 1 by omega] at hp
      refine .inl ⟨by omega, by omega, by rw [← hp]; simp, by simp⟩
    · obtain rfl : i = s.length := by omega
      rw [List.take_of_length_le (by simp)] at hno ⊢
      rw [split_one hno] at hp
      exact .inr ⟨rfl, hp⟩
  · omega
theorem Cuts.on {s : List UInt8} {i k f : Nat} {ps : List (List UInt8)} (h : Cuts s i (k : Int) (f : Int) ps) (hi : i < s.length) (hc : s.getD i 0 ≠ 47) : Cuts s (i + 1) (k : Int) (f : Int) ps := by
  rcases h with ⟨h1, _⟩ | ⟨k', f', h1, h2, h3, h4, h5, h6 | h6⟩
  · omega
  · obtain rfl : k' = k := by omega
    obtain rfl : f' = f := by omega
    obtain ⟨_, hf, hp, hno⟩ := h6
    refine .inr ⟨k', f', rfl, rfl, h3, h4, h5, .inl ⟨by omega, by omega, hp, ?_⟩⟩
    rw [show i + 1 - f' = i - f' + 1 by omega]
    exact no_step (by simp; omega) hno (by rw [drop_getD, show f' + (i - f') = i by omega]; exact hc)
  · omega
theorem Cuts.end_none {s : List UInt8} {f : Int} {ps : List (List UInt8)} (h : Cuts s (s.length + 1) (-1) f ps) : parseOf s = none := by
  rcases h with ⟨_, _, _, h4⟩ | ⟨k, _, h1, _⟩
  · rw [List.take_of_length_le (by omega)] at h4
    exact parseOf_miss (by rw [cutAt_none h4])
  · omega
theorem Cuts.end_some {s : List UInt8} {k : Nat} {f : Int} {ps : List (List UInt8)} (h : Cuts s (s.length + 1) (k : Int) f ps) : k < s.length ∧ cutAt 64 s = (s.take k, s.drop (k + 1), true) ∧ ps = split 47 (s.drop (k + 1)) := by
  rcases h with ⟨h1, _⟩ | ⟨k', f', h1, h2, h3, h4, h5, h6 | h6⟩
  · omega
  · omega
  · obtain rfl : k' = k := by omega
    exact ⟨h3, h5, h6.2⟩
theorem Cuts.name {s : List UInt8} {i : Nat} {n f : Int} {ps : List (List UInt8)} (h : Cuts s i n f ps) : n = -1 ∨ ∃ k g : Nat, n = (k : Int) ∧ f = (g : Int) ∧ k < s.length ∧ g ≤ s.length + 1 := by
  rcases h with ⟨h1, _⟩ | ⟨k', f', h1, h2, h3, h4, _⟩
  · exact .inl h1
  · exact .inr ⟨k', f', h1, h2, h3, h4⟩

/-! ### The second loop: the numbers -/
def val (p : List UInt8) : Nat := (numOf p).getD 0
theorem nums_all {ps : List (List UInt8)} (h : ps.all (fun p => (numOf p).isSome) = true) : nums ps = some (ps.map val) := by
  induction ps with
  | nil => rfl
  | cons p ps ih =>
    rw [List.all_cons, Bool.and_eq_true] at h
    obtain ⟨n, hn⟩ := Option.isSome_iff_exists.1 h.1
    simp only [nums, hn, ih h.2, List.map_cons, val, Option.getD_some]
theorem nums_bad {ps : List (List UInt8)} (h : ps.all (fun p => (numOf p).isSome) = false) : nums ps = none := by
  cases hn : nums ps with
  | none => rfl
  | some l =>
    exfalso
    induction ps generalizing l with
    | nil => simp at h
    | cons p ps ih =>
      simp only [nums] at hn
      split at hn
      · rename_i n l' h1 h2
        rw [List.all_cons, h1, Option.isSome_some, Bool.true_and] at h
        exact ih h l' h2
      · cases hn
/-- What is told in the end. -/
theorem parse_end {s : List UInt8} {k : Nat} {ps : List (List UInt8)} (h1 : cutAt 64 s = (s.take k, s.drop (k + 1), true)) (h2 : ps = split 47 (s.drop (k + 1))) :
    parseOf s = if ((codeOf (s.take k)).isSome && ps.all (fun p => (numOf p).isSome)) = true then some ((codeOf (s.take k)).getD 0, (ps.map val).headD 0, (ps.map val).tail) else none := by
  unfold parseOf
  rw [h1]
  simp only
  rw [← h2]
  cases hc : codeOf (s.take k) with
  | none => simp
  | some e =>
    cases ha : ps.all (fun p => (numOf p).isSome) with
    | false =>
      rw [nums_bad ha]
      simp
    | true =>
      rw [nums_all ha]
      cases hp : ps with
      | nil => rw [hp] at h2; exact absurd h2.symm (split_ne _ _)
      | cons p r => simp

/-- s[a:b] of a text. -/
theorem slice_text (s : List UInt8) (a b : Nat) (h : a ≤ b) (hb : b ≤ s.length) (w : World) :
    (Instr.slice 9 (.string ⟨s.toArray⟩) (some (.int .i64 (a : Int))) (some (.int .i64 (b : Int))) none).run Tryd.prog w = .ok (.string ⟨((s.drop a).take (b - a)).toArray⟩) w := by
  rw [run_slice_string_if w _ _ _ _ _ _ Tryd.underlying9, if_pos ⟨by omega, by simp [ByteArray.size]; omega⟩, if_pos ⟨by omega, by omega⟩, Lib.extract_eq]
  simp
theorem slice_upto (s : List UInt8) (b : Nat) (hb : b ≤ s.length) (w : World) :
    (Instr.slice 9 (.string ⟨s.toArray⟩) none (some (.int .i64 (b : Int))) none).run Tryd.prog w = .ok (.string ⟨(s.take b).toArray⟩) w := by
  rw [run_slice_string_h w _ _ Tryd.underlying9 .i64 (b : Int) (by omega) (by simp [ByteArray.size]; omega), Lib.extract_eq]
  simp
/-- Texts as cells. -/
def strCells (ps : List (List UInt8)) : List Value := ps.map fun p => Value.string ⟨p.toArray⟩
theorem strCells_append (a b : List (List UInt8)) : strCells (a ++ b) = strCells a ++ strCells b := by simp [strCells]
theorem info_str : (Tryd.prog.info? 9).map (fun i => (i.zero, i.size, i.bytes)) = some (some (.string ⟨#[]⟩), 1, 16) := by kernel_rfl

theorem split_le (c : UInt8) (s : List UInt8) : ∀ p ∈ split c s, p.length ≤ s.length := by
  induction s with
  | nil => simp [split]
  | cons x l ih =>
    intro p hp
    by_cases h : x = c
    · simp only [split, if_pos h] at hp
      rcases List.mem_cons.1 hp with rfl | hp
      · simp
      · have := ih p hp
        simp only [List.length_cons]
        omega
    · cases hs : split c l with
      | nil => exact absurd hs (split_ne _ _)
      | cons q qs =>
        rw [split_cons h hs] at hp
        rw [hs] at ih
        rcases List.mem_cons.1 hp with rfl | hp
        · have := ih q (by simp)
          simp only [List.length_cons]
          omega
        · have := ih p (by simp [hp])
          simp only [List.length_cons]
          omega
theorem piece_le {ps : List (List UInt8)} {n j : Nat} (h : ∀ p ∈ ps, p.length ≤ n) : (ps.getD j []).length ≤ n := by
  by_cases hj : j < ps.length
  · exact h _ (by simp [List.getD, hj])
  · rw [List.getD_eq_getElem?_getD, List.getElem?_eq_none (by omega)]
    simp
/-! ### Answers in one form -/
theorem codeR_eq (r : Option Nat) : codeR r = .tuple #[.int .i64 ((r.getD 0 : Nat) : Int), .bool r.isSome] := by cases r <;> rfl
theorem numR_eq (kd : IntKind) (r : Option Nat) : numR kd r = .tuple #[.int kd ((r.getD 0 : Nat) : Int), .bool r.isSome] := by cases r <;> rfl
theorem val_top (p : List UInt8) : val p ≤ top := by
  unfold val
  cases h : numOf p with
  | none => simp
  | some n => exact numOf_top h
theorem pieces_step {ps : List (List UInt8)} {j : Nat} (h : j < ps.length) : ps.take (j + 1) = ps.take j ++ [ps.getD j []] := by
  rw [List.take_add_one, List.getElem?_eq_getElem h]
  simp [List.getD, h]
/-- What stands in the reason behind j pieces. -/
def headOf (ps : List (List UInt8)) (j : Nat) : Nat := ((ps.take j).map val).headD 0
def tailAt (ps : List (List UInt8)) (j : Nat) : List Nat := ((ps.take j).map val).tail
def okAt (ok : Bool) (ps : List (List UInt8)) (j : Nat) : Bool := ok && (ps.take j).all fun p => (numOf p).isSome
theorem head_first {ps : List (List UInt8)} (h : 0 < ps.length) : headOf ps 1 = val (ps.getD 0 []) := by
  unfold headOf
  rw [pieces_step h]
  simp
theorem tail_first {ps : List (List UInt8)} : tailAt ps 0 = [] ∧ tailAt ps 1 = [] := by
  cases ps <;> simp [tailAt]
theorem head_next {ps : List (List UInt8)} {j : Nat} (h : j < ps.length) (h0 : 0 < j) : headOf ps (j + 1) = headOf ps j := by
  unfold headOf
  rw [pieces_step h]
  cases ps with
  | nil => simp at h
  | cons p ps =>
    obtain ⟨j, rfl⟩ : ∃ i, j = i + 1 := ⟨j - 1, by omega⟩
    simp
theorem tail_next {ps : List (List UInt8)} {j : Nat} (h : j < ps.length) (h0 : 0 < j) : tailAt ps (j + 1) = tailAt ps j ++ [val (ps.getD j [])] := by
  unfold tailAt
  rw [pieces_step h]
  cases ps with
  | nil => simp at h
  | cons p ps =>
    obtain ⟨j, rfl⟩ : ∃ i, j = i + 1 := ⟨j - 1, by omega⟩
    simp
theorem ok_next {ok : Bool} {ps : List (List UInt8)} {j : Nat} (h : j < ps.length) : okAt ok ps (j + 1) = (okAt ok ps j && (numOf (ps.getD j [])).isSome) := by
  unfold okAt
  rw [pieces_step h]
  simp [List.all_append, Bool.and_assoc]
theorem one_set {w : World} {g : Nat} {x y z b : Value} {t : TypeId} (h : w.heap[g]? = some (.cells #[x, y, z] t (0, 0))) : (w.setCell ⟨g, 1, none⟩ b).heap[g]? = some (.cells #[x, b, z] t (0, 0)) := block_set h 1 b
theorem two_set {w : World} {g : Nat} {x y z b : Value} {t : TypeId} (h : w.heap[g]? = some (.cells #[x, y, z] t (0, 0))) : (w.setCell ⟨g, 2, none⟩ b).heap[g]? = some (.cells #[x, y, b] t (0, 0)) := block_set h 2 b

end Go.Proofs.YtbfneeggfaoeaaaDoor
