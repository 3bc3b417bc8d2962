/-
  What base.Text does: a machine of states, by goto; no condition beyond what the contract asks.
-/
import Derived.Test.YtlimkiebbmidiaaSixA
import Derived.WalkMore
import Derived.ScopeJumps
namespace Go.Proofs.Ytlimkiebbmidiaa
open Go.RowKit

/-- As Q; by a goto to label l: J l. -/
def Jumps (J : Nat → Act → World → Prop) (Q : Exit → Act → World → Prop) : Exit → Act → World → Prop
  | .goto l, a, w => J l a w
  | e, a, w => Q e a w
theorem jumps_ret {J : Nat → Act → World → Prop} {Q : Exit → Act → World → Prop} {a : Act} {w : World} : Jumps J Q .ret a w = Q .ret a w := rfl
theorem jumps_goto {J : Nat → Act → World → Prop} {Q : Exit → Act → World → Prop} {a : Act} {w : World} (l : Nat) : Jumps J Q (.goto l) a w = J l a w := rfl

/-- What a jump may come to, below a measure. -/
def LessJ (J : Nat → Nat → Act → World → Prop) (m : Nat) (l : Nat) (a : Act) (w : World) : Prop := ∃ m', m' < m ∧ J m' l a w
def AnyJ (J : Nat → Nat → Act → World → Prop) (l : Nat) (a : Act) (w : World) : Prop := ∃ m, J m l a w
theorem jumps_any {J : Nat → Nat → Act → World → Prop} {m : Nat} {Q : Exit → Act → World → Prop} (e : Exit) (a : Act) (w : World) (h : Jumps (LessJ J m) Q e a w) : Jumps (AnyJ J) Q e a w := by
  cases e with
  | goto l => obtain ⟨m', _, h⟩ := h; exact ⟨m', h⟩
  | normal => exact h
  | exit id => exact h
  | ret => exact h
  | panic ch => exact h
  | outgrown => exact h

/-- A scope with many labels, jumps both ways: what holds at every jump, by label, and a measure that every jump lowers. -/
theorem wp_scope_turns {P : Program} {a : Act} {w : World} {Q : Exit → Act → World → Prop} {c : Code} (J : Nat → Nat → Act → World → Prop)
    (pass : ∀ m l a w, J m l a w → ∃ y, findLabel c l = some (.seq .skip y) ∧ y.wp P (Jumps (LessJ J m) Q) a w)
    (first : (∀ m l a w, J m l a w → ∃ y, findLabel c l = some (.seq .skip y) ∧ y.wp P (Jumps (AnyJ J) Q) a w) → c.wp P (Jumps (AnyJ J) Q) a w) : (Code.scope c).wp P Q a w := by
  intro b k cs
  have first := first fun m l a w h => by
    obtain ⟨rest, hf, hp⟩ := pass m l a w h
    exact ⟨rest, hf, Code.wp_mono jumps_any hp⟩
  have key : ∀ m l a w, J m l a w → ∃ rest, findLabel c l = some rest ∧ ∃ e a' w', Q e a' w' ∧ Arrives P (lone (b.at a (.code rest :: .inScope c :: k)) cs w) b k cs e a' w' := by
    intro n
    induction n using Nat.strongRecOn with
    | _ n ih =>
      intro l a w hJ
      obtain ⟨rest, hf, hp⟩ := pass n l a w hJ
      refine ⟨.seq .skip rest, hf, ?_⟩
      obtain ⟨e, a₁, w₁, hq, harr⟩ := (wp_seq (wp_skip hp) : (Code.seq .skip rest).wp P (Jumps (LessJ J n) Q) a w) b (.inScope c :: k) cs
      cases e with
      | normal => exact ⟨.normal, a₁, w₁, hq, Steps.trans harr (.one step_inScope)⟩
      | exit id => exact ⟨.exit id, a₁, w₁, hq, fun k' hk => harr k' (by simp [exitTo, hk])⟩
      | goto l' =>
        obtain ⟨m', hlt, hJ'⟩ := hq
        obtain ⟨rest', hf', e₂, a₂, w₂, hq₂, harr₂⟩ := ih m' hlt l' a₁ w₁ hJ'
        have hg : gotoIn l' (.inScope c :: k) = some (.code rest' :: .inScope c :: k) := by simp [gotoIn, hf']
        exact ⟨e₂, a₂, w₂, hq₂, .of_steps (harr _ hg) harr₂⟩
      | ret => exact ⟨_, a₁, w₁, hq, harr⟩
      | panic ch => exact ⟨_, a₁, w₁, hq, harr⟩
      | outgrown => exact ⟨_, a₁, w₁, hq, harr⟩
  obtain ⟨e, a₁, w₁, hq, harr⟩ := first b (.inScope c :: k) cs
  cases e with
  | normal => exact ⟨.normal, a₁, w₁, hq, .head step_scope (Steps.trans harr (.one step_inScope))⟩
  | exit id => exact ⟨.exit id, a₁, w₁, hq, fun k' hk => .head step_scope (harr k' (by simp [exitTo, hk]))⟩
  | goto l' =>
    obtain ⟨m', hq'⟩ := hq
    obtain ⟨rest', hf', e₂, a₂, w₂, hq₂, harr₂⟩ := key m' l' a₁ w₁ hq'
    have hg : gotoIn l' (.inScope c :: k) = some (.code rest' :: .inScope c :: k) := by simp [gotoIn, hf']
    exact ⟨e₂, a₂, w₂, hq₂, .of_steps (.head step_scope (harr _ hg)) harr₂⟩
  | ret => exact ⟨_, a₁, w₁, hq, .of_steps (.one step_scope) harr⟩
  | panic ch => exact ⟨_, a₁, w₁, hq, .of_steps (.one step_scope) harr⟩
  | outgrown => exact ⟨_, a₁, w₁, hq, .of_steps (.one step_scope) harr⟩
/-- A byte of a text, by an index of whatever kind. -/
theorem at_txt (l : List UInt8) (kd : IntKind) (i : Int) (j : Nat) (hi : i = (j : Int)) (hj : j < l.length) (w : World) :
    (Instr.index 9 (.string ⟨l.toArray⟩) (.int kd i)).run Try.prog w = .ok (.int .u8 ((l.getD j 0).toNat : Int)) w := by
  subst hi
  rw [run_index_string w _ _ _ _ Try.underlying9, dif_pos ⟨by omega, by simp [ByteArray.size]; omega⟩]
  have e : (⟨l.toArray⟩ : ByteArray)[((j : Int)).toNat]'(by simp [ByteArray.size]; omega) = l.getD j 0 := by
    show l.toArray[((j : Int)).toNat]'(by simp; omega) = l.getD j 0
    simp [List.getD, hj]
  rw [e]
theorem signs_length : signs.length = 64 := by decide
theorem at_sgn (kd : IntKind) (i : Int) (n : Nat) (hi : i = (n : Int)) (h : n < 64) (w : World) :
    (Instr.index 9 (.string ⟨#[65, 66, 67, 68, 69, 70, 71, 72, 73, 74, 75, 76, 77, 78, 79, 80, 81, 82, 83, 84, 85, 86, 87, 88, 89, 90, 97, 98, 99, 100, 101, 102, 103, 104, 105, 106, 107, 108, 109, 110, 111, 112, 113, 114, 115, 116, 117, 118, 119, 120, 121, 122, 48, 49, 50, 51, 52, 53, 54, 55, 56, 57, 43, 47]⟩) (.int kd i)).run Try.prog w = .ok (.int .u8 ((sgn n).toNat : Int)) w :=
  at_txt signs kd i n hi (by rw [signs_length]; exact h) w

theorem drop_one {bs : List UInt8} {k : Nat} (h : k < bs.length) : bs.drop k = bs.getD k 0 :: bs.drop (k + 1) := by
  rw [List.drop_eq_getElem_cons h]
  simp [List.getD, h]
theorem b64_at0 {bs : List UInt8} {k : Nat} (h : bs.length = k) : b64 (bs.take k) = b64 bs := by rw [← h, List.take_length]
theorem b64_from {bs : List UInt8} {k : Nat} (hk : k ≤ bs.length) (h3 : k % 3 = 0) : b64 bs = b64 (bs.take k) ++ b64 (bs.drop k) := by
  rw [← b64_append _ _ (by rw [List.length_take]; omega), List.take_append_drop]
theorem b64_at1 {bs : List UInt8} {k : Nat} (h : bs.length = k + 1) (h3 : k % 3 = 0) :
    b64 bs = b64 (bs.take k) ++ [sgn ((bs.getD k 0).toNat / 4)] ++ [sgn ((bs.getD k 0).toNat % 4 * 16)] ++ [61, 61] := by
  rw [b64_from (by omega) h3, drop_one (by omega), List.drop_eq_nil_of_le (by omega)]
  simp [b64]
theorem b64_at2 {bs : List UInt8} {k : Nat} (h : bs.length = k + 2) (h3 : k % 3 = 0) :
    b64 bs = b64 (bs.take k) ++ [sgn ((bs.getD k 0).toNat / 4)] ++ [sgn ((bs.getD k 0).toNat % 4 * 16 + (bs.getD (k + 1) 0).toNat / 16)] ++ [sgn ((bs.getD (k + 1) 0).toNat % 16 * 4)] ++ [61] := by
  rw [b64_from (by omega) h3, drop_one (by omega), drop_one (by omega : k + 1 < bs.length), List.drop_eq_nil_of_le (by omega)]
  simp [b64]
theorem b64_at3 {bs : List UInt8} {k : Nat} (h : k + 3 ≤ bs.length) (h3 : k % 3 = 0) :
    b64 (bs.take (k + 3)) = b64 (bs.take k) ++ [sgn ((bs.getD k 0).toNat / 4)] ++ [sgn ((bs.getD k 0).toNat % 4 * 16 + (bs.getD (k + 1) 0).toNat / 16)] ++ [sgn ((bs.getD (k + 1) 0).toNat % 16 * 4 + (bs.getD (k + 2) 0).toNat / 64)] ++ [sgn ((bs.getD (k + 2) 0).toNat % 64)] := by
  have e : bs.take (k + 3) = bs.take k ++ [bs.getD k 0, bs.getD (k + 1) 0, bs.getD (k + 2) 0] := by
    rw [List.take_add, drop_one (by omega), drop_one (by omega : k + 1 < bs.length), drop_one (by omega : k + 1 + 1 < bs.length)]
    rfl
  rw [e, b64_append _ _ (by rw [List.length_take]; omega)]
  simp [b64]

/-- The frame of base.Text at a label: what is read later, and whatever else. -/
def TextAt (A : Option Addr) (n c q : Nat) (k x : Int) (a : Act) : Prop :=
  ∃ u1 u2 u6 u7 u8 u9 u10 u11 u12 u13 u14 u15 u16 u17 u18 u19 u20 u21 u22 u23 u24 u25 u26 u27 u28 u29 u30 u31 u32 u33 u34 u35 u36 u37 u38 u39 u40 u41 u42 u43 u44 u45 u46 u47 u48 u49 u50 u51 u52 u53 u54 u55 u56 u57 u58 u59 u60 u61 u62 u63 u64 u65 u66 u67 u68 u69 u70 u71 u72 u73 u74 u75 u76 u77 u78 u79 u80 u81 u82 : Value, a = { tmps := #[.slice A n c, u1, u2, .pointer (some ⟨q, 0, none⟩), .int .i64 k, .int .u8 x, u6, u7, u8, u9, u10, u11, u12, u13, u14, u15, u16, u17, u18, u19, u20, u21, u22, u23, u24, u25, u26, u27, u28, u29, u30, u31, u32, u33, u34, u35, u36, u37, u38, u39, u40, u41, u42, u43, u44, u45, u46, u47, u48, u49, u50, u51, u52, u53, u54, u55, u56, u57, u58, u59, u60, u61, u62, u63, u64, u65, u66, u67, u68, u69, u70, u71, u72, u73, u74, u75, u76, u77, u78, u79, u80, u81, u82], defers := [] }

theorem TextAt.elim {A : Option Addr} {n c q : Nat} {k x : Int} {a : Act} {motive : Act → Prop} (h : TextAt A n c q k x a) (f : ∀ u1 u2 u6 u7 u8 u9 u10 u11 u12 u13 u14 u15 u16 u17 u18 u19 u20 u21 u22 u23 u24 u25 u26 u27 u28 u29 u30 u31 u32 u33 u34 u35 u36 u37 u38 u39 u40 u41 u42 u43 u44 u45 u46 u47 u48 u49 u50 u51 u52 u53 u54 u55 u56 u57 u58 u59 u60 u61 u62 u63 u64 u65 u66 u67 u68 u69 u70 u71 u72 u73 u74 u75 u76 u77 u78 u79 u80 u81 u82 : Value, motive { tmps := #[.slice A n c, u1, u2, .pointer (some ⟨q, 0, none⟩), .int .i64 k, .int .u8 x, u6, u7, u8, u9, u10, u11, u12, u13, u14, u15, u16, u17, u18, u19, u20, u21, u22, u23, u24, u25, u26, u27, u28, u29, u30, u31, u32, u33, u34, u35, u36, u37, u38, u39, u40, u41, u42, u43, u44, u45, u46, u47, u48, u49, u50, u51, u52, u53, u54, u55, u56, u57, u58, u59, u60, u61, u62, u63, u64, u65, u66, u67, u68, u69, u70, u71, u72, u73, u74, u75, u76, u77, u78, u79, u80, u81, u82], defers := [] }) : motive a := by
  obtain ⟨u1, u2, u6, u7, u8, u9, u10, u11, u12, u13, u14, u15, u16, u17, u18, u19, u20, u21, u22, u23, u24, u25, u26, u27, u28, u29, u30, u31, u32, u33, u34, u35, u36, u37, u38, u39, u40, u41, u42, u43, u44, u45, u46, u47, u48, u49, u50, u51, u52, u53, u54, u55, u56, u57, u58, u59, u60, u61, u62, u63, u64, u65, u66, u67, u68, u69, u70, u71, u72, u73, u74, u75, u76, u77, u78, u79, u80, u81, u82, rfl⟩ := h
  exact f _ _ _ _ _ _ _ _ _ _ _ _ _ _ _ _ _ _ _ _ _ _ _ _ _ _ _ _ _ _ _ _ _ _ _ _ _ _ _ _ _ _ _ _ _ _ _ _ _ _ _ _ _ _ _ _ _ _ _ _ _ _ _ _ _ _ _ _ _ _ _ _ _ _ _ _ _ _ _

/-- What ends a text of which bits are left. -/
def tailOf (l : Nat) : List UInt8 := if l = 2 then [61, 61] else [61]
/-- What holds at a jump to a label. -/
def TextJ (w0 : World) (A : Option Addr) (n c : Nat) (bs out : List UInt8) (m l : Nat) (a : Act) (w : World) : Prop :=
  (l = 1 ∧ ∃ (K x : Int) (k : Nat), TextAt A n c w0.heap.size K x a ∧ K = (k : Int) ∧ k ≤ n ∧ k % 3 = 0 ∧ Bld w0.heap.size w0.heap.size (b64 (bs.take k)) w ∧ Below w0.heap.size w0 w ∧ m = 2 + (n - k)) ∨
  (l = 0 ∧ ∃ (K x : Int), TextAt A n c w0.heap.size K x a ∧ Bld w0.heap.size w0.heap.size out w ∧ Below w0.heap.size w0 w ∧ m = 0) ∨
  ((l = 2 ∨ l = 3) ∧ ∃ (K X : Int) (x : Nat) (t : List UInt8), TextAt A n c w0.heap.size K X a ∧ X = (x : Int) ∧ x < 64 ∧ t.length ≤ 2000000 ∧ out = t ++ [sgn x] ++ tailOf l ∧ Bld w0.heap.size w0.heap.size t w ∧ Below w0.heap.size w0 w ∧ m = 1)

end Go.Proofs.Ytlimkiebbmidiaa
