/-
  What the small functions of package utf do, one contract each; no condition beyond what each contract asks.
  What utf.long does: a machine of states, by goto, which tells the character that begins at a place with a byte from 128 on; no condition beyond what each contract asks.
  What utf.Rune, walk, Check and Count do, one contract each; no condition beyond what each contract asks.
  What the document's answers Rune, Check and Count do, one contract each; no condition beyond what each contract asks.
-/
import Derived.Test.YtfpocpmcoobjkaaDoorRefI17
import Derived.Test.YtfpocpmcoobjkaaDoorUtfMath
import Derived.IntWalk
import Derived.WalkMore
import Derived.ScopeJumps
namespace Go.Proofs.YtfpocpmcoobjkaaDoor
open Go.RowKit
/-- A reading: its struct lies in block q, above its bytes; it stands at p with the bits v. -/
def Rg (w : World) (q : Nat) (A : Option Addr) (n c : Nat) (bs : List UInt8) (p v : Nat) : Prop :=
  w.heap[q]? = some (.cells #[.slice A n c, .int .i64 (p : Int), .int .i64 (v : Int)] 96 (0, 0)) ∧ Held w (· < q) A n bs
section
variable {w w' : World} {q : Nat} {A : Option Addr} {n c : Nat} {bs : List UInt8} {p v : Nat}
theorem Rg.drewN (h : Rg w q A n c bs p v) (m : Nat) : Rg (w.drewN m) q A n c bs p v := h
theorem Rg.lt (h : Rg w q A n c bs p v) : q < w.heap.size := block_lt h.1
theorem Rg.cell0 (h : Rg w q A n c bs p v) : w.cell? ⟨q, 0, none⟩ = some (.slice A n c) := by rw [block_cell h.1]; rfl
theorem Rg.cell1 (h : Rg w q A n c bs p v) : w.cell? ⟨q, 1, none⟩ = some (.int .i64 (p : Int)) := by rw [block_cell h.1]; rfl
theorem Rg.cell2 (h : Rg w q A n c bs p v) : w.cell? ⟨q, 2, none⟩ = some (.int .i64 (v : Int)) := by rw [block_cell h.1]; rfl
theorem Rg.at (h : Rg w q A n c bs p v) (p' : Nat) : Rg (w.setCell ⟨q, 1, none⟩ (.int .i64 (p' : Int))) q A n c bs p' v := by
  refine ⟨by rw [block_set h.1]; rfl, h.2.keep fun k hk => Below.heap_setCell _ _ _ _ (by show k ≠ q; omega)⟩
theorem Rg.bits (h : Rg w q A n c bs p v) (v' : Nat) : Rg (w.setCell ⟨q, 2, none⟩ (.int .i64 (v' : Int))) q A n c bs p v' := by
  refine ⟨by rw [block_set h.1]; rfl, h.2.keep fun k hk => Below.heap_setCell _ _ _ _ (by show k ≠ q; omega)⟩
end
theorem wraps_i64 (n : Int) (h₀ : 0 ≤ n) (h₁ : n < 2 ^ 62) : IntKind.i64.wrap n = n := by rw [IntKind.wrap_i64]; omega
theorem i64_or6 (v x : Nat) (hv : v ≤ 100000000) (h1 : 128 ≤ x) (h2 : x ≤ 191) : bits .or .i64 ((v : Int) * 64) ((x : Int) % 64) = ((v * 64 + (x - 128) : Nat) : Int) := by
  rw [bits_join .i64 62 (by decide) wraps_i64 6 ((v : Int) * 64) ((x : Int) % 64) (by omega) (by omega) (by omega) (by omega) (by omega) (by omega)]
  omega
def TailNo (w : World) (e : Ending) (w' : World) : Prop := e = .returned (.bool false) ∧ ∃ m, w' = w.drewN m
def TailOk (q : Nat) (A : Option Addr) (n c : Nat) (bs : List UInt8) (p v : Nat) (w : World) (e : Ending) (w' : World) : Prop :=
  e = .returned (.bool true) ∧ Rg w' q A n c bs (p + 1) (v * 64 + (byt bs p - 128)) ∧ Kept (· = q) w w'
set_option maxHeartbeats 400000 in
theorem tail_past (q : Nat) (A : Option Addr) (n c : Nat) (bs : List UInt8) (p v lo hi : Nat) (w : World) (h : Rg w q A n c bs p v) (hge : n ≤ p) :
    Calls Tryd.prog 80 #[.pointer (some ⟨q, 0, none⟩), .int .u8 (lo : Int), .int .u8 (hi : Int)] w (TailNo w) := by
  have h0 := h.cell0
  have h1 := h.cell1
  have d1 : decide ((n : Int) ≤ (p : Int)) = true := by simpa using hge
  have d1n : decide (n ≤ p) = true := by simp; omega
  have H := Lib.hid h
  clear h
  go_enter Tryd.func80, Tryd.ntmps80
  go_wp2_with fail
  go_quiet (fail)
  go_wp2_with fail
  go_ret
  exact ⟨rfl, _, rfl⟩
set_option maxHeartbeats 400000 in
theorem tail_bad (q : Nat) (A : Option Addr) (n c : Nat) (bs : List UInt8) (p v lo hi : Nat) (w : World) (h : Rg w q A n c bs p v) (hn : n ≤ 100000000) (hlt : p < n) (hb : byt bs p < lo ∨ hi < byt bs p) :
    Calls Tryd.prog 80 #[.pointer (some ⟨q, 0, none⟩), .int .u8 (lo : Int), .int .u8 (hi : Int)] w (TailNo w) := by
  have h0 := h.cell0
  have h1 := h.cell1
  have d1 : decide ((n : Int) ≤ (p : Int)) = false := by simpa using hlt
  have d1n : decide (n ≤ p) = false := by simp; omega
  obtain ⟨b, o, rfl, _, hc⟩ := h.2.2 (by omega)
  have hcp : w.cell? ⟨b, o + p, none⟩ = some (.int .u8 (byt bs p : Int)) := hc p hlt
  have H := Lib.hid h
  clear h hc
  generalize byt bs p = x at hcp hb
  by_cases c1 : x < lo
  · have d2 : decide ((x : Int) < (lo : Int)) = true := by simpa using c1
    have d2n : decide (x < lo) = true := by simp; omega
    clear hb
    go_enter Tryd.func80, Tryd.ntmps80
    go_wp2_with fail
    go_quiet (fail)
    go_wp2_with fail
    go_quiet (fail)
    go_wp2_with fail
    go_ret
    exact ⟨rfl, _, rfl⟩
  · have d2 : decide ((x : Int) < (lo : Int)) = false := by simpa using c1
    have d2n : decide (x < lo) = false := by simp; omega
    have d3 : decide ((hi : Int) < (x : Int)) = true := by simp; omega
    have d3n : decide (hi < x) = true := by simp; omega
    clear hb
    go_enter Tryd.func80, Tryd.ntmps80
    go_wp2_with fail
    go_quiet (fail)
    go_wp2_with fail
    go_quiet (fail)
    go_wp2_with fail
    go_ret
    exact ⟨rfl, _, rfl⟩
set_option maxHeartbeats 400000 in
theorem tail_ok (q : Nat) (A : Option Addr) (n c : Nat) (bs : List UInt8) (p v lo hi : Nat) (w : World) (h : Rg w q A n c bs p v) (hn : n ≤ 100000000) (hlt : p < n) (h128 : 128 ≤ lo) (h191 : hi ≤ 191) (hb : lo ≤ byt bs p ∧ byt bs p ≤ hi) (hv : v ≤ 100000000) :
    Calls Tryd.prog 80 #[.pointer (some ⟨q, 0, none⟩), .int .u8 (lo : Int), .int .u8 (hi : Int)] w (TailOk q A n c bs p v w) := by
  have h0 := h.cell0
  have h1 := h.cell1
  have h2 := h.cell2
  have f1 := block_frozen h.1 1
  have f2 := block_frozen h.1 2
  have d1 : decide ((n : Int) ≤ (p : Int)) = false := by simpa using hlt
  have d1n : decide (n ≤ p) = false := by simp; omega
  obtain ⟨b, o, rfl, _, hc⟩ := h.2.2 (by omega)
  have hcp : w.cell? ⟨b, o + p, none⟩ = some (.int .u8 (byt bs p : Int)) := hc p hlt
  have H := Lib.hid h
  clear h hc
  obtain ⟨x, hx⟩ : ∃ x, x = byt bs p := ⟨_, rfl⟩
  have HX := Lib.hid hx
  rw [← hx] at hcp hb
  clear hx
  have d2 : decide ((x : Int) < (lo : Int)) = false := by simp; omega
  have d2n : decide (x < lo) = false := by simp; omega
  have d3 : decide ((hi : Int) < (x : Int)) = false := by simp; omega
  have d3n : decide (hi < x) = false := by simp; omega
  go_enter Tryd.func80, Tryd.ntmps80
  go_wp2_with fail
  go_quiet (fail)
  go_wp2_with fail
  go_quiet (fail)
  go_wp2_with fail
  rw [i64_or6 v x hv (by omega) (by omega), show (p : Int) + 1 = ((p + 1 : Nat) : Int) from rfl, HX.out]
  go_ret
  exact ⟨rfl, ((H.out.drewN _).bits _).at _, ((((Kept.refl (· = q) w).drewN _).setCell (p := ⟨q, 2, none⟩) (fun _ => rfl) _).setCell (p := ⟨q, 1, none⟩) (fun _ => rfl) _)⟩
/-- The bits that a first byte gives. -/
def leadBits (x : Nat) : Nat := if x ≤ 223 then x % 32 else if x ≤ 239 then x % 16 else x % 8
set_option maxHeartbeats 400000 in
theorem lead_any (q : Nat) (A : Option Addr) (n c : Nat) (bs : List UInt8) (p v : Nat) (w : World) (h : Rg w q A n c bs p v) (hn : n ≤ 100000000) (hlt : p < n) :
    Calls Tryd.prog 79 #[.pointer (some ⟨q, 0, none⟩)] w fun e w' =>
      e = .returned (.int .u8 (byt bs p : Int)) ∧ Rg w' q A n c bs (p + 1) (leadBits (byt bs p)) ∧ Kept (· = q) w w' := by
  have h0 := h.cell0
  have h1 := h.cell1
  have h2 := h.cell2
  have f1 := block_frozen h.1 1
  have f2 := block_frozen h.1 2
  obtain ⟨b, o, rfl, _, hc⟩ := h.2.2 (by omega)
  have hcp : w.cell? ⟨b, o + p, none⟩ = some (.int .u8 (byt bs p : Int)) := hc p hlt
  have H := Lib.hid h
  clear h hc
  have hx := byt_lt bs p
  generalize byt bs p = x at hcp hx
  by_cases c1 : x ≤ 223
  · have d1 : decide ((x : Int) ≤ 223) = true := by simp; omega
    go_enter Tryd.func79, Tryd.ntmps79
    go_wp2_with fail
    go_quiet (fail)
    go_wp2_with fail
    rw [show (x : Int) % 32 = ((leadBits x : Nat) : Int) by unfold leadBits; rw [if_pos c1]; rfl, show (p : Int) + 1 = ((p + 1 : Nat) : Int) from rfl]
    go_ret
    exact ⟨rfl, ((H.out.drewN _).bits _).at _, ((((Kept.refl (· = q) w).drewN _).setCell (p := ⟨q, 2, none⟩) (fun _ => rfl) _).setCell (p := ⟨q, 1, none⟩) (fun _ => rfl) _)⟩
  · have d1 : decide ((x : Int) ≤ 223) = false := by simp; omega
    by_cases c2 : x ≤ 239
    · have d2 : decide ((x : Int) ≤ 239) = true := by simp; omega
      go_enter Tryd.func79, Tryd.ntmps79
      go_wp2_with fail
      go_quiet (fail)
      go_wp2_with fail
      rw [show (x : Int) % 16 = ((leadBits x : Nat) : Int) by unfold leadBits; rw [if_neg c1, if_pos c2]; rfl, show (p : Int) + 1 = ((p + 1 : Nat) : Int) from rfl]
      go_ret
      exact ⟨rfl, ((H.out.drewN _).bits _).at _, ((((Kept.refl (· = q) w).drewN _).setCell (p := ⟨q, 2, none⟩) (fun _ => rfl) _).setCell (p := ⟨q, 1, none⟩) (fun _ => rfl) _)⟩
    · have d2 : decide ((x : Int) ≤ 239) = false := by simp; omega
      go_enter Tryd.func79, Tryd.ntmps79
      go_wp2_with fail
      go_quiet (fail)
      go_wp2_with fail
      rw [show (x : Int) % 8 = ((leadBits x : Nat) : Int) by unfold leadBits; rw [if_neg c1, if_neg c2]; rfl, show (p : Int) + 1 = ((p + 1 : Nat) : Int) from rfl]
      go_ret
      exact ⟨rfl, ((H.out.drewN _).bits _).at _, ((((Kept.refl (· = q) w).drewN _).setCell (p := ⟨q, 2, none⟩) (fun _ => rfl) _).setCell (p := ⟨q, 1, none⟩) (fun _ => rfl) _)⟩
end Go.Proofs.YtfpocpmcoobjkaaDoor
namespace Go.Proofs.YtfpocpmcoobjkaaDoor
open Go.RowKit
/-- As Q; by a goto to label l: J l. -/
def Jumps (J : Nat → Act → World → Prop) (Q : Exit → Act → World → Prop) : Exit → Act → World → Prop
  | .goto l, a, w => J l a w
  | e, a, w => Q e a w
theorem jumps_ret {J : Nat → Act → World → Prop} {Q : Exit → Act → World → Prop} {a : Act} {w : World} : Jumps J Q .ret a w = Q .ret a w := rfl
theorem jumps_goto {J : Nat → Act → World → Prop} {Q : Exit → Act → World → Prop} {a : Act} {w : World} (l : Nat) : Jumps J Q (.goto l) a w = J l a w := rfl
/-- A scope with many labels: what holds at every jump, by label, and a rank of the labels that every jump lowers. -/
theorem wp_scope_labels {P : Program} {a : Act} {w : World} {Q : Exit → Act → World → Prop} {c : Code} (rank : Nat → Nat) (J : Nat → Act → World → Prop)
    (first : c.wp P (Jumps J Q) a w)
    (pass : ∀ l a w, J l a w → ∃ rest, findLabel c l = some rest ∧ rest.wp P (Jumps (fun l' a' w' => J l' a' w' ∧ rank l' < rank l) Q) a w) : (Code.scope c).wp P Q a w := by
  intro b k cs
  have key : ∀ n l a w, rank l = n → J l a w → ∃ rest, findLabel c l = some rest ∧ ∃ e a' w', Q e a' w' ∧ Arrives P (lone (b.at a (.code rest :: .inScope c :: k)) cs w) b k cs e a' w' := by
    intro n
    induction n using Nat.strongRecOn with
    | _ n ih =>
      intro l a w hn hJ
      obtain ⟨rest, hf, hp⟩ := pass l a w hJ
      refine ⟨rest, hf, ?_⟩
      obtain ⟨e, a₁, w₁, hq, harr⟩ := hp b (.inScope c :: k) cs
      cases e with
      | normal => exact ⟨.normal, a₁, w₁, hq, Steps.trans harr (.one step_inScope)⟩
      | exit id => exact ⟨.exit id, a₁, w₁, hq, fun k' hk => harr k' (by simp [exitTo, hk])⟩
      | goto l' =>
        obtain ⟨hJ', hlt⟩ := hq
        obtain ⟨rest', hf', e₂, a₂, w₂, hq₂, harr₂⟩ := ih _ (by omega) l' a₁ w₁ rfl hJ'
        have hg : gotoIn l' (.inScope c :: k) = some (.code rest' :: .inScope c :: k) := by simp [gotoIn, hf']
        exact ⟨e₂, a₂, w₂, hq₂, .of_steps (harr _ hg) harr₂⟩
      | ret => exact ⟨_, a₁, w₁, hq, harr⟩
      | panic ch => exact ⟨_, a₁, w₁, hq, harr⟩
      | outgrown => exact ⟨_, a₁, w₁, hq, harr⟩
  obtain ⟨e, a₁, w₁, hq, harr⟩ := first b (.inScope c :: k) cs
  cases e with
  | normal => exact ⟨.normal, a₁, w₁, hq, .head step_scope (Steps.trans harr (.one step_inScope))⟩
  | exit id => exact ⟨.exit id, a₁, w₁, hq, fun k' hk => .head step_scope (harr k' (by simp [exitTo, hk]))⟩
  | goto l' =>
    obtain ⟨rest', hf', e₂, a₂, w₂, hq₂, harr₂⟩ := key _ l' a₁ w₁ rfl hq
    have hg : gotoIn l' (.inScope c :: k) = some (.code rest' :: .inScope c :: k) := by simp [gotoIn, hf']
    exact ⟨e₂, a₂, w₂, hq₂, .of_steps (.head step_scope (harr _ hg)) harr₂⟩
  | ret => exact ⟨_, a₁, w₁, hq, .of_steps (.one step_scope) harr⟩
  | panic ch => exact ⟨_, a₁, w₁, hq, .of_steps (.one step_scope) harr⟩
  | outgrown => exact ⟨_, a₁, w₁, hq, .of_steps (.one step_scope) harr⟩
/-- The frame of utf.long at a label: what is read later, and whatever else. -/
def LongAt (A : Option Addr) (n c k q : Nat) (a : Act) : Prop :=
  ∃ u2 u3 u4 u5 u7 u8 u9 u10 u11 u12 u13 u14 u15 u16 u17 u18 u19 u20 u21 u22 u23 u24 u25 u26 u27 u28 u29 u30 u31 u32 u33 u34 u35 u36 u37 u38 u39 u40 u41 u42 u43 u44 u45 u46 u47 u48 u49 u50 u51 u52 u53 u54 u55 : Value, a = { tmps := #[.slice A n c, .int .i64 (k : Int), u2, u3, u4, u5, .pointer (some ⟨q, 0, none⟩), u7, u8, u9, u10, u11, u12, u13, u14, u15, u16, u17, u18, u19, u20, u21, u22, u23, u24, u25, u26, u27, u28, u29, u30, u31, u32, u33, u34, u35, u36, u37, u38, u39, u40, u41, u42, u43, u44, u45, u46, u47, u48, u49, u50, u51, u52, u53, u54, u55], defers := [] }
/-- What is told from a label on. -/
def goal (bs : List UInt8) (k l p v : Nat) : Nat × Nat :=
  match l with
  | 0 => (0, 0)
  | 1 => told (p + 1 - k) (more bs 1 p v)
  | 2 => told (p + 2 - k) (tight bs 160 191 1 p v)
  | 3 => told (p + 2 - k) (tight bs 128 159 1 p v)
  | 4 => told (p + 2 - k) (more bs 2 p v)
  | 5 => told (p + 3 - k) (tight bs 144 191 2 p v)
  | 6 => told (p + 3 - k) (more bs 3 p v)
  | _ => told (p + 3 - k) (tight bs 128 143 2 p v)
def vMax (l : Nat) : Nat := match l with
  | 0 => 100000000 | 1 => 131072 | 4 => 2048 | _ => 32
def rankOf (l : Nat) : Nat := match l with
  | 0 => 0 | 1 => 1 | 4 => 2 | 6 => 3 | _ => 4
/-- The label that a first byte leads to. -/
def labelOf (x : Nat) : Nat :=
  if x ≤ 193 then 0 else if x ≤ 223 then 1 else if x = 224 then 2 else if x = 237 then 3 else if x ≤ 239 then 4 else if x = 240 then 5 else if x ≤ 243 then 6 else if x = 244 then 7 else 0
theorem longF_goal (bs : List UInt8) (k : Nat) : longF bs k = goal bs k (labelOf (byt bs k)) (k + 1) (leadBits (byt bs k)) := by
  unfold longF labelOf
  generalize byt bs k = x
  by_cases c1 : x ≤ 193
  · rw [if_pos c1, if_pos c1]; rfl
  rw [if_neg c1, if_neg c1]
  by_cases c2 : x ≤ 223
  · rw [if_pos c2, if_pos c2, leadBits, if_pos c2]
    simp only [goal]
    rw [show k + 1 + 1 - k = 2 by omega, show x % 32 = x - 192 by omega]
  rw [if_neg c2, if_neg c2]
  by_cases c3 : x = 224
  · subst c3
    rw [if_pos rfl, if_pos rfl]
    simp only [goal]
    rw [show k + 1 + 2 - k = 3 by omega]; rfl
  rw [if_neg c3, if_neg c3]
  by_cases c4 : x = 237
  · subst c4
    rw [if_pos rfl, if_pos rfl]
    simp only [goal]
    rw [show k + 1 + 2 - k = 3 by omega]; rfl
  rw [if_neg c4, if_neg c4]
  by_cases c5 : x ≤ 239
  · rw [if_pos c5, if_pos c5, leadBits, if_neg c2, if_pos c5]
    simp only [goal]
    rw [show k + 1 + 2 - k = 3 by omega, show x % 16 = x - 224 by omega]
  rw [if_neg c5, if_neg c5]
  by_cases c6 : x = 240
  · subst c6
    rw [if_pos rfl, if_pos rfl]
    simp only [goal]
    rw [show k + 1 + 3 - k = 4 by omega]; rfl
  rw [if_neg c6, if_neg c6]
  by_cases c7 : x ≤ 243
  · rw [if_pos c7, if_pos c7, leadBits, if_neg c2, if_neg c5]
    simp only [goal]
    rw [show k + 1 + 3 - k = 4 by omega, show x % 8 = x - 240 by omega]
  rw [if_neg c7, if_neg c7]
  by_cases c8 : x = 244
  · subst c8
    rw [if_pos rfl, if_pos rfl]
    simp only [goal]
    rw [show k + 1 + 3 - k = 4 by omega]; rfl
  rw [if_neg c8, if_neg c8]
  rfl
theorem leadBits_lt (x : Nat) : leadBits x < 32 := by unfold leadBits; (repeat' split) <;> omega
def loOf (l : Nat) : Nat := match l with
  | 2 => 160 | 5 => 144 | _ => 128
def hiOf (l : Nat) : Nat := match l with
  | 3 => 159 | 7 => 143 | _ => 191
def nextOf (l : Nat) : Nat := match l with
  | 5 => 4 | 6 => 4 | 7 => 4 | _ => 1
theorem more_yes {bs : List UInt8} {j p v : Nat} (h : p < bs.length ∧ 128 ≤ byt bs p ∧ byt bs p ≤ 191) : more bs (j + 1) p v = more bs j (p + 1) (v * 64 + (byt bs p - 128)) := by
  rw [more, if_pos (by omega)]
theorem more_not {bs : List UInt8} {j p v : Nat} (h : ¬ (p < bs.length ∧ 128 ≤ byt bs p ∧ byt bs p ≤ 191)) : more bs (j + 1) p v = none := by
  rw [more, if_neg (by omega)]
theorem goal_stop (bs : List UInt8) (k p v l : Nat) (ha : 1 ≤ l) (hb : l ≤ 7) : ¬ (p < bs.length ∧ loOf l ≤ byt bs p ∧ byt bs p ≤ hiOf l) → goal bs k l p v = goal bs k 0 p v := by
  rcases (by omega : l = 1 ∨ l = 2 ∨ l = 3 ∨ l = 4 ∨ l = 5 ∨ l = 6 ∨ l = 7) with rfl | rfl | rfl | rfl | rfl | rfl | rfl <;> intro h <;> simp only [goal, loOf, hiOf] at h ⊢
  · rw [more_not h]; rfl
  · rw [tight, if_neg h]; rfl
  · rw [tight, if_neg h]; rfl
  · rw [more_not h]; rfl
  · rw [tight, if_neg h]; rfl
  · rw [more_not h]; rfl
  · rw [tight, if_neg h]; rfl
theorem goal_done (bs : List UInt8) (k p v : Nat) (h : p < bs.length ∧ loOf 1 ≤ byt bs p ∧ byt bs p ≤ hiOf 1) : goal bs k 1 p v = (v * 64 + (byt bs p - 128), p + 1 - k) := by
  simp only [goal]
  rw [more_yes h]; rfl
theorem goal_next (bs : List UInt8) (k p v l : Nat) (ha : 1 < l) (hb : l ≤ 7) : (p < bs.length ∧ loOf l ≤ byt bs p ∧ byt bs p ≤ hiOf l) → goal bs k l p v = goal bs k (nextOf l) (p + 1) (v * 64 + (byt bs p - 128)) := by
  rcases (by omega : l = 2 ∨ l = 3 ∨ l = 4 ∨ l = 5 ∨ l = 6 ∨ l = 7) with rfl | rfl | rfl | rfl | rfl | rfl <;> intro h <;> simp only [goal, loOf, hiOf, nextOf] at h ⊢
  · rw [tight, if_pos h, Nat.add_right_comm]
  · rw [tight, if_pos h, Nat.add_right_comm]
  · rw [more_yes h, Nat.add_right_comm]
  · rw [tight, if_pos h, Nat.add_right_comm]
  · rw [more_yes h, Nat.add_right_comm]
  · rw [tight, if_pos h, Nat.add_right_comm]
theorem tail_no (q : Nat) (A : Option Addr) (n c : Nat) (bs : List UInt8) (p v lo hi : Nat) (w : World) (h : Rg w q A n c bs p v) (hn : n ≤ 100000000) (_hp : p ≤ 200000000) (hb : ¬ (p < n ∧ lo ≤ byt bs p ∧ byt bs p ≤ hi)) :
    Calls Tryd.prog 80 #[.pointer (some ⟨q, 0, none⟩), .int .u8 (lo : Int), .int .u8 (hi : Int)] w (TailNo w) := by
  by_cases c1 : p < n
  · exact tail_bad q A n c bs p v lo hi w h hn c1 (by omega)
  · exact tail_past q A n c bs p v lo hi w h (by omega)
theorem Below.drawn {B : Nat} {w w' : World} (h : Below B w w') (m : Nat) : Below B w (w'.drewN m) := ⟨h.os, h.tape, h.output, h.size, h.block⟩
/-- What holds at a jump to a label. -/
def LongJ (w0 : World) (q : Nat) (A : Option Addr) (n c : Nat) (bs : List UInt8) (k : Nat) (out : Nat × Nat) (l : Nat) (a : Act) (w : World) : Prop :=
  l ≤ 7 ∧ LongAt A n c k q a ∧ ∃ p v, Rg w q A n c bs p v ∧ Below w0.heap.size w0 w ∧ v < vMax l ∧ k < p ∧ p + rankOf l ≤ k + 5 ∧ goal bs k l p v = out
def TwoPost (r : Nat × Nat) (w : World) (e : Ending) (w' : World) : Prop :=
  e = .returned (.tuple #[.int .i64 (r.1 : Int), .int .i64 (r.2 : Int)]) ∧ Below w.heap.size w w'
theorem two_num {a b c d : Int} (h : a = c) (h' : b = d) : Ending.returned (.tuple #[.int .i64 a, .int .i64 b]) = .returned (.tuple #[.int .i64 c, .int .i64 d]) := by rw [h, h']
set_option maxHeartbeats 2000000 in
set_option maxRecDepth 100000 in
theorem long_any (A : Option Addr) (n c : Nat) (bs : List UInt8) (k : Nat) (w : World) (hh : Held w (· < w.heap.size) A n bs) (hn : n ≤ 100000000) (hlt : k < n) (h128 : 128 ≤ byt bs k) :
    Calls Tryd.prog 78 #[.slice A n c, .int .i64 (k : Int)] w (TwoPost (rune bs k) w) := by
  have HH := Lib.hid hh
  clear hh
  have HO : Hid (∀ l, labelOf (byt bs k) = l → goal bs k l (k + 1) (leadBits (byt bs k)) = rune bs k) := fun l hl => by
    rw [← hl, ← longF_goal]
    exact (rune_long bs k (by rw [HH.out.1]; exact hlt) h128).symm
  have hx := byt_lt bs k
  go_enter Tryd.func78, Tryd.ntmps78
  go_wp2_with fail
  refine wp_scope_labels rankOf (LongJ w w.heap.size A n c bs k (rune bs k)) ?_ ?_
  · go_wp2_with fail
    have hR0 : Rg (w.alloc (.cells #[.slice A n c, .int .i64 (k : Int), .int .i64 0] 96)) w.heap.size A n c bs k 0 :=
      ⟨heap_alloc_new _ _, HH.out.keep fun j hj => Below.heap_alloc _ _ _ hj⟩
    refine (lead_any w.heap.size A n c bs k 0 _ hR0 hn hlt).mono ?_
    rintro e w1 ⟨rfl, hR1, hk1⟩
    have B1 : Below w.heap.size w w1 := ((Below.refl _ _).alloc (Nat.le_refl _) _).trans (hk1.below (by simp) (fun j hj e => by omega))
    have HR1 := Lib.hid hR1
    clear hR0 hR1 hk1
    generalize byt bs k = x at HO HR1 h128 hx
    go_wp2_with fail
    all_goals
      go_step3
      refine ⟨by decide, ⟨_, _, _, _, _, _, _, _, _, _, _, _, _, _, _, _, _, _, _, _, _, _, _, _, _, _, _, _, _, _, _, _, _, _, _, _, _, _, _, _, _, _, _, _, _, _, _, _, _, _, _, _, _, rfl⟩, k + 1, leadBits x, HR1.out, B1, Nat.lt_of_lt_of_le (leadBits_lt x) (by decide), by omega, by simp only [rankOf]; omega, HO.out _ ?_⟩
      (try simp only [beq_iff_eq, beq_eq_false_iff_ne, ne_eq] at *)
      unfold labelOf
      (repeat' split) <;> omega
  · clear HO
    have HL := Lib.hid HH.out.1
    clear HH h128 hx
    rintro l a' w0 ⟨hl, hF, p, v, hR, B0, hv, hkp, hpk, hgoal⟩
    have HR0 := Lib.hid hR
    clear hR
    generalize rune bs k = out at hgoal ⊢
    have HG0 := Lib.hid hgoal
    clear hgoal
    obtain ⟨u2, u3, u4, u5, u7, u8, u9, u10, u11, u12, u13, u14, u15, u16, u17, u18, u19, u20, u21, u22, u23, u24, u25, u26, u27, u28, u29, u30, u31, u32, u33, u34, u35, u36, u37, u38, u39, u40, u41, u42, u43, u44, u45, u46, u47, u48, u49, u50, u51, u52, u53, u54, u55, rfl⟩ := hF
    rcases (by omega : l = 0 ∨ l = 1 ∨ l = 2 ∨ l = 3 ∨ l = 4 ∨ l = 5 ∨ l = 6 ∨ l = 7) with rfl | rfl | rfl | rfl | rfl | rfl | rfl | rfl
    · refine ⟨_, rfl, ?_⟩
      go_wp2_with fail
      rw [jumps_ret, ← HG0.out]
      go_ret2
      exact ⟨rfl, B0⟩
    · refine ⟨_, rfl, ?_⟩
      simp only [vMax] at hv
      simp only [rankOf] at hpk
      go_wp2_with fail
      by_cases hc0 : p < n ∧ 128 ≤ byt bs p ∧ byt bs p ≤ 191
      · have HS0 : Hid (p < bs.length ∧ 128 ≤ byt bs p ∧ byt bs p ≤ 191) := show _ from ⟨by rw [HL.out]; exact hc0.1, hc0.2⟩
        refine (tail_ok w.heap.size A n c bs p v 128 191 _ HR0.out hn hc0.1 (by decide) (by decide) hc0.2 (by omega)).mono ?_
        rintro e w1 ⟨rfl, hR, hk⟩
        have B1 : Below w.heap.size w w1 := B0.trans (hk.below B0.size (fun j hj e => by omega))
        have hx0 := byt_lt bs p
        have HG1 : Hid (((v * 64 + (byt bs p - 128), p + 1 - k) : Nat × Nat) = out) := show _ from (goal_done bs k p v HS0.out).symm.trans HG0.out
        have hv1 : v * 64 + (byt bs p - 128) < v * 64 + 64 := by omega
        have HR1 := Lib.hid hR
        clear hR hk HS0 hx0
        generalize v * 64 + (byt bs p - 128) = v1 at HG1 HR1 hv1
        have hc1 := HR1.out.cell1
        have hc2 := HR1.out.cell2
        go_wp2_with fail
        go_quiet (fail)
        go_wp2_with fail
        rw [jumps_ret, ← HG1.out]
        go_ret2
        exact ⟨two_num rfl (by omega), Below.drawn B1 _⟩
      · have HS : Hid (¬ (p < bs.length ∧ 128 ≤ byt bs p ∧ byt bs p ≤ 191)) := show _ from by rw [HL.out]; exact hc0
        refine (tail_no w.heap.size A n c bs p v 128 191 _ HR0.out hn (by omega) hc0).mono ?_
        rintro e w9 ⟨rfl, m, rfl⟩
        have HGn : Hid (goal bs k 0 p v = out) := show _ from (goal_stop bs k p v 1 (by decide) (by decide) HS.out).symm.trans HG0.out
        go_wp2_with fail
        go_step3
        exact ⟨⟨by decide, ⟨_, _, _, _, _, _, _, _, _, _, _, _, _, _, _, _, _, _, _, _, _, _, _, _, _, _, _, _, _, _, _, _, _, _, _, _, _, _, _, _, _, _, _, _, _, _, _, _, _, _, _, _, _, rfl⟩, p, v, HR0.out.drewN m, Below.drawn B0 m, by simp only [vMax]; omega, by omega, by simp only [rankOf]; omega, HGn.out⟩, by decide⟩
    · refine ⟨_, rfl, ?_⟩
      simp only [vMax] at hv
      simp only [rankOf] at hpk
      go_wp2_with fail
      by_cases hc0 : p < n ∧ 160 ≤ byt bs p ∧ byt bs p ≤ 191
      · have HS0 : Hid (p < bs.length ∧ 160 ≤ byt bs p ∧ byt bs p ≤ 191) := show _ from ⟨by rw [HL.out]; exact hc0.1, hc0.2⟩
        refine (tail_ok w.heap.size A n c bs p v 160 191 _ HR0.out hn hc0.1 (by decide) (by decide) hc0.2 (by omega)).mono ?_
        rintro e w1 ⟨rfl, hR, hk⟩
        have B1 : Below w.heap.size w w1 := B0.trans (hk.below B0.size (fun j hj e => by omega))
        have hx0 := byt_lt bs p
        have HG1 : Hid (goal bs k 1 (p + 1) (v * 64 + (byt bs p - 128)) = out) := show _ from (goal_next bs k p v 2 (by decide) (by decide) HS0.out).symm.trans HG0.out
        have hv1 : v * 64 + (byt bs p - 128) < v * 64 + 64 := by omega
        have HR1 := Lib.hid hR
        clear hR hk HS0 hx0
        generalize v * 64 + (byt bs p - 128) = v1 at HG1 HR1 hv1
        go_wp2_with fail
        go_step3
        exact ⟨⟨by decide, ⟨_, _, _, _, _, _, _, _, _, _, _, _, _, _, _, _, _, _, _, _, _, _, _, _, _, _, _, _, _, _, _, _, _, _, _, _, _, _, _, _, _, _, _, _, _, _, _, _, _, _, _, _, _, rfl⟩, p + 1, v1, HR1.out, B1, by simp only [vMax]; omega, by omega, by simp only [rankOf]; omega, HG1.out⟩, by decide⟩
      · have HS : Hid (¬ (p < bs.length ∧ 160 ≤ byt bs p ∧ byt bs p ≤ 191)) := show _ from by rw [HL.out]; exact hc0
        refine (tail_no w.heap.size A n c bs p v 160 191 _ HR0.out hn (by omega) hc0).mono ?_
        rintro e w9 ⟨rfl, m, rfl⟩
        have HGn : Hid (goal bs k 0 p v = out) := show _ from (goal_stop bs k p v 2 (by decide) (by decide) HS.out).symm.trans HG0.out
        go_wp2_with fail
        go_step3
        exact ⟨⟨by decide, ⟨_, _, _, _, _, _, _, _, _, _, _, _, _, _, _, _, _, _, _, _, _, _, _, _, _, _, _, _, _, _, _, _, _, _, _, _, _, _, _, _, _, _, _, _, _, _, _, _, _, _, _, _, _, rfl⟩, p, v, HR0.out.drewN m, Below.drawn B0 m, by simp only [vMax]; omega, by omega, by simp only [rankOf]; omega, HGn.out⟩, by decide⟩
    · refine ⟨_, rfl, ?_⟩
      simp only [vMax] at hv
      simp only [rankOf] at hpk
      go_wp2_with fail
      by_cases hc0 : p < n ∧ 128 ≤ byt bs p ∧ byt bs p ≤ 159
      · have HS0 : Hid (p < bs.length ∧ 128 ≤ byt bs p ∧ byt bs p ≤ 159) := show _ from ⟨by rw [HL.out]; exact hc0.1, hc0.2⟩
        refine (tail_ok w.heap.size A n c bs p v 128 159 _ HR0.out hn hc0.1 (by decide) (by decide) hc0.2 (by omega)).mono ?_
        rintro e w1 ⟨rfl, hR, hk⟩
        have B1 : Below w.heap.size w w1 := B0.trans (hk.below B0.size (fun j hj e => by omega))
        have hx0 := byt_lt bs p
        have HG1 : Hid (goal bs k 1 (p + 1) (v * 64 + (byt bs p - 128)) = out) := show _ from (goal_next bs k p v 3 (by decide) (by decide) HS0.out).symm.trans HG0.out
        have hv1 : v * 64 + (byt bs p - 128) < v * 64 + 64 := by omega
        have HR1 := Lib.hid hR
        clear hR hk HS0 hx0
        generalize v * 64 + (byt bs p - 128) = v1 at HG1 HR1 hv1
        go_wp2_with fail
        go_step3
        exact ⟨⟨by decide, ⟨_, _, _, _, _, _, _, _, _, _, _, _, _, _, _, _, _, _, _, _, _, _, _, _, _, _, _, _, _, _, _, _, _, _, _, _, _, _, _, _, _, _, _, _, _, _, _, _, _, _, _, _, _, rfl⟩, p + 1, v1, HR1.out, B1, by simp only [vMax]; omega, by omega, by simp only [rankOf]; omega, HG1.out⟩, by decide⟩
      · have HS : Hid (¬ (p < bs.length ∧ 128 ≤ byt bs p ∧ byt bs p ≤ 159)) := show _ from by rw [HL.out]; exact hc0
        refine (tail_no w.heap.size A n c bs p v 128 159 _ HR0.out hn (by omega) hc0).mono ?_
        rintro e w9 ⟨rfl, m, rfl⟩
        have HGn : Hid (goal bs k 0 p v = out) := show _ from (goal_stop bs k p v 3 (by decide) (by decide) HS.out).symm.trans HG0.out
        go_wp2_with fail
        go_step3
        exact ⟨⟨by decide, ⟨_, _, _, _, _, _, _, _, _, _, _, _, _, _, _, _, _, _, _, _, _, _, _, _, _, _, _, _, _, _, _, _, _, _, _, _, _, _, _, _, _, _, _, _, _, _, _, _, _, _, _, _, _, rfl⟩, p, v, HR0.out.drewN m, Below.drawn B0 m, by simp only [vMax]; omega, by omega, by simp only [rankOf]; omega, HGn.out⟩, by decide⟩
    · refine ⟨_, rfl, ?_⟩
      simp only [vMax] at hv
      simp only [rankOf] at hpk
      go_wp2_with fail
      by_cases hc0 : p < n ∧ 128 ≤ byt bs p ∧ byt bs p ≤ 191
      · have HS0 : Hid (p < bs.length ∧ 128 ≤ byt bs p ∧ byt bs p ≤ 191) := show _ from ⟨by rw [HL.out]; exact hc0.1, hc0.2⟩
        refine (tail_ok w.heap.size A n c bs p v 128 191 _ HR0.out hn hc0.1 (by decide) (by decide) hc0.2 (by omega)).mono ?_
        rintro e w1 ⟨rfl, hR, hk⟩
        have B1 : Below w.heap.size w w1 := B0.trans (hk.below B0.size (fun j hj e => by omega))
        have hx0 := byt_lt bs p
        have HG1 : Hid (goal bs k 1 (p + 1) (v * 64 + (byt bs p - 128)) = out) := show _ from (goal_next bs k p v 4 (by decide) (by decide) HS0.out).symm.trans HG0.out
        have hv1 : v * 64 + (byt bs p - 128) < v * 64 + 64 := by omega
        have HR1 := Lib.hid hR
        clear hR hk HS0 hx0
        generalize v * 64 + (byt bs p - 128) = v1 at HG1 HR1 hv1
        go_wp2_with fail
        go_step3
        go_wp2_with fail
        by_cases hc1 : (p + 1) < n ∧ 128 ≤ byt bs (p + 1) ∧ byt bs (p + 1) ≤ 191
        · have HS1 : Hid ((p + 1) < bs.length ∧ 128 ≤ byt bs (p + 1) ∧ byt bs (p + 1) ≤ 191) := show _ from ⟨by rw [HL.out]; exact hc1.1, hc1.2⟩
          refine (tail_ok w.heap.size A n c bs (p + 1) v1 128 191 _ HR1.out hn hc1.1 (by decide) (by decide) hc1.2 (by omega)).mono ?_
          rintro e w2 ⟨rfl, hR, hk⟩
          have B2 : Below w.heap.size w w2 := B1.trans (hk.below B1.size (fun j hj e => by omega))
          have hx1 := byt_lt bs (p + 1)
          have HG2 : Hid (((v1 * 64 + (byt bs (p + 1) - 128), (p + 1) + 1 - k) : Nat × Nat) = out) := show _ from (goal_done bs k (p + 1) v1 HS1.out).symm.trans HG1.out
          have hv2 : v1 * 64 + (byt bs (p + 1) - 128) < v1 * 64 + 64 := by omega
          have HR2 := Lib.hid hR
          clear hR hk HS1 hx1
          generalize v1 * 64 + (byt bs (p + 1) - 128) = v2 at HG2 HR2 hv2
          have hc1 := HR2.out.cell1
          have hc2 := HR2.out.cell2
          go_wp2_with fail
          go_quiet (fail)
          go_wp2_with fail
          rw [jumps_ret, ← HG2.out]
          go_ret2
          exact ⟨two_num rfl (by omega), Below.drawn B2 _⟩
        · have HS : Hid (¬ ((p + 1) < bs.length ∧ 128 ≤ byt bs (p + 1) ∧ byt bs (p + 1) ≤ 191)) := show _ from by rw [HL.out]; exact hc1
          refine (tail_no w.heap.size A n c bs (p + 1) v1 128 191 _ HR1.out hn (by omega) hc1).mono ?_
          rintro e w9 ⟨rfl, m, rfl⟩
          have HGn : Hid (goal bs k 0 (p + 1) v1 = out) := show _ from (goal_stop bs k (p + 1) v1 1 (by decide) (by decide) HS.out).symm.trans HG1.out
          go_wp2_with fail
          go_step3
          exact ⟨⟨by decide, ⟨_, _, _, _, _, _, _, _, _, _, _, _, _, _, _, _, _, _, _, _, _, _, _, _, _, _, _, _, _, _, _, _, _, _, _, _, _, _, _, _, _, _, _, _, _, _, _, _, _, _, _, _, _, rfl⟩, (p + 1), v1, HR1.out.drewN m, Below.drawn B1 m, by simp only [vMax]; omega, by omega, by simp only [rankOf]; omega, HGn.out⟩, by decide⟩
      · have HS : Hid (¬ (p < bs.length ∧ 128 ≤ byt bs p ∧ byt bs p ≤ 191)) := show _ from by rw [HL.out]; exact hc0
        refine (tail_no w.heap.size A n c bs p v 128 191 _ HR0.out hn (by omega) hc0).mono ?_
        rintro e w9 ⟨rfl, m, rfl⟩
        have HGn : Hid (goal bs k 0 p v = out) := show _ from (goal_stop bs k p v 4 (by decide) (by decide) HS.out).symm.trans HG0.out
        go_wp2_with fail
        go_step3
        exact ⟨⟨by decide, ⟨_, _, _, _, _, _, _, _, _, _, _, _, _, _, _, _, _, _, _, _, _, _, _, _, _, _, _, _, _, _, _, _, _, _, _, _, _, _, _, _, _, _, _, _, _, _, _, _, _, _, _, _, _, rfl⟩, p, v, HR0.out.drewN m, Below.drawn B0 m, by simp only [vMax]; omega, by omega, by simp only [rankOf]; omega, HGn.out⟩, by decide⟩
    · refine ⟨_, rfl, ?_⟩
      simp only [vMax] at hv
      simp only [rankOf] at hpk
      go_wp2_with fail
      by_cases hc0 : p < n ∧ 144 ≤ byt bs p ∧ byt bs p ≤ 191
      · have HS0 : Hid (p < bs.length ∧ 144 ≤ byt bs p ∧ byt bs p ≤ 191) := show _ from ⟨by rw [HL.out]; exact hc0.1, hc0.2⟩
        refine (tail_ok w.heap.size A n c bs p v 144 191 _ HR0.out hn hc0.1 (by decide) (by decide) hc0.2 (by omega)).mono ?_
        rintro e w1 ⟨rfl, hR, hk⟩
        have B1 : Below w.heap.size w w1 := B0.trans (hk.below B0.size (fun j hj e => by omega))
        have hx0 := byt_lt bs p
        have HG1 : Hid (goal bs k 4 (p + 1) (v * 64 + (byt bs p - 128)) = out) := show _ from (goal_next bs k p v 5 (by decide) (by decide) HS0.out).symm.trans HG0.out
        have hv1 : v * 64 + (byt bs p - 128) < v * 64 + 64 := by omega
        have HR1 := Lib.hid hR
        clear hR hk HS0 hx0
        generalize v * 64 + (byt bs p - 128) = v1 at HG1 HR1 hv1
        go_wp2_with fail
        go_step3
        exact ⟨⟨by decide, ⟨_, _, _, _, _, _, _, _, _, _, _, _, _, _, _, _, _, _, _, _, _, _, _, _, _, _, _, _, _, _, _, _, _, _, _, _, _, _, _, _, _, _, _, _, _, _, _, _, _, _, _, _, _, rfl⟩, p + 1, v1, HR1.out, B1, by simp only [vMax]; omega, by omega, by simp only [rankOf]; omega, HG1.out⟩, by decide⟩
      · have HS : Hid (¬ (p < bs.length ∧ 144 ≤ byt bs p ∧ byt bs p ≤ 191)) := show _ from by rw [HL.out]; exact hc0
        refine (tail_no w.heap.size A n c bs p v 144 191 _ HR0.out hn (by omega) hc0).mono ?_
        rintro e w9 ⟨rfl, m, rfl⟩
        have HGn : Hid (goal bs k 0 p v = out) := show _ from (goal_stop bs k p v 5 (by decide) (by decide) HS.out).symm.trans HG0.out
        go_wp2_with fail
        go_step3
        exact ⟨⟨by decide, ⟨_, _, _, _, _, _, _, _, _, _, _, _, _, _, _, _, _, _, _, _, _, _, _, _, _, _, _, _, _, _, _, _, _, _, _, _, _, _, _, _, _, _, _, _, _, _, _, _, _, _, _, _, _, rfl⟩, p, v, HR0.out.drewN m, Below.drawn B0 m, by simp only [vMax]; omega, by omega, by simp only [rankOf]; omega, HGn.out⟩, by decide⟩
    · refine ⟨_, rfl, ?_⟩
      simp only [vMax] at hv
      simp only [rankOf] at hpk
      go_wp2_with fail
      by_cases hc0 : p < n ∧ 128 ≤ byt bs p ∧ byt bs p ≤ 191
      · have HS0 : Hid (p < bs.length ∧ 128 ≤ byt bs p ∧ byt bs p ≤ 191) := show _ from ⟨by rw [HL.out]; exact hc0.1, hc0.2⟩
        refine (tail_ok w.heap.size A n c bs p v 128 191 _ HR0.out hn hc0.1 (by decide) (by decide) hc0.2 (by omega)).mono ?_
        rintro e w1 ⟨rfl, hR, hk⟩
        have B1 : Below w.heap.size w w1 := B0.trans (hk.below B0.size (fun j hj e => by omega))
        have hx0 := byt_lt bs p
        have HG1 : Hid (goal bs k 4 (p + 1) (v * 64 + (byt bs p - 128)) = out) := show _ from (goal_next bs k p v 6 (by decide) (by decide) HS0.out).symm.trans HG0.out
        have hv1 : v * 64 + (byt bs p - 128) < v * 64 + 64 := by omega
        have HR1 := Lib.hid hR
        clear hR hk HS0 hx0
        generalize v * 64 + (byt bs p - 128) = v1 at HG1 HR1 hv1
        go_wp2_with fail
        go_step3
        go_wp2_with fail
        by_cases hc1 : (p + 1) < n ∧ 128 ≤ byt bs (p + 1) ∧ byt bs (p + 1) ≤ 191
        · have HS1 : Hid ((p + 1) < bs.length ∧ 128 ≤ byt bs (p + 1) ∧ byt bs (p + 1) ≤ 191) := show _ from ⟨by rw [HL.out]; exact hc1.1, hc1.2⟩
          refine (tail_ok w.heap.size A n c bs (p + 1) v1 128 191 _ HR1.out hn hc1.1 (by decide) (by decide) hc1.2 (by omega)).mono ?_
          rintro e w2 ⟨rfl, hR, hk⟩
          have B2 : Below w.heap.size w w2 := B1.trans (hk.below B1.size (fun j hj e => by omega))
          have hx1 := byt_lt bs (p + 1)
          have HG2 : Hid (goal bs k 1 ((p + 1) + 1) (v1 * 64 + (byt bs (p + 1) - 128)) = out) := show _ from (goal_next bs k (p + 1) v1 4 (by decide) (by decide) HS1.out).symm.trans HG1.out
          have hv2 : v1 * 64 + (byt bs (p + 1) - 128) < v1 * 64 + 64 := by omega
          have HR2 := Lib.hid hR
          clear hR hk HS1 hx1
          generalize v1 * 64 + (byt bs (p + 1) - 128) = v2 at HG2 HR2 hv2
          go_wp2_with fail
          go_step3
          go_wp2_with fail
          by_cases hc2 : (p + 2) < n ∧ 128 ≤ byt bs (p + 2) ∧ byt bs (p + 2) ≤ 191
          · have HS2 : Hid ((p + 2) < bs.length ∧ 128 ≤ byt bs (p + 2) ∧ byt bs (p + 2) ≤ 191) := show _ from ⟨by rw [HL.out]; exact hc2.1, hc2.2⟩
            refine (tail_ok w.heap.size A n c bs (p + 2) v2 128 191 _ HR2.out hn hc2.1 (by decide) (by decide) hc2.2 (by omega)).mono ?_
            rintro e w3 ⟨rfl, hR, hk⟩
            have B3 : Below w.heap.size w w3 := B2.trans (hk.below B2.size (fun j hj e => by omega))
            have hx2 := byt_lt bs (p + 2)
            have HG3 : Hid (((v2 * 64 + (byt bs (p + 2) - 128), (p + 2) + 1 - k) : Nat × Nat) = out) := show _ from (goal_done bs k (p + 2) v2 HS2.out).symm.trans HG2.out
            have hv3 : v2 * 64 + (byt bs (p + 2) - 128) < v2 * 64 + 64 := by omega
            have HR3 := Lib.hid hR
            clear hR hk HS2 hx2
            generalize v2 * 64 + (byt bs (p + 2) - 128) = v3 at HG3 HR3 hv3
            have hc1 := HR3.out.cell1
            have hc2 := HR3.out.cell2
            go_wp2_with fail
            go_quiet (fail)
            go_wp2_with fail
            rw [jumps_ret, ← HG3.out]
            go_ret2
            exact ⟨two_num rfl (by omega), Below.drawn B3 _⟩
          · have HS : Hid (¬ ((p + 2) < bs.length ∧ 128 ≤ byt bs (p + 2) ∧ byt bs (p + 2) ≤ 191)) := show _ from by rw [HL.out]; exact hc2
            refine (tail_no w.heap.size A n c bs (p + 2) v2 128 191 _ HR2.out hn (by omega) hc2).mono ?_
            rintro e w9 ⟨rfl, m, rfl⟩
            have HGn : Hid (goal bs k 0 (p + 2) v2 = out) := show _ from (goal_stop bs k (p + 2) v2 1 (by decide) (by decide) HS.out).symm.trans HG2.out
            go_wp2_with fail
            go_step3
            exact ⟨⟨by decide, ⟨_, _, _, _, _, _, _, _, _, _, _, _, _, _, _, _, _, _, _, _, _, _, _, _, _, _, _, _, _, _, _, _, _, _, _, _, _, _, _, _, _, _, _, _, _, _, _, _, _, _, _, _, _, rfl⟩, (p + 2), v2, HR2.out.drewN m, Below.drawn B2 m, by simp only [vMax]; omega, by omega, by simp only [rankOf]; omega, HGn.out⟩, by decide⟩
        · have HS : Hid (¬ ((p + 1) < bs.length ∧ 128 ≤ byt bs (p + 1) ∧ byt bs (p + 1) ≤ 191)) := show _ from by rw [HL.out]; exact hc1
          refine (tail_no w.heap.size A n c bs (p + 1) v1 128 191 _ HR1.out hn (by omega) hc1).mono ?_
          rintro e w9 ⟨rfl, m, rfl⟩
          have HGn : Hid (goal bs k 0 (p + 1) v1 = out) := show _ from (goal_stop bs k (p + 1) v1 4 (by decide) (by decide) HS.out).symm.trans HG1.out
          go_wp2_with fail
          go_step3
          exact ⟨⟨by decide, ⟨_, _, _, _, _, _, _, _, _, _, _, _, _, _, _, _, _, _, _, _, _, _, _, _, _, _, _, _, _, _, _, _, _, _, _, _, _, _, _, _, _, _, _, _, _, _, _, _, _, _, _, _, _, rfl⟩, (p + 1), v1, HR1.out.drewN m, Below.drawn B1 m, by simp only [vMax]; omega, by omega, by simp only [rankOf]; omega, HGn.out⟩, by decide⟩
      · have HS : Hid (¬ (p < bs.length ∧ 128 ≤ byt bs p ∧ byt bs p ≤ 191)) := show _ from by rw [HL.out]; exact hc0
        refine (tail_no w.heap.size A n c bs p v 128 191 _ HR0.out hn (by omega) hc0).mono ?_
        rintro e w9 ⟨rfl, m, rfl⟩
        have HGn : Hid (goal bs k 0 p v = out) := show _ from (goal_stop bs k p v 6 (by decide) (by decide) HS.out).symm.trans HG0.out
        go_wp2_with fail
        go_step3
        exact ⟨⟨by decide, ⟨_, _, _, _, _, _, _, _, _, _, _, _, _, _, _, _, _, _, _, _, _, _, _, _, _, _, _, _, _, _, _, _, _, _, _, _, _, _, _, _, _, _, _, _, _, _, _, _, _, _, _, _, _, rfl⟩, p, v, HR0.out.drewN m, Below.drawn B0 m, by simp only [vMax]; omega, by omega, by simp only [rankOf]; omega, HGn.out⟩, by decide⟩
    · refine ⟨_, rfl, ?_⟩
      simp only [vMax] at hv
      simp only [rankOf] at hpk
      go_wp2_with fail
      by_cases hc0 : p < n ∧ 128 ≤ byt bs p ∧ byt bs p ≤ 143
      · have HS0 : Hid (p < bs.length ∧ 128 ≤ byt bs p ∧ byt bs p ≤ 143) := show _ from ⟨by rw [HL.out]; exact hc0.1, hc0.2⟩
        refine (tail_ok w.heap.size A n c bs p v 128 143 _ HR0.out hn hc0.1 (by decide) (by decide) hc0.2 (by omega)).mono ?_
        rintro e w1 ⟨rfl, hR, hk⟩
        have B1 : Below w.heap.size w w1 := B0.trans (hk.below B0.size (fun j hj e => by omega))
        have hx0 := byt_lt bs p
        have HG1 : Hid (goal bs k 4 (p + 1) (v * 64 + (byt bs p - 128)) = out) := show _ from (goal_next bs k p v 7 (by decide) (by decide) HS0.out).symm.trans HG0.out
        have hv1 : v * 64 + (byt bs p - 128) < v * 64 + 64 := by omega
        have HR1 := Lib.hid hR
        clear hR hk HS0 hx0
        generalize v * 64 + (byt bs p - 128) = v1 at HG1 HR1 hv1
        go_wp2_with fail
        go_step3
        exact ⟨⟨by decide, ⟨_, _, _, _, _, _, _, _, _, _, _, _, _, _, _, _, _, _, _, _, _, _, _, _, _, _, _, _, _, _, _, _, _, _, _, _, _, _, _, _, _, _, _, _, _, _, _, _, _, _, _, _, _, rfl⟩, p + 1, v1, HR1.out, B1, by simp only [vMax]; omega, by omega, by simp only [rankOf]; omega, HG1.out⟩, by decide⟩
      · have HS : Hid (¬ (p < bs.length ∧ 128 ≤ byt bs p ∧ byt bs p ≤ 143)) := show _ from by rw [HL.out]; exact hc0
        refine (tail_no w.heap.size A n c bs p v 128 143 _ HR0.out hn (by omega) hc0).mono ?_
        rintro e w9 ⟨rfl, m, rfl⟩
        have HGn : Hid (goal bs k 0 p v = out) := show _ from (goal_stop bs k p v 7 (by decide) (by decide) HS.out).symm.trans HG0.out
        go_wp2_with fail
        go_step3
        exact ⟨⟨by decide, ⟨_, _, _, _, _, _, _, _, _, _, _, _, _, _, _, _, _, _, _, _, _, _, _, _, _, _, _, _, _, _, _, _, _, _, _, _, _, _, _, _, _, _, _, _, _, _, _, _, _, _, _, _, _, rfl⟩, p, v, HR0.out.drewN m, Below.drawn B0 m, by simp only [vMax]; omega, by omega, by simp only [rankOf]; omega, HGn.out⟩, by decide⟩
end Go.Proofs.YtfpocpmcoobjkaaDoor
namespace Go.Proofs.YtfpocpmcoobjkaaDoor
open Go.RowKit
/-- The character at whatever place. -/
def runeI (bs : List UInt8) (k : Int) : Nat × Nat := if k < 0 then (0, 0) else rune bs k.toNat
theorem runeI_nat (bs : List UInt8) (k : Nat) : runeI bs (k : Int) = rune bs k := by
  unfold runeI
  rw [if_neg (by omega)]
  rfl
theorem runeI_out (bs : List UInt8) (k : Int) (h : k < 0 ∨ (bs.length : Int) ≤ k) : runeI bs k = (0, 0) := by
  unfold runeI
  by_cases c : k < 0
  · rw [if_pos c]
  · rw [if_neg c, rune_past _ _ (by omega)]
theorem rune_one (bs : List UInt8) (k : Nat) (h1 : k < bs.length) (h2 : byt bs k ≤ 127) : rune bs k = (byt bs k, 1) := by
  unfold rune
  rw [if_neg (by omega), if_pos (by omega)]
/-- Bytes of memory that was there are still read as they were. -/
theorem Held.on {w w' : World} {A : Option Addr} {n : Nat} {bs : List UInt8} (h : Held w (· < w.heap.size) A n bs) (b : Below w.heap.size w w') : Held w' (· < w'.heap.size) A n bs :=
  (h.keep fun k hk => b.block k hk).weaken fun _ hk => Nat.lt_of_lt_of_le hk b.size
set_option maxHeartbeats 400000 in
theorem rune_any (A : Option Addr) (n c : Nat) (bs : List UInt8) (k : Int) (w : World) (hh : Held w (· < w.heap.size) A n bs) (hn : n ≤ 100000000) :
    Calls Tryd.prog 77 #[.slice A n c, .int .i64 k] w (TwoPost (runeI bs k) w) := by
  have HH := Lib.hid hh
  clear hh
  by_cases c1 : k < 0
  · have d1 : decide (k < 0) = true := by simpa using c1
    rw [runeI_out bs k (.inl c1)]
    go_enter Tryd.func77, Tryd.ntmps77
    go_wp2_with fail
    go_ret2
    exact ⟨rfl, Below.refl _ _⟩
  · have d1 : decide (k < 0) = false := by simpa using c1
    obtain ⟨k, rfl⟩ := Int.eq_ofNat_of_zero_le (show 0 ≤ k by omega)
    by_cases c2 : n ≤ k
    · have d2 : decide ((n : Int) ≤ (k : Int)) = true := by simp; omega
      have d2n : decide (n ≤ k) = true := by simp; omega
      rw [runeI_out bs k (.inr (by rw [HH.out.1]; omega))]
      go_enter Tryd.func77, Tryd.ntmps77
      go_wp2_with fail
      go_ret2
      exact ⟨rfl, Below.refl _ _⟩
    · have d2 : decide ((n : Int) ≤ (k : Int)) = false := by simp; omega
      have d2n : decide (n ≤ k) = false := by simp; omega
      have hlt : k < n := by omega
      rw [runeI_nat]
      have HL : Hid (bs.length = n) := HH.out.1
      obtain ⟨b, o, rfl, _, hc⟩ := HH.out.2 (by omega)
      have hcp : w.cell? ⟨b, o + k, none⟩ = some (.int .u8 (byt bs k : Int)) := hc k hlt
      clear hc
      by_cases c3 : byt bs k ≤ 127
      · rw [rune_one bs k (by rw [HL.out]; exact hlt) c3]
        have hx := byt_lt bs k
        generalize byt bs k = x at hcp c3 hx
        have d3 : decide ((x : Int) ≤ 127) = true := by simp; omega
        go_enter Tryd.func77, Tryd.ntmps77
        go_wp2_with fail
        go_ret2
        exact ⟨rfl, Below.refl _ _⟩
      · have hx := byt_lt bs k
        have h128 : 128 ≤ byt bs k := by omega
        have HC := Lib.hid h128
        clear h128
        generalize hxe : byt bs k = x at hcp c3 hx
        clear hxe
        have d3 : decide ((x : Int) ≤ 127) = false := by simp; omega
        go_enter Tryd.func77, Tryd.ntmps77
        go_wp2_with fail
        refine (long_any _ n c bs k w HH.out hn hlt HC.out).mono ?_
        rintro e w1 ⟨rfl, B1⟩
        go_wp2_with fail
        go_ret2
        exact ⟨rfl, B1⟩
def WalkRel (w : World) (bs : List UInt8) (i j : Value) (wr : World) : Prop :=
  ∃ k m : Nat, k ≤ bs.length ∧ m ≤ k ∧ i = .int .i64 (k : Int) ∧ j = .int .i64 (m : Int) ∧ stop bs k = stop bs 0 ∧ m + cnt bs k = cnt bs 0 ∧ Below w.heap.size w wr
set_option maxHeartbeats 400000 in
theorem walk_any (A : Option Addr) (n c : Nat) (bs : List UInt8) (w : World) (hh : Held w (· < w.heap.size) A n bs) (hn : n ≤ 100000000) :
    Calls Tryd.prog 73 #[.slice A n c] w (TwoPost (stop bs 0, cnt bs 0) w) := by
  have HH := Lib.hid hh
  have HL := Lib.hid hh.1
  clear hh
  go_enter Tryd.func73, Tryd.ntmps73
  go_wp2_with fail
  go_loopw [2, 3] (fun i j wr => WalkRel w bs i j wr) (fun i _ _ => n - (intOf i).toNat)
  case atStart => exact ⟨0, 0, Nat.zero_le _, Nat.le_refl _, rfl, rfl, rfl, Nat.zero_add _, Below.refl _ _⟩
  case round =>
    obtain ⟨k, m, hk, hm, rfl, rfl, hs, hc, Br⟩ := hrel
    have HS := Lib.hid hs
    have HC := Lib.hid hc
    have hkn : k ≤ n := by rw [← HL.out]; exact hk
    clear hs hc hk
    go_wp2_with fail
    refine (rune_any A n c bs (k : Int) wr (HH.out.on Br) hn).mono ?_
    rw [runeI_nat]
    rintro e w1 ⟨rfl, B1⟩
    have B2 : Below w.heap.size w w1 := Br.trans (B1.mono Br.size)
    clear B1
    have hr := rune_cases bs k
    by_cases h0 : (rune bs k).2 = 0
    · have HS' : Hid (k = stop bs 0) := show _ from (stop_end h0).symm.trans HS.out
      have HC' : Hid (m = cnt bs 0) := by
        have := HC.out
        rw [cnt_end h0] at this
        exact this
      clear hr
      generalize rune bs k = r at h0
      obtain ⟨r1, r2⟩ := r
      simp only at h0
      subst h0
      go_wp2_with fail
      go_ret2
      exact ⟨two_num (congrArg _ HS'.out) (congrArg _ HC'.out), B2⟩
    · have hb : 1 ≤ (rune bs k).2 ∧ k + (rune bs k).2 ≤ n := by
        rcases hr with e | e
        · exact absurd (by rw [e]) h0
        · rw [← HL.out]; exact ⟨e.1, e.2.2.1⟩
      have HS' : Hid (stop bs (k + (rune bs k).2) = stop bs 0) := show _ from (stop_on h0).symm.trans HS.out
      have HC' : Hid (m + 1 + cnt bs (k + (rune bs k).2) = cnt bs 0) := by
        have := HC.out
        rw [cnt_on h0] at this
        show _ = _
        omega
      clear hr h0
      generalize rune bs k = r at hb HS' HC'
      obtain ⟨r1, r2⟩ := r
      simp only at hb HS' HC'
      have d0 : ((r2 : Int) == 0) = false := by simp; omega
      go_wp2_with fail
      go_roundw
      case rel => exact ⟨k + r2, m + 1, by rw [HL.out]; exact hb.2, by omega, by go_num, by go_num, HS'.out, HC'.out, B2⟩
      case measure => simp [intOf]; omega
/-- Are bytes whole? -/
def wholeB (bs : List UInt8) : Bool := decide (stop bs 0 = bs.length)
theorem int_num_bool {a b : Int} {x y : Bool} (h : a = b) (h' : x = y) : Ending.returned (.tuple #[.int .i64 a, .bool x]) = .returned (.tuple #[.int .i64 b, .bool y]) := by rw [h, h']
set_option maxHeartbeats 400000 in
theorem check_any (A : Option Addr) (n c : Nat) (bs : List UInt8) (w : World) (hh : Held w (· < w.heap.size) A n bs) (hn : n ≤ 100000000) :
    Calls Tryd.prog 65 #[.slice A n c] w fun e w' => e = .returned (.tuple #[.int .i64 (stop bs 0 : Int), .bool (wholeB bs)]) ∧ Below w.heap.size w w' := by
  have HH := Lib.hid hh
  clear hh
  go_enter Tryd.func65, Tryd.ntmps65
  go_wp2_with fail
  refine (walk_any A n c bs w HH.out hn).mono ?_
  rintro e w1 ⟨rfl, B1⟩
  go_wp2_with fail
  go_ret2
  refine ⟨int_num_bool rfl ?_, B1⟩
  unfold wholeB
  rw [HH.out.1, Bool.eq_iff_iff]
  simp
  omega
end Go.Proofs.YtfpocpmcoobjkaaDoor
namespace Go.Proofs.YtfpocpmcoobjkaaDoor
open Go.RowKit
/-- Bits that were read up to now, and what is still to be read, come to the same. -/
def RefRel (bs : List UInt8) (k N r0 : Nat) (r i : Value) : Prop :=
  ∃ j v : Nat, 1 ≤ j ∧ j ≤ N ∧ i = .int .i64 (j : Int) ∧ r = .int .i64 (v : Int) ∧ v < 10000000 ∧ v < 32 * 64 ^ (j - 1) ∧ more bs (N - j) (k + j) v = more bs (N - 1) (k + 1) r0
theorem fin_short {bs : List UInt8} {least N k r0 : Nat} (h1 : 1 ≤ N) (h : bs.length < k + N) (hk : k < bs.length) : fin least N (more bs (N - 1) (k + 1) r0) = (0, 0) := by
  cases hm : more bs (N - 1) (k + 1) r0 with
  | none => rfl
  | some r =>
    have := (more_bounds bs _ _ _ _ hm).2.2
    omega
theorem ref_bad {bs : List UInt8} {least N k r0 j v : Nat} (hj : j < N) (hm : more bs (N - j) (k + j) v = more bs (N - 1) (k + 1) r0) (h : byt bs (k + j) < 128 ∨ 192 ≤ byt bs (k + j)) : fin least N (more bs (N - 1) (k + 1) r0) = (0, 0) := by
  rw [← hm, show N - j = (N - j - 1) + 1 by omega, more, if_neg (by omega)]
  rfl
theorem ref_next {bs : List UInt8} {N k r0 j v : Nat} (hj : j < N) (hk : k + j < bs.length) (hm : more bs (N - j) (k + j) v = more bs (N - 1) (k + 1) r0) (h : 128 ≤ byt bs (k + j)) (h' : byt bs (k + j) < 192) :
    more bs (N - (j + 1)) (k + (j + 1)) (v * 64 + (byt bs (k + j) - 128)) = more bs (N - 1) (k + 1) r0 := by
  rw [← hm, show N - j = (N - (j + 1)) + 1 by omega, more, if_pos ⟨hk, h, h'⟩]
  rfl
theorem ref_end {bs : List UInt8} {least N k r0 v : Nat} (hm : more bs (N - N) (k + N) v = more bs (N - 1) (k + 1) r0) : fin least N (more bs (N - 1) (k + 1) r0) = fin least N (some v) := by
  rw [← hm, Nat.sub_self]
  rfl
theorem fin_no {least N v : Nat} (h : v < least ∨ 1114111 < v ∨ (55296 ≤ v ∧ v ≤ 57343)) : fin least N (some v) = (0, 0) := by
  simp only [fin]
  rw [if_pos h]
theorem fin_yes {least N v : Nat} (h : ¬ (v < least ∨ 1114111 < v ∨ (55296 ≤ v ∧ v ≤ 57343))) : fin least N (some v) = (v, N) := by
  simp only [fin]
  rw [if_neg h]
theorem two_out {out r : Nat × Nat} (h : out = r) : Ending.returned (.tuple #[.int .i64 (r.1 : Int), .int .i64 (r.2 : Int)]) = .returned (.tuple #[.int .i64 (out.1 : Int), .int .i64 (out.2 : Int)]) := by rw [h]
set_option maxHeartbeats 8000000 in
set_option maxRecDepth 100000 in
theorem ref_rune_any (A : Option Addr) (n c : Nat) (bs : List UInt8) (k : Int) (w : World) (hh : Held w (· < w.heap.size) A n bs) (hn : n ≤ 100000000) :
    Calls Tryd.prog 67 #[.slice A n c, .int .i64 k] w fun e w' => e = .returned (.tuple #[.int .i64 ((runeI bs k).1 : Int), .int .i64 ((runeI bs k).2 : Int)]) ∧ w = w' := by
  have HH := Lib.hid hh
  clear hh
  by_cases c1 : k < 0
  · have d1 : decide (k < 0) = true := by simpa using c1
    rw [runeI_out bs k (.inl c1)]
    go_enter Tryd.func67, Tryd.ntmps67
    go_wp2_with fail
    go_ret2
    exact ⟨rfl, rfl⟩
  have d1 : decide (k < 0) = false := by simpa using c1
  obtain ⟨k, rfl⟩ := Int.eq_ofNat_of_zero_le (show 0 ≤ k by omega)
  by_cases c2 : n ≤ k
  · have d2 : decide ((n : Int) ≤ (k : Int)) = true := by simp; omega
    have d2n : decide (n ≤ k) = true := by simp; omega
    rw [runeI_out bs k (.inr (by rw [HH.out.1]; omega))]
    go_enter Tryd.func67, Tryd.ntmps67
    go_wp2_with fail
    go_ret2
    exact ⟨rfl, rfl⟩
  have d2 : decide ((n : Int) ≤ (k : Int)) = false := by simp; omega
  have d2n : decide (n ≤ k) = false := by simp; omega
  have hlt : k < n := by omega
  rw [runeI_nat]
  have HL : Hid (bs.length = n) := HH.out.1
  obtain ⟨b, o, rfl, _, hc⟩ := HH.out.2 (by omega)
  have hcp : w.cell? ⟨b, o + k, none⟩ = some (.int .u8 (byt bs k : Int)) := hc k hlt
  have HC : Hid (∀ i, i < n → w.cell? ⟨b, o + i, none⟩ = some (.int .u8 (byt bs i : Int))) := hc
  clear hc HH
  have hx := byt_lt bs k
  obtain ⟨x, hxe⟩ : ∃ x, x = byt bs k := ⟨_, rfl⟩
  have HR : Hid (rune bs k = if x < 128 then (x, 1) else if x < 192 then (0, 0)
      else if x < 224 then fin 128 2 (more bs 1 (k + 1) (x - 192))
      else if x < 240 then fin 2048 3 (more bs 2 (k + 1) (x - 224))
      else if x < 248 then fin 65536 4 (more bs 3 (k + 1) (x - 240)) else (0, 0)) := show _ = _ by
    unfold rune
    rw [if_neg (by rw [HL.out]; omega), ← hxe]
  rw [← hxe] at hcp hx
  clear hxe
  generalize rune bs k = out at HR ⊢
  by_cases c3 : x < 128
  · have d3 : decide ((x : Int) < 128) = true := by simp; omega
    have HO : Hid (out = _) := show _ from HR.out.trans (if_pos c3)
    clear HR
    go_enter Tryd.func67, Tryd.ntmps67
    go_wp2_with fail
    go_ret2
    exact ⟨two_out HO.out, rfl⟩
  have d3 : decide ((x : Int) < 128) = false := by simp; omega
  by_cases c4 : x < 192
  · have d4 : decide (192 ≤ (x : Int)) = false := by simp; omega
    have d5 : decide (224 ≤ (x : Int)) = false := by simp; omega
    have d6 : decide (240 ≤ (x : Int)) = false := by simp; omega
    have HO : Hid (out = _) := show _ from HR.out.trans (by rw [if_neg c3, if_pos c4])
    clear HR
    go_enter Tryd.func67, Tryd.ntmps67
    go_wp2_with fail
    go_ret2
    exact ⟨two_out HO.out, rfl⟩
  have d4 : decide (192 ≤ (x : Int)) = true := by simp; omega
  by_cases c5 : 248 ≤ x
  · have d5 : decide ((x : Int) < 224) = false := by simp; omega
    have d6 : decide (224 ≤ (x : Int)) = true := by simp; omega
    have d7 : decide ((x : Int) < 240) = false := by simp; omega
    have d8 : decide (240 ≤ (x : Int)) = true := by simp; omega
    have d9 : decide ((x : Int) < 248) = false := by simp; omega
    have HO : Hid (out = _) := show _ from HR.out.trans (by rw [if_neg c3, if_neg c4, if_neg (by omega), if_neg (by omega), if_neg (by omega)])
    clear HR
    go_enter Tryd.func67, Tryd.ntmps67
    go_wp2_with fail
    go_ret2
    exact ⟨two_out HO.out, rfl⟩
  by_cases c6 : x < 224
  · have e0 : decide ((x : Int) < 224) = true := by simp; omega
    obtain ⟨r0, hr0e⟩ : ∃ r0, r0 = x - 192 := ⟨_, rfl⟩
    have HO : Hid (out = fin 128 2 (more bs (2 - 1) (k + 1) r0)) := show _ from HR.out.trans (by rw [if_neg c3, if_neg c4, if_pos c6, hr0e])
    have ES : Hid ((x : Int) - 192 = (r0 : Int)) := show _ = _ by omega
    have hr0 : r0 < 32 := by omega
    clear HR hr0e
    have dn : decide ((x : Int) < 192) = false := by simp; omega
    by_cases s1 : n < k + 2
    · have f1 : decide ((n : Int) - (k : Int) < 2) = true := by simp; omega
      have HO' : Hid (out = _) := show _ from HO.out.trans (fin_short (N := 2) (by decide) (by rw [HL.out]; exact s1) (by rw [HL.out]; exact hlt))
      go_enter Tryd.func67, Tryd.ntmps67
      go_wp2_with fail
      go_ret2
      exact ⟨two_out HO'.out, rfl⟩
    have f1 : decide ((n : Int) - (k : Int) < 2) = false := by simp; omega
    go_enter Tryd.func67, Tryd.ntmps67
    go_wp2_with fail
    rw [ES.out]
    clear ES
    go_loop [8, 10] (fun r i => RefRel bs k 2 r0 r i) (fun _ i => 2 - (intOf i).toNat)
    case atStart => exact ⟨1, r0, Nat.le_refl _, by decide, rfl, rfl, by omega, by omega, rfl⟩
    case round =>
      obtain ⟨j, v, hj1, hjN, rfl, rfl, hv, hv2, hm⟩ := hrel
      have HM := Lib.hid hm
      clear hm
      by_cases hj : j < 2
      · have g1 : decide ((j : Int) < 2) = true := by simp; omega
        have hcj := HC.out (k + j) (by omega)
        have hy := byt_lt bs (k + j)
        obtain ⟨y, hye⟩ : ∃ y, y = byt bs (k + j) := ⟨_, rfl⟩
        rw [← hye] at hcj hy
        have HY := Lib.hid hye
        clear hye
        by_cases y1 : y < 128 ∨ 192 ≤ y
        · have HO' : Hid (out = _) := show _ from HO.out.trans (ref_bad hj HM.out (by rw [← HY.out]; exact y1))
          by_cases y2 : y < 128
          · have g2 : decide ((y : Int) < 128) = true := by simp; omega
            go_wp2_with fail
            go_ret2
            exact ⟨two_out HO'.out, rfl⟩
          · have g2 : decide ((y : Int) < 128) = false := by simp; omega
            have g3 : decide (192 ≤ (y : Int)) = true := by simp; omega
            go_wp2_with fail
            go_ret2
            exact ⟨two_out HO'.out, rfl⟩
        · have HN := Lib.hid (ref_next hj (by rw [HL.out]; omega) HM.out (by rw [← HY.out]; omega) (by rw [← HY.out]; omega))
          rw [← HY.out] at HN
          have g2 : decide ((y : Int) < 128) = false := by simp; omega
          have g3 : decide (192 ≤ (y : Int)) = false := by simp; omega
          have hv3 : v * 64 + (y - 128) < 32 * 64 ^ j := by
            have e : (64 : Nat) ^ j = 64 ^ (j - 1) * 64 := by rw [← Nat.pow_succ]; congr 1; omega
            rw [e]
            generalize 64 ^ (j - 1) = t at hv2
            omega
          have hv4 : v * 64 + (y - 128) < 10000000 := by
            have : j ≤ 3 := by omega
            have h3 : 32 * 64 ^ (j - 1) ≤ 32 * 64 ^ 2 := Nat.mul_le_mul_left _ (Nat.pow_le_pow_right (by decide) (by omega))
            omega
          go_wp2_with fail
          go_round
          case rel => exact ⟨j + 1, v * 64 + (y - 128), by omega, by omega, by go_num, ret_val (by omega), hv4, hv3, HN.out⟩
          case measure => simp [intOf]; omega
      · obtain rfl : j = 2 := by omega
        have HOe : Hid (out = _) := show _ from HO.out.trans (ref_end HM.out)
        by_cases z : v < 128 ∨ 1114111 < v ∨ (55296 ≤ v ∧ v ≤ 57343)
        · have HO' : Hid (out = _) := show _ from HOe.out.trans (fin_no z)
          by_cases z1 : v < 128
          · have q1 : decide ((v : Int) < 128) = true := by simp; omega
            go_wp2_with fail
            go_ret2
            exact ⟨two_out HO'.out, rfl⟩
          have q1 : decide ((v : Int) < 128) = false := by simp; omega
          by_cases z2 : 1114111 < v
          · have q2 : decide (1114111 < (v : Int)) = true := by simp; omega
            go_wp2_with fail
            go_ret2
            exact ⟨two_out HO'.out, rfl⟩
          have q2 : decide (1114111 < (v : Int)) = false := by simp; omega
          have q3 : decide (55296 ≤ (v : Int)) = true := by simp; omega
          have q4 : decide ((v : Int) ≤ 57343) = true := by simp; omega
          go_wp2_with fail
          go_ret2
          exact ⟨two_out HO'.out, rfl⟩
        · have HO' : Hid (out = _) := show _ from HOe.out.trans (fin_yes z)
          have q1 : decide ((v : Int) < 128) = false := by simp; omega
          have q2 : decide (1114111 < (v : Int)) = false := by simp; omega
          by_cases z3 : 55296 ≤ v
          · have q3 : decide (55296 ≤ (v : Int)) = true := by simp; omega
            have q4 : decide ((v : Int) ≤ 57343) = false := by simp; omega
            go_wp2_with fail
            go_ret2
            exact ⟨two_out HO'.out, rfl⟩
          · have q3 : decide (55296 ≤ (v : Int)) = false := by simp; omega
            go_wp2_with fail
            go_ret2
            exact ⟨two_out HO'.out, rfl⟩
  have d6 : decide ((x : Int) < 224) = false := by simp; omega
  have d7 : decide (224 ≤ (x : Int)) = true := by simp; omega
  by_cases c7 : x < 240
  · have e0 : decide ((x : Int) < 240) = true := by simp; omega
    obtain ⟨r0, hr0e⟩ : ∃ r0, r0 = x - 224 := ⟨_, rfl⟩
    have HO : Hid (out = fin 2048 3 (more bs (3 - 1) (k + 1) r0)) := show _ from HR.out.trans (by rw [if_neg c3, if_neg c4, if_neg c6, if_pos c7, hr0e])
    have ES : Hid ((x : Int) - 224 = (r0 : Int)) := show _ = _ by omega
    have hr0 : r0 < 32 := by omega
    clear HR hr0e
    have dn : decide ((x : Int) < 192) = false := by simp; omega
    by_cases s1 : n < k + 3
    · have f1 : decide ((n : Int) - (k : Int) < 3) = true := by simp; omega
      have HO' : Hid (out = _) := show _ from HO.out.trans (fin_short (N := 3) (by decide) (by rw [HL.out]; exact s1) (by rw [HL.out]; exact hlt))
      go_enter Tryd.func67, Tryd.ntmps67
      go_wp2_with fail
      go_ret2
      exact ⟨two_out HO'.out, rfl⟩
    have f1 : decide ((n : Int) - (k : Int) < 3) = false := by simp; omega
    go_enter Tryd.func67, Tryd.ntmps67
    go_wp2_with fail
    rw [ES.out]
    clear ES
    go_loop [8, 10] (fun r i => RefRel bs k 3 r0 r i) (fun _ i => 3 - (intOf i).toNat)
    case atStart => exact ⟨1, r0, Nat.le_refl _, by decide, rfl, rfl, by omega, by omega, rfl⟩
    case round =>
      obtain ⟨j, v, hj1, hjN, rfl, rfl, hv, hv2, hm⟩ := hrel
      have HM := Lib.hid hm
      clear hm
      by_cases hj : j < 3
      · have g1 : decide ((j : Int) < 3) = true := by simp; omega
        have hcj := HC.out (k + j) (by omega)
        have hy := byt_lt bs (k + j)
        obtain ⟨y, hye⟩ : ∃ y, y = byt bs (k + j) := ⟨_, rfl⟩
        rw [← hye] at hcj hy
        have HY := Lib.hid hye
        clear hye
        by_cases y1 : y < 128 ∨ 192 ≤ y
        · have HO' : Hid (out = _) := show _ from HO.out.trans (ref_bad hj HM.out (by rw [← HY.out]; exact y1))
          by_cases y2 : y < 128
          · have g2 : decide ((y : Int) < 128) = true := by simp; omega
            go_wp2_with fail
            go_ret2
            exact ⟨two_out HO'.out, rfl⟩
          · have g2 : decide ((y : Int) < 128) = false := by simp; omega
            have g3 : decide (192 ≤ (y : Int)) = true := by simp; omega
            go_wp2_with fail
            go_ret2
            exact ⟨two_out HO'.out, rfl⟩
        · have HN := Lib.hid (ref_next hj (by rw [HL.out]; omega) HM.out (by rw [← HY.out]; omega) (by rw [← HY.out]; omega))
          rw [← HY.out] at HN
          have g2 : decide ((y : Int) < 128) = false := by simp; omega
          have g3 : decide (192 ≤ (y : Int)) = false := by simp; omega
          have hv3 : v * 64 + (y - 128) < 32 * 64 ^ j := by
            have e : (64 : Nat) ^ j = 64 ^ (j - 1) * 64 := by rw [← Nat.pow_succ]; congr 1; omega
            rw [e]
            generalize 64 ^ (j - 1) = t at hv2
            omega
          have hv4 : v * 64 + (y - 128) < 10000000 := by
            have : j ≤ 3 := by omega
            have h3 : 32 * 64 ^ (j - 1) ≤ 32 * 64 ^ 2 := Nat.mul_le_mul_left _ (Nat.pow_le_pow_right (by decide) (by omega))
            omega
          go_wp2_with fail
          go_round
          case rel => exact ⟨j + 1, v * 64 + (y - 128), by omega, by omega, by go_num, ret_val (by omega), hv4, hv3, HN.out⟩
          case measure => simp [intOf]; omega
      · obtain rfl : j = 3 := by omega
        have HOe : Hid (out = _) := show _ from HO.out.trans (ref_end HM.out)
        by_cases z : v < 2048 ∨ 1114111 < v ∨ (55296 ≤ v ∧ v ≤ 57343)
        · have HO' : Hid (out = _) := show _ from HOe.out.trans (fin_no z)
          by_cases z1 : v < 2048
          · have q1 : decide ((v : Int) < 2048) = true := by simp; omega
            go_wp2_with fail
            go_ret2
            exact ⟨two_out HO'.out, rfl⟩
          have q1 : decide ((v : Int) < 2048) = false := by simp; omega
          by_cases z2 : 1114111 < v
          · have q2 : decide (1114111 < (v : Int)) = true := by simp; omega
            go_wp2_with fail
            go_ret2
            exact ⟨two_out HO'.out, rfl⟩
          have q2 : decide (1114111 < (v : Int)) = false := by simp; omega
          have q3 : decide (55296 ≤ (v : Int)) = true := by simp; omega
          have q4 : decide ((v : Int) ≤ 57343) = true := by simp; omega
          go_wp2_with fail
          go_ret2
          exact ⟨two_out HO'.out, rfl⟩
        · have HO' : Hid (out = _) := show _ from HOe.out.trans (fin_yes z)
          have q1 : decide ((v : Int) < 2048) = false := by simp; omega
          have q2 : decide (1114111 < (v : Int)) = false := by simp; omega
          by_cases z3 : 55296 ≤ v
          · have q3 : decide (55296 ≤ (v : Int)) = true := by simp; omega
            have q4 : decide ((v : Int) ≤ 57343) = false := by simp; omega
            go_wp2_with fail
            go_ret2
            exact ⟨two_out HO'.out, rfl⟩
          · have q3 : decide (55296 ≤ (v : Int)) = false := by simp; omega
            go_wp2_with fail
            go_ret2
            exact ⟨two_out HO'.out, rfl⟩
  have d8 : decide ((x : Int) < 240) = false := by simp; omega
  have d9 : decide (240 ≤ (x : Int)) = true := by simp; omega
  have e0 : decide ((x : Int) < 248) = true := by simp; omega
  obtain ⟨r0, hr0e⟩ : ∃ r0, r0 = x - 240 := ⟨_, rfl⟩
  have HO : Hid (out = fin 65536 4 (more bs (4 - 1) (k + 1) r0)) := show _ from HR.out.trans (by rw [if_neg c3, if_neg c4, if_neg c6, if_neg c7, if_pos (by omega), hr0e])
  have ES : Hid ((x : Int) - 240 = (r0 : Int)) := show _ = _ by omega
  have hr0 : r0 < 32 := by omega
  clear HR hr0e
  have dn : decide ((x : Int) < 192) = false := by simp; omega
  by_cases s1 : n < k + 4
  · have f1 : decide ((n : Int) - (k : Int) < 4) = true := by simp; omega
    have HO' : Hid (out = _) := show _ from HO.out.trans (fin_short (N := 4) (by decide) (by rw [HL.out]; exact s1) (by rw [HL.out]; exact hlt))
    go_enter Tryd.func67, Tryd.ntmps67
    go_wp2_with fail
    go_ret2
    exact ⟨two_out HO'.out, rfl⟩
  have f1 : decide ((n : Int) - (k : Int) < 4) = false := by simp; omega
  go_enter Tryd.func67, Tryd.ntmps67
  go_wp2_with fail
  rw [ES.out]
  clear ES
  go_loop [8, 10] (fun r i => RefRel bs k 4 r0 r i) (fun _ i => 4 - (intOf i).toNat)
  case atStart => exact ⟨1, r0, Nat.le_refl _, by decide, rfl, rfl, by omega, by omega, rfl⟩
  case round =>
    obtain ⟨j, v, hj1, hjN, rfl, rfl, hv, hv2, hm⟩ := hrel
    have HM := Lib.hid hm
    clear hm
    by_cases hj : j < 4
    · have g1 : decide ((j : Int) < 4) = true := by simp; omega
      have hcj := HC.out (k + j) (by omega)
      have hy := byt_lt bs (k + j)
      obtain ⟨y, hye⟩ : ∃ y, y = byt bs (k + j) := ⟨_, rfl⟩
      rw [← hye] at hcj hy
      have HY := Lib.hid hye
      clear hye
      by_cases y1 : y < 128 ∨ 192 ≤ y
      · have HO' : Hid (out = _) := show _ from HO.out.trans (ref_bad hj HM.out (by rw [← HY.out]; exact y1))
        by_cases y2 : y < 128
        · have g2 : decide ((y : Int) < 128) = true := by simp; omega
          go_wp2_with fail
          go_ret2
          exact ⟨two_out HO'.out, rfl⟩
        · have g2 : decide ((y : Int) < 128) = false := by simp; omega
          have g3 : decide (192 ≤ (y : Int)) = true := by simp; omega
          go_wp2_with fail
          go_ret2
          exact ⟨two_out HO'.out, rfl⟩
      · have HN := Lib.hid (ref_next hj (by rw [HL.out]; omega) HM.out (by rw [← HY.out]; omega) (by rw [← HY.out]; omega))
        rw [← HY.out] at HN
        have g2 : decide ((y : Int) < 128) = false := by simp; omega
        have g3 : decide (192 ≤ (y : Int)) = false := by simp; omega
        have hv3 : v * 64 + (y - 128) < 32 * 64 ^ j := by
          have e : (64 : Nat) ^ j = 64 ^ (j - 1) * 64 := by rw [← Nat.pow_succ]; congr 1; omega
          rw [e]
          generalize 64 ^ (j - 1) = t at hv2
          omega
        have hv4 : v * 64 + (y - 128) < 10000000 := by
          have : j ≤ 3 := by omega
          have h3 : 32 * 64 ^ (j - 1) ≤ 32 * 64 ^ 2 := Nat.mul_le_mul_left _ (Nat.pow_le_pow_right (by decide) (by omega))
          omega
        go_wp2_with fail
        go_round
        case rel => exact ⟨j + 1, v * 64 + (y - 128), by omega, by omega, by go_num, ret_val (by omega), hv4, hv3, HN.out⟩
        case measure => simp [intOf]; omega
    · obtain rfl : j = 4 := by omega
      have HOe : Hid (out = _) := show _ from HO.out.trans (ref_end HM.out)
      by_cases z : v < 65536 ∨ 1114111 < v ∨ (55296 ≤ v ∧ v ≤ 57343)
      · have HO' : Hid (out = _) := show _ from HOe.out.trans (fin_no z)
        by_cases z1 : v < 65536
        · have q1 : decide ((v : Int) < 65536) = true := by simp; omega
          go_wp2_with fail
          go_ret2
          exact ⟨two_out HO'.out, rfl⟩
        have q1 : decide ((v : Int) < 65536) = false := by simp; omega
        by_cases z2 : 1114111 < v
        · have q2 : decide (1114111 < (v : Int)) = true := by simp; omega
          go_wp2_with fail
          go_ret2
          exact ⟨two_out HO'.out, rfl⟩
        have q2 : decide (1114111 < (v : Int)) = false := by simp; omega
        have q3 : decide (55296 ≤ (v : Int)) = true := by simp; omega
        have q4 : decide ((v : Int) ≤ 57343) = true := by simp; omega
        go_wp2_with fail
        go_ret2
        exact ⟨two_out HO'.out, rfl⟩
      · have HO' : Hid (out = _) := show _ from HOe.out.trans (fin_yes z)
        have q1 : decide ((v : Int) < 65536) = false := by simp; omega
        have q2 : decide (1114111 < (v : Int)) = false := by simp; omega
        by_cases z3 : 55296 ≤ v
        · have q3 : decide (55296 ≤ (v : Int)) = true := by simp; omega
          have q4 : decide ((v : Int) ≤ 57343) = false := by simp; omega
          go_wp2_with fail
          go_ret2
          exact ⟨two_out HO'.out, rfl⟩
        · have q3 : decide (55296 ≤ (v : Int)) = false := by simp; omega
          go_wp2_with fail
          go_ret2
          exact ⟨two_out HO'.out, rfl⟩
def RefCheckRel (bs : List UInt8) (i : Value) : Prop := ∃ k : Nat, k ≤ bs.length ∧ i = .int .i64 (k : Int) ∧ stop bs k = stop bs 0
set_option maxHeartbeats 400000 in
theorem ref_check_any (A : Option Addr) (n c : Nat) (bs : List UInt8) (w : World) (hh : Held w (· < w.heap.size) A n bs) (hn : n ≤ 100000000) :
    Calls Tryd.prog 60 #[.slice A n c] w fun e w' => e = .returned (.tuple #[.int .i64 (stop bs 0 : Int), .bool (wholeB bs)]) ∧ w = w' := by
  have HH := Lib.hid hh
  have HL := Lib.hid hh.1
  clear hh
  go_enter Tryd.func60, Tryd.ntmps60
  go_wp2_with fail
  go_loop [4] (fun i => RefCheckRel bs i) (fun i => n - (intOf i).toNat)
  case atStart => exact ⟨0, Nat.zero_le _, rfl, rfl⟩
  case round =>
    obtain ⟨k, hk, rfl, hs⟩ := hrel
    have HS := Lib.hid hs
    have hkn : k ≤ n := by rw [← HL.out]; exact hk
    clear hs hk
    by_cases hlt : k < n
    · have d1 : decide ((k : Int) < (n : Int)) = true := by simp; omega
      have d1n : decide (k < n) = true := by simp; omega
      go_wp2_with fail
      refine (ref_rune_any A n c bs (k : Int) _ HH.out hn).mono ?_
      rw [runeI_nat]
      rintro e w1 ⟨rfl, rfl⟩
      have hr := rune_cases bs k
      by_cases h0 : (rune bs k).2 = 0
      · have HS' : Hid (k = stop bs 0) := show _ from (stop_end h0).symm.trans HS.out
        clear hr
        generalize rune bs k = r at h0
        obtain ⟨r1, r2⟩ := r
        simp only at h0
        subst h0
        go_wp2_with fail
        go_ret2
        refine ⟨int_num_bool (congrArg _ HS'.out) ?_, rfl⟩
        unfold wholeB
        rw [← HS'.out, HL.out]
        simp
        omega
      · have hb : 1 ≤ (rune bs k).2 ∧ k + (rune bs k).2 ≤ n := by
          rcases hr with e | e
          · exact absurd (by rw [e]) h0
          · rw [← HL.out]; exact ⟨e.1, e.2.2.1⟩
        have HS' : Hid (stop bs (k + (rune bs k).2) = stop bs 0) := show _ from (stop_on h0).symm.trans HS.out
        clear hr h0
        generalize rune bs k = r at hb HS'
        obtain ⟨r1, r2⟩ := r
        simp only at hb HS'
        have d0 : ((r2 : Int) == 0) = false := by simp; omega
        go_wp2_with fail
        go_round
        case rel => exact ⟨k + r2, by rw [HL.out]; exact hb.2, by go_num, HS'.out⟩
        case measure => simp [intOf]; omega
    · have d1 : decide ((k : Int) < (n : Int)) = false := by simp; omega
      have d1n : decide (k < n) = false := by simp; omega
      have HS' : Hid (n = stop bs 0) := by
        have h0 : (rune bs k).2 = 0 := by rw [rune_past bs k (by rw [HL.out]; omega)]
        have := (stop_end h0).symm.trans HS.out
        show _ = _
        omega
      go_wp2_with fail
      go_ret2
      refine ⟨int_num_bool (congrArg _ HS'.out) ?_, rfl⟩
      unfold wholeB
      rw [← HS'.out, HL.out]
      simp
def RefCountRel (bs : List UInt8) (j i : Value) : Prop := ∃ k m : Nat, k ≤ bs.length ∧ m ≤ k ∧ i = .int .i64 (k : Int) ∧ j = .int .i64 (m : Int) ∧ m + cnt bs k = cnt bs 0
end Go.Proofs.YtfpocpmcoobjkaaDoor
