/-
  What utf.long does: a machine of states, by goto, which tells the character that begins at a place with a byte from 128 on; no condition beyond what each contract asks.
-/
import Derived.Test.YthaboikiobmfbaaUtfA
import Derived.WalkMore
import Derived.ScopeJumps
namespace Go.Proofs.Ythaboikiobmfbaa
open Go.RowKit

/-- As Q; by a goto to label l: J l. -/
def Jumps (J : Nat → Act → World → Prop) (Q : Exit → Act → World → Prop) : Exit → Act → World → Prop
  | .goto l, a, w => J l a w
  | e, a, w => Q e a w
theorem jumps_ret {J : Nat → Act → World → Prop} {Q : Exit → Act → World → Prop} {a : Act} {w : World} : Jumps J Q .ret a w = Q .ret a w := rfl
theorem jumps_goto {J : Nat → Act → World → Prop} {Q : Exit → Act → World → Prop} {a : Act} {w : World} (l : Nat) : Jumps J Q (.goto l) a w = J l a w := rfl

/-- A scope with many labels: what holds at every jump, by label, and a rank of the labels that every jump lowers. -/
theorem wp_scope_labels {P : Program} {a : Act} {w : World} {Q : Exit → Act → World → Prop} {c : Code} (rank : Nat → Nat) (J : Nat → Act → World → Prop)
    (first : c.wp P (Jumps J Q) a w)
    (pass : ∀ l a w, J l a w → ∃ rest, findLabel c l = some rest ∧ rest.wp P (Jumps (fun l' a' w' => J l' a' w' ∧ rank l' < rank l) Q) a w) : (Code.scope c).wp P Q a w := by
  intro b k cs
  have key : ∀ n l a w, rank l = n → J l a w → ∃ rest, findLabel c l = some rest ∧ ∃ e a' w', Q e a' w' ∧ Arrives P (lone (b.at a (.code rest :: .inScope c :: k)) cs w) b k cs e a' w' := by
    intro n
    induction n using Nat.strongRecOn with
    | _ n ih =>
      intro l a w hn hJ
      obtain ⟨rest, hf, hp⟩ := pass l a w hJ
      refine ⟨rest, hf, ?_⟩
      obtain ⟨e, a₁, w₁, hq, harr⟩ := hp b (.inScope c :: k) cs
      cases e with
      | normal => exact ⟨.normal, a₁, w₁, hq, Steps.trans harr (.one step_inScope)⟩
      | exit id => exact ⟨.exit id, a₁, w₁, hq, fun k' hk => harr k' (by simp [exitTo, hk])⟩
      | goto l' =>
        obtain ⟨hJ', hlt⟩ := hq
        obtain ⟨rest', hf', e₂, a₂, w₂, hq₂, harr₂⟩ := ih _ (by omega) l' a₁ w₁ rfl hJ'
        have hg : gotoIn l' (.inScope c :: k) = some (.code rest' :: .inScope c :: k) := by simp [gotoIn, hf']
        exact ⟨e₂, a₂, w₂, hq₂, .of_steps (harr _ hg) harr₂⟩
      | ret => exact ⟨_, a₁, w₁, hq, harr⟩
      | panic ch => exact ⟨_, a₁, w₁, hq, harr⟩
      | outgrown => exact ⟨_, a₁, w₁, hq, harr⟩
  obtain ⟨e, a₁, w₁, hq, harr⟩ := first b (.inScope c :: k) cs
  cases e with
  | normal => exact ⟨.normal, a₁, w₁, hq, .head step_scope (Steps.trans harr (.one step_inScope))⟩
  | exit id => exact ⟨.exit id, a₁, w₁, hq, fun k' hk => .head step_scope (harr k' (by simp [exitTo, hk]))⟩
  | goto l' =>
    obtain ⟨rest', hf', e₂, a₂, w₂, hq₂, harr₂⟩ := key _ l' a₁ w₁ rfl hq
    have hg : gotoIn l' (.inScope c :: k) = some (.code rest' :: .inScope c :: k) := by simp [gotoIn, hf']
    exact ⟨e₂, a₂, w₂, hq₂, .of_steps (.head step_scope (harr _ hg)) harr₂⟩
  | ret => exact ⟨_, a₁, w₁, hq, .of_steps (.one step_scope) harr⟩
  | panic ch => exact ⟨_, a₁, w₁, hq, .of_steps (.one step_scope) harr⟩
  | outgrown => exact ⟨_, a₁, w₁, hq, .of_steps (.one step_scope) harr⟩

/-- The frame of utf.long at a label: what is read later, and whatever else. -/
def LongAt (A : Option Addr) (n c k q : Nat) (a : Act) : Prop :=
  ∃ u2 u3 u4 u5 u7 u8 u9 u10 u11 u12 u13 u14 u15 u16 u17 u18 u19 u20 u21 u22 u23 u24 u25 u26 u27 u28 u29 u30 u31 u32 u33 u34 u35 u36 u37 u38 u39 u40 u41 u42 u43 u44 u45 u46 u47 u48 u49 u50 u51 u52 u53 u54 u55 : Value, a = { tmps := #[.slice A n c, .int .i64 (k : Int), u2, u3, u4, u5, .pointer (some ⟨q, 0, none⟩), u7, u8, u9, u10, u11, u12, u13, u14, u15, u16, u17, u18, u19, u20, u21, u22, u23, u24, u25, u26, u27, u28, u29, u30, u31, u32, u33, u34, u35, u36, u37, u38, u39, u40, u41, u42, u43, u44, u45, u46, u47, u48, u49, u50, u51, u52, u53, u54, u55], defers := [] }

/-- What is told from a label on. -/
def goal (bs : List UInt8) (k l p v : Nat) : Nat × Nat :=
  match l with
  | 0 => (0, 0)
  | 1 => told (p + 1 - k) (more bs 1 p v)
  | 2 => told (p + 2 - k) (tight bs 160 191 1 p v)
  | 3 => told (p + 2 - k) (tight bs 128 159 1 p v)
  | 4 => told (p + 2 - k) (more bs 2 p v)
  | 5 => told (p + 3 - k) (tight bs 144 191 2 p v)
  | 6 => told (p + 3 - k) (more bs 3 p v)
  | _ => told (p + 3 - k) (tight bs 128 143 2 p v)
def vMax (l : Nat) : Nat := match l with
  | 0 => 100000000 | 1 => 131072 | 4 => 2048 | _ => 32
def rankOf (l : Nat) : Nat := match l with
  | 0 => 0 | 1 => 1 | 4 => 2 | 6 => 3 | _ => 4

/-- The label that a first byte leads to. -/
def labelOf (x : Nat) : Nat :=
  if x ≤ 193 then 0 else if x ≤ 223 then 1 else if x = 224 then 2 else if x = 237 then 3 else if x ≤ 239 then 4 else if x = 240 then 5 else if x ≤ 243 then 6 else if x = 244 then 7 else 0
theorem longF_goal (bs : List UInt8) (k : Nat) : longF bs k = goal bs k (labelOf (byt bs k)) (k + 1) (leadBits (byt bs k)) := by
  unfold longF labelOf
  generalize byt bs k = x
  by_cases c1 : x ≤ 193
  · rw [if_pos c1, if_pos c1]; rfl
  rw [if_neg c1, if_neg c1]
  by_cases c2 : x ≤ 223
  · rw [if_pos c2, if_pos c2, leadBits, if_pos c2]
    simp only [goal]
    rw [show k + 1 + 1 - k = 2 by omega, show x % 32 = x - 192 by omega]
  rw [if_neg c2, if_neg c2]
  by_cases c3 : x = 224
  · subst c3
    rw [if_pos rfl, if_pos rfl]
    simp only [goal]
    rw [show k + 1 + 2 - k = 3 by omega]; rfl
  rw [if_neg c3, if_neg c3]
  by_cases c4 : x = 237
  · subst c4
    rw [if_pos rfl, if_pos rfl]
    simp only [goal]
    rw [show k + 1 + 2 - k = 3 by omega]; rfl
  rw [if_neg c4, if_neg c4]
  by_cases c5 : x ≤ 239
  · rw [if_pos c5, if_pos c5, leadBits, if_neg c2, if_pos c5]
    simp only [goal]
    rw [show k + 1 + 2 - k = 3 by omega, show x % 16 = x - 224 by omega]
  rw [if_neg c5, if_neg c5]
  by_cases c6 : x = 240
  · subst c6
    rw [if_pos rfl, if_pos rfl]
    simp only [goal]
    rw [show k + 1 + 3 - k = 4 by omega]; rfl
  rw [if_neg c6, if_neg c6]
  by_cases c7 : x ≤ 243
  · rw [if_pos c7, if_pos c7, leadBits, if_neg c2, if_neg c5]
    simp only [goal]
    rw [show k + 1 + 3 - k = 4 by omega, show x % 8 = x - 240 by omega]
  rw [if_neg c7, if_neg c7]
  by_cases c8 : x = 244
  · subst c8
    rw [if_pos rfl, if_pos rfl]
    simp only [goal]
    rw [show k + 1 + 3 - k = 4 by omega]; rfl
  rw [if_neg c8, if_neg c8]
  rfl
theorem leadBits_lt (x : Nat) : leadBits x < 32 := by unfold leadBits; (repeat' split) <;> omega

def loOf (l : Nat) : Nat := match l with
  | 2 => 160 | 5 => 144 | _ => 128
def hiOf (l : Nat) : Nat := match l with
  | 3 => 159 | 7 => 143 | _ => 191
def nextOf (l : Nat) : Nat := match l with
  | 5 => 4 | 6 => 4 | 7 => 4 | _ => 1
theorem more_yes {bs : List UInt8} {j p v : Nat} (h : p < bs.length ∧ 128 ≤ byt bs p ∧ byt bs p ≤ 191) : more bs (j + 1) p v = more bs j (p + 1) (v * 64 + (byt bs p - 128)) := by
  rw [more, if_pos (by omega)]
theorem more_not {bs : List UInt8} {j p v : Nat} (h : ¬ (p < bs.length ∧ 128 ≤ byt bs p ∧ byt bs p ≤ 191)) : more bs (j + 1) p v = none := by
  rw [more, if_neg (by omega)]
theorem goal_stop (bs : List UInt8) (k p v l : Nat) (ha : 1 ≤ l) (hb : l ≤ 7) : ¬ (p < bs.length ∧ loOf l ≤ byt bs p ∧ byt bs p ≤ hiOf l) → goal bs k l p v = goal bs k 0 p v := by
  rcases (by omega : l = 1 ∨ l = 2 ∨ l = 3 ∨ l = 4 ∨ l = 5 ∨ l = 6 ∨ l = 7) with rfl | rfl | rfl | rfl | rfl | rfl | rfl <;> intro h <;> simp only [goal, loOf, hiOf] at h ⊢
  · rw [more_not h]; rfl
  · rw [tight, if_neg h]; rfl
  · rw [tight, if_neg h]; rfl
  · rw [more_not h]; rfl
  · rw [tight, if_neg h]; rfl
  · rw [more_not h]; rfl
  · rw [tight, if_neg h]; rfl
theorem goal_done (bs : List UInt8) (k p v : Nat) (h : p < bs.length ∧ loOf 1 ≤ byt bs p ∧ byt bs p ≤ hiOf 1) : goal bs k 1 p v = (v * 64 + (byt bs p - 128), p + 1 - k) := by
  simp only [goal]
  rw [more_yes h]; rfl
theorem goal_next (bs : List UInt8) (k p v l : Nat) (ha : 1 < l) (hb : l ≤ 7) : (p < bs.length ∧ loOf l ≤ byt bs p ∧ byt bs p ≤ hiOf l) → goal bs k l p v = goal bs k (nextOf l) (p + 1) (v * 64 + (byt bs p - 128)) := by
  rcases (by omega : l = 2 ∨ l = 3 ∨ l = 4 ∨ l = 5 ∨ l = 6 ∨ l = 7) with rfl | rfl | rfl | rfl | rfl | rfl <;> intro h <;> simp only [goal, loOf, hiOf, nextOf] at h ⊢
  · rw [tight, if_pos h, Nat.add_right_comm]
  · rw [tight, if_pos h, Nat.add_right_comm]
  · rw [more_yes h, Nat.add_right_comm]
  · rw [tight, if_pos h, Nat.add_right_comm]
  · rw [more_yes h, Nat.add_right_comm]
  · rw [tight, if_pos h, Nat.add_right_comm]

theorem tail_no (q : Nat) (A : Option Addr) (n c : Nat) (bs : List UInt8) (p v lo hi : Nat) (w : World) (h : Rg w q A n c bs p v) (hn : n ≤ 100000000) (_hp : p ≤ 200000000) (hb : ¬ (p < n ∧ lo ≤ byt bs p ∧ byt bs p ≤ hi)) :
    Calls Try.prog 25 #[.pointer (some ⟨q, 0, none⟩), .int .u8 (lo : Int), .int .u8 (hi : Int)] w (TailNo w) := by
  by_cases c1 : p < n
  · exact tail_bad q A n c bs p v lo hi w h hn c1 (by omega)
  · exact tail_past q A n c bs p v lo hi w h (by omega)
theorem Below.drawn {B : Nat} {w w' : World} (h : Below B w w') (m : Nat) : Below B w (w'.drewN m) := ⟨h.os, h.tape, h.output, h.size, h.block⟩

/-- What holds at a jump to a label. -/
def LongJ (w0 : World) (q : Nat) (A : Option Addr) (n c : Nat) (bs : List UInt8) (k : Nat) (out : Nat × Nat) (l : Nat) (a : Act) (w : World) : Prop :=
  l ≤ 7 ∧ LongAt A n c k q a ∧ ∃ p v, Rg w q A n c bs p v ∧ Below w0.heap.size w0 w ∧ v < vMax l ∧ k < p ∧ p + rankOf l ≤ k + 5 ∧ goal bs k l p v = out

def TwoPost (r : Nat × Nat) (w : World) (e : Ending) (w' : World) : Prop :=
  e = .returned (.tuple #[.int .i64 (r.1 : Int), .int .i64 (r.2 : Int)]) ∧ Below w.heap.size w w'

theorem two_num {a b c d : Int} (h : a = c) (h' : b = d) : Ending.returned (.tuple #[.int .i64 a, .int .i64 b]) = .returned (.tuple #[.int .i64 c, .int .i64 d]) := by rw [h, h']

set_option maxHeartbeats 2000000 in
set_option maxRecDepth 100000 in
theorem long_any (A : Option Addr) (n c : Nat) (bs : List UInt8) (k : Nat) (w : World) (hh : Held w (· < w.heap.size) A n bs) (hn : n ≤ 100000000) (hlt : k < n) (h128 : 128 ≤ byt bs k) :
    Calls Try.prog 19 #[.slice A n c, .int .i64 (k : Int)] w (TwoPost (rune bs k) w) := by
  have HH := Lib.hid hh
  clear hh
  have HO : Hid (∀ l, labelOf (byt bs k) = l → goal bs k l (k + 1) (leadBits (byt bs k)) = rune bs k) := fun l hl => by
    rw [← hl, ← longF_goal]
    exact (rune_long bs k (by rw [HH.out.1]; exact hlt) h128).symm
  have hx := byt_lt bs k
  go_enter Try.func19, Try.ntmps19
  go_wp2_with fail
  refine wp_scope_labels rankOf (LongJ w w.heap.size A n c bs k (rune bs k)) ?_ ?_
  · go_wp2_with fail
    have hR0 : Rg (w.alloc (.cells #[.slice A n c, .int .i64 (k : Int), .int .i64 0] 44)) w.heap.size A n c bs k 0 :=
      ⟨heap_alloc_new _ _, HH.out.keep fun j hj => Below.heap_alloc _ _ _ hj⟩
    refine (lead_any w.heap.size A n c bs k 0 _ hR0 hn hlt).mono ?_
    rintro e w1 ⟨rfl, hR1, hk1⟩
    have B1 : Below w.heap.size w w1 := ((Below.refl _ _).alloc (Nat.le_refl _) _).trans (hk1.below (by simp) (fun j hj e => by omega))
    have HR1 := Lib.hid hR1
    clear hR0 hR1 hk1
    generalize byt bs k = x at HO HR1 h128 hx
    go_wp2_with fail
    all_goals
      go_step3
      refine ⟨by decide, ⟨_, _, _, _, _, _, _, _, _, _, _, _, _, _, _, _, _, _, _, _, _, _, _, _, _, _, _, _, _, _, _, _, _, _, _, _, _, _, _, _, _, _, _, _, _, _, _, _, _, _, _, _, _, rfl⟩, k + 1, leadBits x, HR1.out, B1, Nat.lt_of_lt_of_le (leadBits_lt x) (by decide), by omega, by simp only [rankOf]; omega, HO.out _ ?_⟩
      (try simp only [beq_iff_eq, beq_eq_false_iff_ne, ne_eq] at *)
      unfold labelOf
      (repeat' split) <;> omega
  · clear HO
    have HL := Lib.hid HH.out.1
    clear HH h128 hx
    rintro l a' w0 ⟨hl, hF, p, v, hR, B0, hv, hkp, hpk, hgoal⟩
    have HR0 := Lib.hid hR
    clear hR
    generalize rune bs k = out at hgoal ⊢
    have HG0 := Lib.hid hgoal
    clear hgoal
    obtain ⟨u2, u3, u4, u5, u7, u8, u9, u10, u11, u12, u13, u14, u15, u16, u17, u18, u19, u20, u21, u22, u23, u24, u25, u26, u27, u28, u29, u30, u31, u32, u33, u34, u35, u36, u37, u38, u39, u40, u41, u42, u43, u44, u45, u46, u47, u48, u49, u50, u51, u52, u53, u54, u55, rfl⟩ := hF
    rcases (by omega : l = 0 ∨ l = 1 ∨ l = 2 ∨ l = 3 ∨ l = 4 ∨ l = 5 ∨ l = 6 ∨ l = 7) with rfl | rfl | rfl | rfl | rfl | rfl | rfl | rfl
    · refine ⟨_, rfl, ?_⟩
      go_wp2_with fail
      rw [jumps_ret, ← HG0.out]
      go_ret2
      exact ⟨rfl, B0⟩
    · refine ⟨_, rfl, ?_⟩
      simp only [vMax] at hv
      simp only [rankOf] at hpk
      go_wp2_with fail
      by_cases hc0 : p < n ∧ 128 ≤ byt bs p ∧ byt bs p ≤ 191
      · have HS0 : Hid (p < bs.length ∧ 128 ≤ byt bs p ∧ byt bs p ≤ 191) := show _ from ⟨by rw [HL.out]; exact hc0.1, hc0.2⟩
        refine (tail_ok w.heap.size A n c bs p v 128 191 _ HR0.out hn hc0.1 (by decide) (by decide) hc0.2 (by omega)).mono ?_
        rintro e w1 ⟨rfl, hR, hk⟩
        have B1 : Below w.heap.size w w1 := B0.trans (hk.below B0.size (fun j hj e => by omega))
        have hx0 := byt_lt bs p
        have HG1 : Hid (((v * 64 + (byt bs p - 128), p + 1 - k) : Nat × Nat) = out) := show _ from (goal_done bs k p v HS0.out).symm.trans HG0.out
        have hv1 : v * 64 + (byt bs p - 128) < v * 64 + 64 := by omega
        have HR1 := Lib.hid hR
        clear hR hk HS0 hx0
        generalize v * 64 + (byt bs p - 128) = v1 at HG1 HR1 hv1
        have hc1 := HR1.out.cell1
        have hc2 := HR1.out.cell2
        go_wp2_with fail
        go_quiet (fail)
        go_wp2_with fail
        rw [jumps_ret, ← HG1.out]
        go_ret2
        exact ⟨two_num rfl (by omega), Below.drawn B1 _⟩
      · have HS : Hid (¬ (p < bs.length ∧ 128 ≤ byt bs p ∧ byt bs p ≤ 191)) := show _ from by rw [HL.out]; exact hc0
        refine (tail_no w.heap.size A n c bs p v 128 191 _ HR0.out hn (by omega) hc0).mono ?_
        rintro e w9 ⟨rfl, m, rfl⟩
        have HGn : Hid (goal bs k 0 p v = out) := show _ from (goal_stop bs k p v 1 (by decide) (by decide) HS.out).symm.trans HG0.out
        go_wp2_with fail
        go_step3
        exact ⟨⟨by decide, ⟨_, _, _, _, _, _, _, _, _, _, _, _, _, _, _, _, _, _, _, _, _, _, _, _, _, _, _, _, _, _, _, _, _, _, _, _, _, _, _, _, _, _, _, _, _, _, _, _, _, _, _, _, _, rfl⟩, p, v, HR0.out.drewN m, Below.drawn B0 m, by simp only [vMax]; omega, by omega, by simp only [rankOf]; omega, HGn.out⟩, by decide⟩
    · refine ⟨_, rfl, ?_⟩
      simp only [vMax] at hv
      simp only [rankOf] at hpk
      go_wp2_with fail
      by_cases hc0 : p < n ∧ 160 ≤ byt bs p ∧ byt bs p ≤ 191
      · have HS0 : Hid (p < bs.length ∧ 160 ≤ byt bs p ∧ byt bs p ≤ 191) := show _ from ⟨by rw [HL.out]; exact hc0.1, hc0.2⟩
        refine (tail_ok w.heap.size A n c bs p v 160 191 _ HR0.out hn hc0.1 (by decide) (by decide) hc0.2 (by omega)).mono ?_
        rintro e w1 ⟨rfl, hR, hk⟩
        have B1 : Below w.heap.size w w1 := B0.trans (hk.below B0.size (fun j hj e => by omega))
        have hx0 := byt_lt bs p
        have HG1 : Hid (goal bs k 1 (p + 1) (v * 64 + (byt bs p - 128)) = out) := show _ from (goal_next bs k p v 2 (by decide) (by decide) HS0.out).symm.trans HG0.out
        have hv1 : v * 64 + (byt bs p - 128) < v * 64 + 64 := by omega
        have HR1 := Lib.hid hR
        clear hR hk HS0 hx0
        generalize v * 64 + (byt bs p - 128) = v1 at HG1 HR1 hv1
        go_wp2_with fail
        go_step3
        exact ⟨⟨by decide, ⟨_, _, _, _, _, _, _, _, _, _, _, _, _, _, _, _, _, _, _, _, _, _, _, _, _, _, _, _, _, _, _, _, _, _, _, _, _, _, _, _, _, _, _, _, _, _, _, _, _, _, _, _, _, rfl⟩, p + 1, v1, HR1.out, B1, by simp only [vMax]; omega, by omega, by simp only [rankOf]; omega, HG1.out⟩, by decide⟩
      · have HS : Hid (¬ (p < bs.length ∧ 160 ≤ byt bs p ∧ byt bs p ≤ 191)) := show _ from by rw [HL.out]; exact hc0
        refine (tail_no w.heap.size A n c bs p v 160 191 _ HR0.out hn (by omega) hc0).mono ?_
        rintro e w9 ⟨rfl, m, rfl⟩
        have HGn : Hid (goal bs k 0 p v = out) := show _ from (goal_stop bs k p v 2 (by decide) (by decide) HS.out).symm.trans HG0.out
        go_wp2_with fail
        go_step3
        exact ⟨⟨by decide, ⟨_, _, _, _, _, _, _, _, _, _, _, _, _, _, _, _, _, _, _, _, _, _, _, _, _, _, _, _, _, _, _, _, _, _, _, _, _, _, _, _, _, _, _, _, _, _, _, _, _, _, _, _, _, rfl⟩, p, v, HR0.out.drewN m, Below.drawn B0 m, by simp only [vMax]; omega, by omega, by simp only [rankOf]; omega, HGn.out⟩, by decide⟩
    · refine ⟨_, rfl, ?_⟩
      simp only [vMax] at hv
      simp only [rankOf] at hpk
      go_wp2_with fail
      by_cases hc0 : p < n ∧ 128 ≤ byt bs p ∧ byt bs p ≤ 159
      · have HS0 : Hid (p < bs.length ∧ 128 ≤ byt bs p ∧ byt bs p ≤ 159) := show _ from ⟨by rw [HL.out]; exact hc0.1, hc0.2⟩
        refine (tail_ok w.heap.size A n c bs p v 128 159 _ HR0.out hn hc0.1 (by decide) (by decide) hc0.2 (by omega)).mono ?_
        rintro e w1 ⟨rfl, hR, hk⟩
        have B1 : Below w.heap.size w w1 := B0.trans (hk.below B0.size (fun j hj e => by omega))
        have hx0 := byt_lt bs p
        have HG1 : Hid (goal bs k 1 (p + 1) (v * 64 + (byt bs p - 128)) = out) := show _ from (goal_next bs k p v 3 (by decide) (by decide) HS0.out).symm.trans HG0.out
        have hv1 : v * 64 + (byt bs p - 128) < v * 64 + 64 := by omega
        have HR1 := Lib.hid hR
        clear hR hk HS0 hx0
        generalize v * 64 + (byt bs p - 128) = v1 at HG1 HR1 hv1
        go_wp2_with fail
        go_step3
        exact ⟨⟨by decide, ⟨_, _, _, _, _, _, _, _, _, _, _, _, _, _, _, _, _, _, _, _, _, _, _, _, _, _, _, _, _, _, _, _, _, _, _, _, _, _, _, _, _, _, _, _, _, _, _, _, _, _, _, _, _, rfl⟩, p + 1, v1, HR1.out, B1, by simp only [vMax]; omega, by omega, by simp only [rankOf]; omega, HG1.out⟩, by decide⟩
      · have HS : Hid (¬ (p < bs.length ∧ 128 ≤ byt bs p ∧ byt bs p ≤ 159)) := show _ from by rw [HL.out]; exact hc0
        refine (tail_no w.heap.size A n c bs p v 128 159 _ HR0.out hn (by omega) hc0).mono ?_
        rintro e w9 ⟨rfl, m, rfl⟩
        have HGn : Hid (goal bs k 0 p v = out) := show _ from (goal_stop bs k p v 3 (by decide) (by decide) HS.out).symm.trans HG0.out
        go_wp2_with fail
        go_step3
        exact ⟨⟨by decide, ⟨_, _, _, _, _, _, _, _, _, _, _, _, _, _, _, _, _, _, _, _, _, _, _, _, _, _, _, _, _, _, _, _, _, _, _, _, _, _, _, _, _, _, _, _, _, _, _, _, _, _, _, _, _, rfl⟩, p, v, HR0.out.drewN m, Below.drawn B0 m, by simp only [vMax]; omega, by omega, by simp only [rankOf]; omega, HGn.out⟩, by decide⟩
    · refine ⟨_, rfl, ?_⟩
      simp only [vMax] at hv
      simp only [rankOf] at hpk
      go_wp2_with fail
      by_cases hc0 : p < n ∧ 128 ≤ byt bs p ∧ byt bs p ≤ 191
      · have HS0 : Hid (p < bs.length ∧ 128 ≤ byt bs p ∧ byt bs p ≤ 191) := show _ from ⟨by rw [HL.out]; exact hc0.1, hc0.2⟩
        refine (tail_ok w.heap.size A n c bs p v 128 191 _ HR0.out hn hc0.1 (by decide) (by decide) hc0.2 (by omega)).mono ?_
        rintro e w1 ⟨rfl, hR, hk⟩
        have B1 : Below w.heap.size w w1 := B0.trans (hk.below B0.size (fun j hj e => by omega))
        have hx0 := byt_lt bs p
        have HG1 : Hid (goal bs k 1 (p + 1) (v * 64 + (byt bs p - 128)) = out) := show _ from (goal_next bs k p v 4 (by decide) (by decide) HS0.out).symm.trans HG0.out
        have hv1 : v * 64 + (byt bs p - 128) < v * 64 + 64 := by omega
        have HR1 := Lib.hid hR
        clear hR hk HS0 hx0
        generalize v * 64 + (byt bs p - 128) = v1 at HG1 HR1 hv1
        go_wp2_with fail
        go_step3
        go_wp2_with fail
        by_cases hc1 : (p + 1) < n ∧ 128 ≤ byt bs (p + 1) ∧ byt bs (p + 1) ≤ 191
        · have HS1 : Hid ((p + 1) < bs.length ∧ 128 ≤ byt bs (p + 1) ∧ byt bs (p + 1) ≤ 191) := show _ from ⟨by rw [HL.out]; exact hc1.1, hc1.2⟩
          refine (tail_ok w.heap.size A n c bs (p + 1) v1 128 191 _ HR1.out hn hc1.1 (by decide) (by decide) hc1.2 (by omega)).mono ?_
          rintro e w2 ⟨rfl, hR, hk⟩
          have B2 : Below w.heap.size w w2 := B1.trans (hk.below B1.size (fun j hj e => by omega))
          have hx1 := byt_lt bs (p + 1)
          have HG2 : Hid (((v1 * 64 + (byt bs (p + 1) - 128), (p + 1) + 1 - k) : Nat × Nat) = out) := show _ from (goal_done bs k (p + 1) v1 HS1.out).symm.trans HG1.out
          have hv2 : v1 * 64 + (byt bs (p + 1) - 128) < v1 * 64 + 64 := by omega
          have HR2 := Lib.hid hR
          clear hR hk HS1 hx1
          generalize v1 * 64 + (byt bs (p + 1) - 128) = v2 at HG2 HR2 hv2
          have hc1 := HR2.out.cell1
          have hc2 := HR2.out.cell2
          go_wp2_with fail
          go_quiet (fail)
          go_wp2_with fail
          rw [jumps_ret, ← HG2.out]
          go_ret2
          exact ⟨two_num rfl (by omega), Below.drawn B2 _⟩
        · have HS : Hid (¬ ((p + 1) < bs.length ∧ 128 ≤ byt bs (p + 1) ∧ byt bs (p + 1) ≤ 191)) := show _ from by rw [HL.out]; exact hc1
          refine (tail_no w.heap.size A n c bs (p + 1) v1 128 191 _ HR1.out hn (by omega) hc1).mono ?_
          rintro e w9 ⟨rfl, m, rfl⟩
          have HGn : Hid (goal bs k 0 (p + 1) v1 = out) := show _ from (goal_stop bs k (p + 1) v1 1 (by decide) (by decide) HS.out).symm.trans HG1.out
          go_wp2_with fail
          go_step3
          exact ⟨⟨by decide, ⟨_, _, _, _, _, _, _, _, _, _, _, _, _, _, _, _, _, _, _, _, _, _, _, _, _, _, _, _, _, _, _, _, _, _, _, _, _, _, _, _, _, _, _, _, _, _, _, _, _, _, _, _, _, rfl⟩, (p + 1), v1, HR1.out.drewN m, Below.drawn B1 m, by simp only [vMax]; omega, by omega, by simp only [rankOf]; omega, HGn.out⟩, by decide⟩
      · have HS : Hid (¬ (p < bs.length ∧ 128 ≤ byt bs p ∧ byt bs p ≤ 191)) := show _ from by rw [HL.out]; exact hc0
        refine (tail_no w.heap.size A n c bs p v 128 191 _ HR0.out hn (by omega) hc0).mono ?_
        rintro e w9 ⟨rfl, m, rfl⟩
        have HGn : Hid (goal bs k 0 p v = out) := show _ from (goal_stop bs k p v 4 (by decide) (by decide) HS.out).symm.trans HG0.out
        go_wp2_with fail
        go_step3
        exact ⟨⟨by decide, ⟨_, _, _, _, _, _, _, _, _, _, _, _, _, _, _, _, _, _, _, _, _, _, _, _, _, _, _, _, _, _, _, _, _, _, _, _, _, _, _, _, _, _, _, _, _, _, _, _, _, _, _, _, _, rfl⟩, p, v, HR0.out.drewN m, Below.drawn B0 m, by simp only [vMax]; omega, by omega, by simp only [rankOf]; omega, HGn.out⟩, by decide⟩
    · refine ⟨_, rfl, ?_⟩
      simp only [vMax] at hv
      simp only [rankOf] at hpk
      go_wp2_with fail
      by_cases hc0 : p < n ∧ 144 ≤ byt bs p ∧ byt bs p ≤ 191
      · have HS0 : Hid (p < bs.length ∧ 144 ≤ byt bs p ∧ byt bs p ≤ 191) := show _ from ⟨by rw [HL.out]; exact hc0.1, hc0.2⟩
        refine (tail_ok w.heap.size A n c bs p v 144 191 _ HR0.out hn hc0.1 (by decide) (by decide) hc0.2 (by omega)).mono ?_
        rintro e w1 ⟨rfl, hR, hk⟩
        have B1 : Below w.heap.size w w1 := B0.trans (hk.below B0.size (fun j hj e => by omega))
        have hx0 := byt_lt bs p
        have HG1 : Hid (goal bs k 4 (p + 1) (v * 64 + (byt bs p - 128)) = out) := show _ from (goal_next bs k p v 5 (by decide) (by decide) HS0.out).symm.trans HG0.out
        have hv1 : v * 64 + (byt bs p - 128) < v * 64 + 64 := by omega
        have HR1 := Lib.hid hR
        clear hR hk HS0 hx0
        generalize v * 64 + (byt bs p - 128) = v1 at HG1 HR1 hv1
        go_wp2_with fail
        go_step3
        exact ⟨⟨by decide, ⟨_, _, _, _, _, _, _, _, _, _, _, _, _, _, _, _, _, _, _, _, _, _, _, _, _, _, _, _, _, _, _, _, _, _, _, _, _, _, _, _, _, _, _, _, _, _, _, _, _, _, _, _, _, rfl⟩, p + 1, v1, HR1.out, B1, by simp only [vMax]; omega, by omega, by simp only [rankOf]; omega, HG1.out⟩, by decide⟩
      · have HS : Hid (¬ (p < bs.length ∧ 144 ≤ byt bs p ∧ byt bs p ≤ 191)) := show _ from by rw [HL.out]; exact hc0
        refine (tail_no w.heap.size A n c bs p v 144 191 _ HR0.out hn (by omega) hc0).mono ?_
        rintro e w9 ⟨rfl, m, rfl⟩
        have HGn : Hid (goal bs k 0 p v = out) := show _ from (goal_stop bs k p v 5 (by decide) (by decide) HS.out).symm.trans HG0.out
        go_wp2_with fail
        go_step3
        exact ⟨⟨by decide, ⟨_, _, _, _, _, _, _, _, _, _, _, _, _, _, _, _, _, _, _, _, _, _, _, _, _, _, _, _, _, _, _, _, _, _, _, _, _, _, _, _, _, _, _, _, _, _, _, _, _, _, _, _, _, rfl⟩, p, v, HR0.out.drewN m, Below.drawn B0 m, by simp only [vMax]; omega, by omega, by simp only [rankOf]; omega, HGn.out⟩, by decide⟩
    · refine ⟨_, rfl, ?_⟩
      simp only [vMax] at hv
      simp only [rankOf] at hpk
      go_wp2_with fail
      by_cases hc0 : p < n ∧ 128 ≤ byt bs p ∧ byt bs p ≤ 191
      · have HS0 : Hid (p < bs.length ∧ 128 ≤ byt bs p ∧ byt bs p ≤ 191) := show _ from ⟨by rw [HL.out]; exact hc0.1, hc0.2⟩
        refine (tail_ok w.heap.size A n c bs p v 128 191 _ HR0.out hn hc0.1 (by decide) (by decide) hc0.2 (by omega)).mono ?_
        rintro e w1 ⟨rfl, hR, hk⟩
        have B1 : Below w.heap.size w w1 := B0.trans (hk.below B0.size (fun j hj e => by omega))
        have hx0 := byt_lt bs p
        have HG1 : Hid (goal bs k 4 (p + 1) (v * 64 + (byt bs p - 128)) = out) := show _ from (goal_next bs k p v 6 (by decide) (by decide) HS0.out).symm.trans HG0.out
        have hv1 : v * 64 + (byt bs p - 128) < v * 64 + 64 := by omega
        have HR1 := Lib.hid hR
        clear hR hk HS0 hx0
        generalize v * 64 + (byt bs p - 128) = v1 at HG1 HR1 hv1
        go_wp2_with fail
        go_step3
        go_wp2_with fail
        by_cases hc1 : (p + 1) < n ∧ 128 ≤ byt bs (p + 1) ∧ byt bs (p + 1) ≤ 191
        · have HS1 : Hid ((p + 1) < bs.length ∧ 128 ≤ byt bs (p + 1) ∧ byt bs (p + 1) ≤ 191) := show _ from ⟨by rw [HL.out]; exact hc1.1, hc1.2⟩
          refine (tail_ok w.heap.size A n c bs (p + 1) v1 128 191 _ HR1.out hn hc1.1 (by decide) (by decide) hc1.2 (by omega)).mono ?_
          rintro e w2 ⟨rfl, hR, hk⟩
          have B2 : Below w.heap.size w w2 := B1.trans (hk.below B1.size (fun j hj e => by omega))
          have hx1 := byt_lt bs (p + 1)
          have HG2 : Hid (goal bs k 1 ((p + 1) + 1) (v1 * 64 + (byt bs (p + 1) - 128)) = out) := show _ from (goal_next bs k (p + 1) v1 4 (by decide) (by decide) HS1.out).symm.trans HG1.out
          have hv2 : v1 * 64 + (byt bs (p + 1) - 128) < v1 * 64 + 64 := by omega
          have HR2 := Lib.hid hR
          clear hR hk HS1 hx1
          generalize v1 * 64 + (byt bs (p + 1) - 128) = v2 at HG2 HR2 hv2
          go_wp2_with fail
          go_step3
          go_wp2_with fail
          by_cases hc2 : (p + 2) < n ∧ 128 ≤ byt bs (p + 2) ∧ byt bs (p + 2) ≤ 191
          · have HS2 : Hid ((p + 2) < bs.length ∧ 128 ≤ byt bs (p + 2) ∧ byt bs (p + 2) ≤ 191) := show _ from ⟨by rw [HL.out]; exact hc2.1, hc2.2⟩
            refine (tail_ok w.heap.size A n c bs (p + 2) v2 128 191 _ HR2.out hn hc2.1 (by decide) (by decide) hc2.2 (by omega)).mono ?_
            rintro e w3 ⟨rfl, hR, hk⟩
            have B3 : Below w.heap.size w w3 := B2.trans (hk.below B2.size (fun j hj e => by omega))
            have hx2 := byt_lt bs (p + 2)
            have HG3 : Hid (((v2 * 64 + (byt bs (p + 2) - 128), (p + 2) + 1 - k) : Nat × Nat) = out) := show _ from (goal_done bs k (p + 2) v2 HS2.out).symm.trans HG2.out
            have hv3 : v2 * 64 + (byt bs (p + 2) - 128) < v2 * 64 + 64 := by omega
            have HR3 := Lib.hid hR
            clear hR hk HS2 hx2
            generalize v2 * 64 + (byt bs (p + 2) - 128) = v3 at HG3 HR3 hv3
            have hc1 := HR3.out.cell1
            have hc2 := HR3.out.cell2
            go_wp2_with fail
            go_quiet (fail)
            go_wp2_with fail
            rw [jumps_ret, ← HG3.out]
            go_ret2
            exact ⟨two_num rfl (by omega), Below.drawn B3 _⟩
          · have HS : Hid (¬ ((p + 2) < bs.length ∧ 128 ≤ byt bs (p + 2) ∧ byt bs (p + 2) ≤ 191)) := show _ from by rw [HL.out]; exact hc2
            refine (tail_no w.heap.size A n c bs (p + 2) v2 128 191 _ HR2.out hn (by omega) hc2).mono ?_
            rintro e w9 ⟨rfl, m, rfl⟩
            have HGn : Hid (goal bs k 0 (p + 2) v2 = out) := show _ from (goal_stop bs k (p + 2) v2 1 (by decide) (by decide) HS.out).symm.trans HG2.out
            go_wp2_with fail
            go_step3
            exact ⟨⟨by decide, ⟨_, _, _, _, _, _, _, _, _, _, _, _, _, _, _, _, _, _, _, _, _, _, _, _, _, _, _, _, _, _, _, _, _, _, _, _, _, _, _, _, _, _, _, _, _, _, _, _, _, _, _, _, _, rfl⟩, (p + 2), v2, HR2.out.drewN m, Below.drawn B2 m, by simp only [vMax]; omega, by omega, by simp only [rankOf]; omega, HGn.out⟩, by decide⟩
        · have HS : Hid (¬ ((p + 1) < bs.length ∧ 128 ≤ byt bs (p + 1) ∧ byt bs (p + 1) ≤ 191)) := show _ from by rw [HL.out]; exact hc1
          refine (tail_no w.heap.size A n c bs (p + 1) v1 128 191 _ HR1.out hn (by omega) hc1).mono ?_
          rintro e w9 ⟨rfl, m, rfl⟩
          have HGn : Hid (goal bs k 0 (p + 1) v1 = out) := show _ from (goal_stop bs k (p + 1) v1 4 (by decide) (by decide) HS.out).symm.trans HG1.out
          go_wp2_with fail
          go_step3
          exact ⟨⟨by decide, ⟨_, _, _, _, _, _, _, _, _, _, _, _, _, _, _, _, _, _, _, _, _, _, _, _, _, _, _, _, _, _, _, _, _, _, _, _, _, _, _, _, _, _, _, _, _, _, _, _, _, _, _, _, _, rfl⟩, (p + 1), v1, HR1.out.drewN m, Below.drawn B1 m, by simp only [vMax]; omega, by omega, by simp only [rankOf]; omega, HGn.out⟩, by decide⟩
      · have HS : Hid (¬ (p < bs.length ∧ 128 ≤ byt bs p ∧ byt bs p ≤ 191)) := show _ from by rw [HL.out]; exact hc0
        refine (tail_no w.heap.size A n c bs p v 128 191 _ HR0.out hn (by omega) hc0).mono ?_
        rintro e w9 ⟨rfl, m, rfl⟩
        have HGn : Hid (goal bs k 0 p v = out) := show _ from (goal_stop bs k p v 6 (by decide) (by decide) HS.out).symm.trans HG0.out
        go_wp2_with fail
        go_step3
        exact ⟨⟨by decide, ⟨_, _, _, _, _, _, _, _, _, _, _, _, _, _, _, _, _, _, _, _, _, _, _, _, _, _, _, _, _, _, _, _, _, _, _, _, _, _, _, _, _, _, _, _, _, _, _, _, _, _, _, _, _, rfl⟩, p, v, HR0.out.drewN m, Below.drawn B0 m, by simp only [vMax]; omega, by omega, by simp only [rankOf]; omega, HGn.out⟩, by decide⟩
    · refine ⟨_, rfl, ?_⟩
      simp only [vMax] at hv
      simp only [rankOf] at hpk
      go_wp2_with fail
      by_cases hc0 : p < n ∧ 128 ≤ byt bs p ∧ byt bs p ≤ 143
      · have HS0 : Hid (p < bs.length ∧ 128 ≤ byt bs p ∧ byt bs p ≤ 143) := show _ from ⟨by rw [HL.out]; exact hc0.1, hc0.2⟩
        refine (tail_ok w.heap.size A n c bs p v 128 143 _ HR0.out hn hc0.1 (by decide) (by decide) hc0.2 (by omega)).mono ?_
        rintro e w1 ⟨rfl, hR, hk⟩
        have B1 : Below w.heap.size w w1 := B0.trans (hk.below B0.size (fun j hj e => by omega))
        have hx0 := byt_lt bs p
        have HG1 : Hid (goal bs k 4 (p + 1) (v * 64 + (byt bs p - 128)) = out) := show _ from (goal_next bs k p v 7 (by decide) (by decide) HS0.out).symm.trans HG0.out
        have hv1 : v * 64 + (byt bs p - 128) < v * 64 + 64 := by omega
        have HR1 := Lib.hid hR
        clear hR hk HS0 hx0
        generalize v * 64 + (byt bs p - 128) = v1 at HG1 HR1 hv1
        go_wp2_with fail
        go_step3
        exact ⟨⟨by decide, ⟨_, _, _, _, _, _, _, _, _, _, _, _, _, _, _, _, _, _, _, _, _, _, _, _, _, _, _, _, _, _, _, _, _, _, _, _, _, _, _, _, _, _, _, _, _, _, _, _, _, _, _, _, _, rfl⟩, p + 1, v1, HR1.out, B1, by simp only [vMax]; omega, by omega, by simp only [rankOf]; omega, HG1.out⟩, by decide⟩
      · have HS : Hid (¬ (p < bs.length ∧ 128 ≤ byt bs p ∧ byt bs p ≤ 143)) := show _ from by rw [HL.out]; exact hc0
        refine (tail_no w.heap.size A n c bs p v 128 143 _ HR0.out hn (by omega) hc0).mono ?_
        rintro e w9 ⟨rfl, m, rfl⟩
        have HGn : Hid (goal bs k 0 p v = out) := show _ from (goal_stop bs k p v 7 (by decide) (by decide) HS.out).symm.trans HG0.out
        go_wp2_with fail
        go_step3
        exact ⟨⟨by decide, ⟨_, _, _, _, _, _, _, _, _, _, _, _, _, _, _, _, _, _, _, _, _, _, _, _, _, _, _, _, _, _, _, _, _, _, _, _, _, _, _, _, _, _, _, _, _, _, _, _, _, _, _, _, _, rfl⟩, p, v, HR0.out.drewN m, Below.drawn B0 m, by simp only [vMax]; omega, by omega, by simp only [rankOf]; omega, HGn.out⟩, by decide⟩

end Go.Proofs.Ythaboikiobmfbaa
