/-
  What base.Bytes does: a machine of states, by goto; no condition beyond what the contract asks.
-/
import Derived.Test.YtlimkiebbmidiaaSixR
namespace Go.Proofs.Ytlimkiebbmidiaa
open Go.RowKit

/-- Bytes that were read, or none. -/
def Got (r : Option (List UInt8)) (w : World) (e : Ending) (w' : World) : Prop :=
  ∃ A c, e = .returned (.tuple #[.slice A (r.getD []).length c, .bool r.isSome]) ∧ Held w' (· < w'.heap.size) A (r.getD []).length (r.getD []) ∧ Below w.heap.size w w'
theorem got_none {r : Option (List UInt8)} (h : r = none) {w w' : World} (hb : Below w.heap.size w w') : Got r w (.returned (.tuple #[.slice none 0 0, .bool false])) w' := by
  subst h
  exact ⟨none, 0, rfl, Held.nothing rfl, hb⟩
theorem got_some {r : Option (List UInt8)} {m : List UInt8} (h : r = some m) {w w' : World} {A : Option Addr} {n c : Nat} (hl : Held w' (· < w'.heap.size) A n m) (hb : Below w.heap.size w w') : Got r w (.returned (.tuple #[.slice A n c, .bool true])) w' := by
  subst h
  obtain rfl := hl.1
  exact ⟨A, c, rfl, hl, hb⟩

theorem un4 {l : List UInt8} {p : Nat} (h : p + 4 ≤ l.length) : l.drop p = l.getD p 0 :: l.getD (p + 1) 0 :: l.getD (p + 2) 0 :: l.getD (p + 3) 0 :: l.drop (p + 4) := by
  rw [drop_one (by omega), drop_one (by omega : p + 1 < l.length), drop_one (by omega : p + 1 + 1 < l.length), drop_one (by omega : p + 1 + 1 + 1 < l.length)]
theorem un_short {l : List UInt8} {p : Nat} (h : ¬ p + 4 ≤ l.length) (h' : p < l.length) : unb (l.drop p) = none := unb_odd _ (by rw [List.length_drop]; omega)
theorem drop_nil {l : List UInt8} {p : Nat} (h : p ≤ l.length) : l.drop p = [] ↔ p = l.length := by
  constructor
  · intro e
    have := congrArg List.length e
    rw [List.length_drop] at this
    simp at this
    omega
  · rintro rfl
    exact List.drop_length
theorem unA {l : List UInt8} {p : Nat} (h' : p < l.length) (h : ¬ sv (l.getD p 0) < 64) : unb (l.drop p) = none := by
  by_cases h4 : p + 4 ≤ l.length
  · rw [un4 h4, unb, if_neg (fun e => h e.1)]
  · exact un_short h4 h'
theorem unB {l : List UInt8} {p : Nat} (h' : p < l.length) (h : ¬ (p + 1 < l.length ∧ sv (l.getD (p + 1) 0) < 64)) : unb (l.drop p) = none := by
  by_cases h4 : p + 4 ≤ l.length
  · rw [un4 h4, unb, if_neg (fun e => h ⟨by omega, e.2⟩)]
  · exact un_short h4 h'
theorem unC {l : List UInt8} {p : Nat} (h' : p + 2 < l.length) (ha : sv (l.getD p 0) < 64) (hb : sv (l.getD (p + 1) 0) < 64) (h : l.getD (p + 2) 0 = 61) :
    unb (l.drop p) = if (p + 3 < l.length ∧ l.getD (p + 3) 0 = 61) ∧ sv (l.getD (p + 1) 0) % 16 = 0 ∧ p + 4 = l.length then some [by1 (sv (l.getD p 0)) (sv (l.getD (p + 1) 0))] else none := by
  by_cases h4 : p + 4 ≤ l.length
  · rw [un4 h4, unb, if_pos ⟨ha, hb⟩, if_pos h]
    have e := drop_nil h4
    by_cases c : (p + 3 < l.length ∧ l.getD (p + 3) 0 = 61) ∧ sv (l.getD (p + 1) 0) % 16 = 0 ∧ p + 4 = l.length
    · rw [if_pos c, if_pos ⟨c.1.2, e.2 c.2.2, c.2.1⟩]
    · rw [if_neg c, if_neg (fun d => c ⟨⟨by omega, d.1⟩, d.2.2, e.1 d.2.1⟩)]
  · rw [un_short h4 (by omega), if_neg (by omega)]
theorem unD {l : List UInt8} {p : Nat} (h' : p < l.length) (h : l.getD (p + 2) 0 ≠ 61 ∨ ¬ p + 2 < l.length) (hc : ¬ (p + 2 < l.length ∧ sv (l.getD (p + 2) 0) < 64)) : unb (l.drop p) = none := by
  by_cases h4 : p + 4 ≤ l.length
  · rw [un4 h4, unb]
    by_cases hab : sv (l.getD p 0) < 64 ∧ sv (l.getD (p + 1) 0) < 64
    · rw [if_pos hab, if_neg (by rcases h with h | h; exact h; omega), if_neg (fun e => hc ⟨by omega, e⟩)]
    · rw [if_neg hab]
  · exact un_short h4 h'
theorem unE {l : List UInt8} {p : Nat} (h' : p + 3 < l.length) (ha : sv (l.getD p 0) < 64) (hb : sv (l.getD (p + 1) 0) < 64) (hc : sv (l.getD (p + 2) 0) < 64) (hn : l.getD (p + 2) 0 ≠ 61) (h : l.getD (p + 3) 0 = 61) :
    unb (l.drop p) = if sv (l.getD (p + 2) 0) % 4 = 0 ∧ p + 4 = l.length then some [by1 (sv (l.getD p 0)) (sv (l.getD (p + 1) 0)), by2 (sv (l.getD (p + 1) 0)) (sv (l.getD (p + 2) 0))] else none := by
  have h4 : p + 4 ≤ l.length := by omega
  rw [un4 h4, unb, if_pos ⟨ha, hb⟩, if_neg hn, if_pos hc, if_pos h]
  have e := drop_nil h4
  by_cases c : sv (l.getD (p + 2) 0) % 4 = 0 ∧ p + 4 = l.length
  · rw [if_pos c, if_pos ⟨e.2 c.2, c.1⟩]
  · rw [if_neg c, if_neg (fun d => c ⟨d.2, e.1 d.1⟩)]
theorem unF {l : List UInt8} {p : Nat} (h' : p < l.length) (hn : l.getD (p + 2) 0 ≠ 61) (h : l.getD (p + 3) 0 ≠ 61 ∨ ¬ p + 3 < l.length) (hd : ¬ (p + 3 < l.length ∧ sv (l.getD (p + 3) 0) < 64)) : unb (l.drop p) = none := by
  by_cases h4 : p + 4 ≤ l.length
  · rw [un4 h4, unb]
    by_cases hab : sv (l.getD p 0) < 64 ∧ sv (l.getD (p + 1) 0) < 64
    · rw [if_pos hab, if_neg hn]
      by_cases hc : sv (l.getD (p + 2) 0) < 64
      · rw [if_pos hc, if_neg (by rcases h with h | h; exact h; omega), if_neg (fun e => hd ⟨by omega, e⟩)]
      · rw [if_neg hc]
    · rw [if_neg hab]
  · exact un_short h4 h'
theorem unG {l : List UInt8} {p : Nat} (h' : p + 3 < l.length) (ha : sv (l.getD p 0) < 64) (hb : sv (l.getD (p + 1) 0) < 64) (hc : sv (l.getD (p + 2) 0) < 64) (hn : l.getD (p + 2) 0 ≠ 61) (hd : sv (l.getD (p + 3) 0) < 64) (hm : l.getD (p + 3) 0 ≠ 61) :
    unb (l.drop p) = (unb (l.drop (p + 4))).map ([by1 (sv (l.getD p 0)) (sv (l.getD (p + 1) 0)), by2 (sv (l.getD (p + 1) 0)) (sv (l.getD (p + 2) 0)), by3 (sv (l.getD (p + 2) 0)) (sv (l.getD (p + 3) 0))] ++ ·) := by
  rw [un4 (by omega), unb, if_pos ⟨ha, hb⟩, if_neg hn, if_pos hc, if_neg hm, if_pos hd]

/-- What the labels behind a fill say. -/
def half (l : List UInt8) (p x : Nat) (pre : List UInt8) : Option (List UInt8) := if (p < l.length ∧ l.getD p 0 = 61) ∧ x = 0 ∧ p + 1 = l.length then some pre else none
def full (l : List UInt8) (p x : Nat) (pre : List UInt8) : Option (List UInt8) := if x = 0 ∧ p = l.length then some pre else none
theorem half_no {l : List UInt8} {p x : Nat} {pre : List UInt8} (h : ¬ (p < l.length ∧ l.getD p 0 = 61)) : half l p x pre = none := by unfold half; rw [if_neg (fun e => h e.1)]
theorem half_yes {l : List UInt8} {p x : Nat} {pre : List UInt8} (h : p < l.length ∧ l.getD p 0 = 61) : half l p x pre = full l (p + 1) x pre := by
  unfold half full
  by_cases c : x = 0 ∧ p + 1 = l.length
  · rw [if_pos c, if_pos ⟨h, c⟩]
  · rw [if_neg c, if_neg (fun e => c e.2)]

/-- The frame of base.Bytes at a label. -/
def BytesAt (s : List UInt8) (q : Nat) (a : Act) : Prop :=
  ∃ u1 u2 u3 u5 u6 u7 u8 u9 u10 u11 u12 u13 u14 u15 u16 u17 u18 u19 u20 u21 u22 u23 u24 u25 u26 u27 u28 u29 u30 u31 u32 u33 u34 u35 u36 : Value, a = { tmps := #[.string ⟨s.toArray⟩, u1, u2, u3, .pointer (some ⟨q, 0, none⟩), u5, u6, u7, u8, u9, u10, u11, u12, u13, u14, u15, u16, u17, u18, u19, u20, u21, u22, u23, u24, u25, u26, u27, u28, u29, u30, u31, u32, u33, u34, u35, u36], defers := [] }
theorem BytesAt.elim {s : List UInt8} {q : Nat} {a : Act} {motive : Act → Prop} (h : BytesAt s q a) (f : ∀ u1 u2 u3 u5 u6 u7 u8 u9 u10 u11 u12 u13 u14 u15 u16 u17 u18 u19 u20 u21 u22 u23 u24 u25 u26 u27 u28 u29 u30 u31 u32 u33 u34 u35 u36 : Value, motive { tmps := #[.string ⟨s.toArray⟩, u1, u2, u3, .pointer (some ⟨q, 0, none⟩), u5, u6, u7, u8, u9, u10, u11, u12, u13, u14, u15, u16, u17, u18, u19, u20, u21, u22, u23, u24, u25, u26, u27, u28, u29, u30, u31, u32, u33, u34, u35, u36], defers := [] }) : motive a := by
  obtain ⟨u1, u2, u3, u5, u6, u7, u8, u9, u10, u11, u12, u13, u14, u15, u16, u17, u18, u19, u20, u21, u22, u23, u24, u25, u26, u27, u28, u29, u30, u31, u32, u33, u34, u35, u36, rfl⟩ := h
  exact f _ _ _ _ _ _ _ _ _ _ _ _ _ _ _ _ _ _ _ _ _ _ _ _ _ _ _ _ _ _ _ _ _ _ _

/-- What holds at a jump to a label. -/
def BytesJ (w0 : World) (s : List UInt8) (out : Option (List UInt8)) (m l : Nat) (a : Act) (w : World) : Prop :=
  ∃ q, BytesAt s q a ∧ Below w0.heap.size w0 w ∧
  ((l = 1 ∧ ∃ (p : Nat) (v : Value) (pre : List UInt8), Rd w w0.heap.size q s p 0 v pre ∧ p ≤ s.length ∧ pre.length ≤ p ∧ out = (unb (s.drop p)).map (pre ++ ·) ∧ m = 3 + (s.length - p)) ∨
   (l = 0 ∧ ∃ (p x : Nat) (v : Value) (pre : List UInt8), Rd w w0.heap.size q s p x v pre ∧ out = some pre ∧ m = 0) ∨
   (l = 2 ∧ out = none ∧ m = 0) ∨
   (l = 3 ∧ ∃ (p x : Nat) (v : Value) (pre : List UInt8), Rd w w0.heap.size q s p x v pre ∧ p ≤ s.length ∧ out = half s p x pre ∧ m = 2) ∨
   (l = 4 ∧ ∃ (p x : Nat) (v : Value) (pre : List UInt8), Rd w w0.heap.size q s p x v pre ∧ p ≤ s.length ∧ out = full s p x pre ∧ m = 1))

theorem Below.drawn_of {B : Nat} {w w1 w2 : World} (h : Below B w w1) (h2 : ∃ m, w2 = w1.drewN m) : Below B w w2 := by
  obtain ⟨m, rfl⟩ := h2
  exact Below.drawn h m
theorem Rd.drawn_of {w1 w2 : World} {B q : Nat} {l : List UInt8} {p x : Nat} {v : Value} {pre : List UInt8} (h : Rd w1 B q l p x v pre) (h2 : ∃ m, w2 = w1.drewN m) : Rd w2 B q l p x v pre := by
  obtain ⟨m, rfl⟩ := h2
  exact h.drewN m

set_option maxHeartbeats 4000000 in
set_option maxRecDepth 100000 in
theorem bytes_any (s : List UInt8) (hs : s.length ≤ 1000000) (w : World) : Calls Try.prog 10 #[.string ⟨s.toArray⟩] w (Got (unb s) w) := by
  obtain ⟨i0, hi0, hz0, hz1, hz2⟩ := info_parts info_u8
  have hml : s.length / 4 * 3 ≤ maxLen := by simp only [maxLen]; omega
  have hb2 : i0.bytes * (s.length / 4 * 3) ≤ 281474976710656 := by rw [hz2]; omega
  have HZ := Lib.hid hz0; have HI := Lib.hid hi0; have H1 := Lib.hid hz1; have H2 := Lib.hid hz2
  clear hz0 hi0 hz1 hz2
  obtain ⟨out, ho⟩ : ∃ r, r = unb s := ⟨_, rfl⟩
  rw [← ho]
  have HO := Lib.hid ho
  clear ho
  go_enter Try.func10, Try.ntmps10
  go_wp2_with fail
  refine wp_scope_turns (BytesJ w s out) ?_ ?_
  · clear hml hb2 HZ HI H1 H2 HO
    rintro m l a' w0 ⟨q, hF, B0, hJ⟩
    refine hF.elim (motive := fun a => ∃ rest, findLabel _ _ = some (.seq .skip rest) ∧ rest.wp _ (Jumps (LessJ (BytesJ w s out) _) _) a w0) ?_
    intro u1 u2 u3 u5 u6 u7 u8 u9 u10 u11 u12 u13 u14 u15 u16 u17 u18 u19 u20 u21 u22 u23 u24 u25 u26 u27 u28 u29 u30 u31 u32 u33 u34 u35 u36
    clear hF
    rcases hJ with ⟨rfl, p, v, pre, hR, hp, hpl, ho, rfl⟩ | ⟨rfl, p, x, v, pre, hR, ho, rfl⟩ | ⟨rfl, ho, rfl⟩ | ⟨rfl, p, x, v, pre, hR, hp, ho, rfl⟩ | ⟨rfl, p, x, v, pre, hR, hp, ho, rfl⟩
    · have HR := Lib.hid hR
      have HO := Lib.hid ho
      clear hR ho
      refine ⟨_, rfl, ?_⟩
      by_cases he : p = s.length
      · have HN : Hid (out = some pre) := show _ = _ by
          rw [HO.out, (drop_nil hp).2 he]
          simp [unb]
        go_wp2_with fail
        refine (ended_yes w.heap.size q s p 0 v pre w0 HR.out he).mono ?_
        rintro e w1 ⟨rfl, hd1⟩
        have B1 := Below.drawn_of B0 hd1
        have HR1 := Lib.hid (Rd.drawn_of HR.out hd1)
        clear hd1
        go_wp2_with fail
        go_step3
        exact ⟨0, by omega, q, ⟨_, _, _, _, _, _, _, _, _, _, _, _, _, _, _, _, _, _, _, _, _, _, _, _, _, _, _, _, _, _, _, _, _, _, _, rfl⟩, B1, .inr (.inl ⟨rfl, p, 0, v, pre, HR1.out, HN.out, rfl⟩)⟩
      have hlt : p < s.length := by omega
      clear he
      go_wp2_with fail
      refine (ended_not w.heap.size q s p 0 v pre w0 HR.out hlt).mono ?_
      rintro e w1 ⟨rfl, hd1⟩
      have B1 := Below.drawn_of B0 hd1
      have HR1 := Lib.hid (Rd.drawn_of HR.out hd1)
      clear hd1 HR B0
      go_wp2_with fail
      by_cases ca : p < s.length ∧ sv (s.getD p 0) < 64
      rotate_left
      · have HN : Hid (out = none) := show _ = _ by
          rw [HO.out, unA hlt (fun e => ca ⟨hlt, e⟩)]
          rfl
        have hno : Calls Try.prog 15 #[.pointer (some ⟨q, 0, none⟩)] w1 (SaysNo w1) := by
          by_cases hl : p < s.length
          · exact sign_bad w.heap.size q s (p) (0) v (pre) w1 HR1.out hl (fun e => ca ⟨hl, e⟩)
          · exact sign_past w.heap.size q s (p) (0) v (pre) w1 HR1.out (by omega)
        refine hno.mono ?_
        rintro e w9 ⟨rfl, hd9⟩
        have B9 := Below.drawn_of B1 hd9
        clear hno hd9
        go_wp2_with fail
        go_step3
        exact ⟨0, by omega, q, ⟨_, _, _, _, _, _, _, _, _, _, _, _, _, _, _, _, _, _, _, _, _, _, _, _, _, _, _, _, _, _, _, _, _, _, _, rfl⟩, B9, .inr (.inr (.inl ⟨rfl, HN.out, rfl⟩))⟩
      refine (sign_ok w.heap.size q s p (0) v (pre) w1 HR1.out ca.1 (by omega) ca.2 (by omega)).mono ?_
      rintro e w2 ⟨rfl, hR2, hB2⟩
      have B2 := B1.trans hB2
      have HR2 := Lib.hid hR2
      clear hR2 hB2 HR1 B1
      go_wp2_with fail
      by_cases cb : (p + 1) < s.length ∧ sv (s.getD (p + 1) 0) < 64
      rotate_left
      · have HN : Hid (out = none) := show _ = _ by
          rw [HO.out, unB hlt cb]
          rfl
        have hno : Calls Try.prog 15 #[.pointer (some ⟨q, 0, none⟩)] w2 (SaysNo w2) := by
          by_cases hl : (p + 1) < s.length
          · exact sign_bad w.heap.size q s ((p + 1)) (0 * 64 + sv (s.getD p 0)) v (pre) w2 HR2.out hl (fun e => cb ⟨hl, e⟩)
          · exact sign_past w.heap.size q s ((p + 1)) (0 * 64 + sv (s.getD p 0)) v (pre) w2 HR2.out (by omega)
        refine hno.mono ?_
        rintro e w9 ⟨rfl, hd9⟩
        have B9 := Below.drawn_of B2 hd9
        clear hno hd9
        go_wp2_with fail
        go_step3
        exact ⟨0, by omega, q, ⟨_, _, _, _, _, _, _, _, _, _, _, _, _, _, _, _, _, _, _, _, _, _, _, _, _, _, _, _, _, _, _, _, _, _, _, rfl⟩, B9, .inr (.inr (.inl ⟨rfl, HN.out, rfl⟩))⟩
      refine (sign_ok w.heap.size q s (p + 1) (0 * 64 + sv (s.getD p 0)) v (pre) w2 HR2.out cb.1 (by omega) cb.2 (by omega)).mono ?_
      rintro e w3 ⟨rfl, hR3, hB3⟩
      have B3 := B2.trans hB3
      have HR3 := Lib.hid hR3
      clear hR3 hB3 HR2 B2
      go_wp2_with fail
      refine (lay4 w.heap.size q s (p + 1 + 1) _ v pre w3 HR3.out (by omega) (by omega)).mono ?_
      rintro e w4 ⟨rfl, v4, hR4, hB4⟩
      have B4 := B3.trans hB4
      have E4 : UInt8.ofNat (((0 * 64 + sv (s.getD p 0)) * 64 + sv (s.getD (p + 1) 0)) / 16) = by1 (sv (s.getD p 0)) (sv (s.getD (p + 1) 0)) := by unfold by1; congr 1; omega
      have E4' : ((0 * 64 + sv (s.getD p 0)) * 64 + sv (s.getD (p + 1) 0)) % 16 = sv (s.getD (p + 1) 0) % 16 := by omega
      rw [E4, E4', show p + 1 + 1 = p + 2 by omega] at hR4
      have HR4 := Lib.hid hR4
      clear hR4 hB4 HR3 B3 E4 E4'
      go_wp2_with fail
      by_cases cf : p + 2 < s.length ∧ s.getD (p + 2) 0 = 61
      · have HN : Hid (out = half s (p + 3) (sv (s.getD (p + 1) 0) % 16) (pre ++ [by1 (sv (s.getD p 0)) (sv (s.getD (p + 1) 0))])) := show _ = _ by
          rw [HO.out, unC cf.1 ca.2 cb.2 cf.2]
          unfold half
          split <;> rfl
        refine (fill_ok w.heap.size q s (p + 2) _ v4 _ w4 HR4.out cf.1 (by omega) cf.2).mono ?_
        rintro e w5 ⟨rfl, hR5, hB5⟩
        have B5 := B4.trans hB5
        have HR5 := Lib.hid hR5
        have hp5 : p + 3 ≤ s.length := by omega
        clear hR5 hB5 HR4 B4
        go_wp2_with fail
        go_step3
        exact ⟨2, by omega, q, ⟨_, _, _, _, _, _, _, _, _, _, _, _, _, _, _, _, _, _, _, _, _, _, _, _, _, _, _, _, _, _, _, _, _, _, _, rfl⟩, B5, .inr (.inr (.inr (.inl ⟨rfl, p + 3, _, v4, _, HR5.out, hp5, HN.out, rfl⟩)))⟩
      have cf' : s.getD (p + 2) 0 ≠ 61 ∨ ¬ p + 2 < s.length := by
        by_cases hl : p + 2 < s.length
        · exact .inl (fun e => cf ⟨hl, e⟩)
        · exact .inr hl
      have hno : Calls Try.prog 17 #[.pointer (some ⟨q, 0, none⟩)] w4 (SaysNo w4) := by
        by_cases hl : p + 2 < s.length
        · exact fill_bad w.heap.size q s (p + 2) (_) v4 (_) w4 HR4.out hl (fun e => cf ⟨hl, e⟩)
        · exact fill_past w.heap.size q s (p + 2) (_) v4 (_) w4 HR4.out (by omega)
      refine hno.mono ?_
      rintro e w5 ⟨rfl, hd5⟩
      have B5 := Below.drawn_of B4 hd5
      have HR5 := Lib.hid (Rd.drawn_of HR4.out hd5)
      clear hno hd5 HR4 B4 cf
      go_wp2_with fail
      by_cases cc : (p + 2) < s.length ∧ sv (s.getD (p + 2) 0) < 64
      rotate_left
      · have HN : Hid (out = none) := show _ = _ by
          rw [HO.out, unD hlt cf' cc]
          rfl
        have hno : Calls Try.prog 15 #[.pointer (some ⟨q, 0, none⟩)] w5 (SaysNo w5) := by
          by_cases hl : (p + 2) < s.length
          · exact sign_bad w.heap.size q s ((p + 2)) (_) v4 (_) w5 HR5.out hl (fun e => cc ⟨hl, e⟩)
          · exact sign_past w.heap.size q s ((p + 2)) (_) v4 (_) w5 HR5.out (by omega)
        refine hno.mono ?_
        rintro e w9 ⟨rfl, hd9⟩
        have B9 := Below.drawn_of B5 hd9
        clear hno hd9
        go_wp2_with fail
        go_step3
        exact ⟨0, by omega, q, ⟨_, _, _, _, _, _, _, _, _, _, _, _, _, _, _, _, _, _, _, _, _, _, _, _, _, _, _, _, _, _, _, _, _, _, _, rfl⟩, B9, .inr (.inr (.inl ⟨rfl, HN.out, rfl⟩))⟩
      refine (sign_ok w.heap.size q s (p + 2) (_) v4 (_) w5 HR5.out cc.1 (by omega) cc.2 (by omega)).mono ?_
      rintro e w6 ⟨rfl, hR6, hB6⟩
      have B6 := B5.trans hB6
      have HR6 := Lib.hid hR6
      clear hR6 hB6 HR5 B5
      go_wp2_with fail
      have cn : s.getD (p + 2) 0 ≠ 61 := by
        rcases cf' with h | h
        · exact h
        · exact absurd cc.1 h
      refine (lay2 w.heap.size q s (p + 2 + 1) _ v4 _ w6 HR6.out (by omega) (by simp; omega)).mono ?_
      rintro e w7 ⟨rfl, v7, hR7, hB7⟩
      have B7 := B6.trans hB7
      have E7 : UInt8.ofNat ((sv (s.getD (p + 1) 0) % 16 * 64 + sv (s.getD (p + 2) 0)) / 4) = by2 (sv (s.getD (p + 1) 0)) (sv (s.getD (p + 2) 0)) := by unfold by2; congr 1; omega
      have E7' : (sv (s.getD (p + 1) 0) % 16 * 64 + sv (s.getD (p + 2) 0)) % 4 = sv (s.getD (p + 2) 0) % 4 := by omega
      rw [E7, E7', show p + 2 + 1 = p + 3 by omega] at hR7
      have HR7 := Lib.hid hR7
      clear hR7 hB7 HR6 B6 E7 E7'
      go_wp2_with fail
      by_cases cg : p + 3 < s.length ∧ s.getD (p + 3) 0 = 61
      · have HN : Hid (out = full s (p + 4) (sv (s.getD (p + 2) 0) % 4) (pre ++ [by1 (sv (s.getD p 0)) (sv (s.getD (p + 1) 0))] ++ [by2 (sv (s.getD (p + 1) 0)) (sv (s.getD (p + 2) 0))])) := show _ = _ by
          rw [HO.out, unE cg.1 ca.2 cb.2 cc.2 cn cg.2]
          unfold full
          split
          · simp
          · rfl
        refine (fill_ok w.heap.size q s (p + 3) _ v7 _ w7 HR7.out cg.1 (by omega) cg.2).mono ?_
        rintro e w8 ⟨rfl, hR8, hB8⟩
        have B8 := B7.trans hB8
        have HR8 := Lib.hid hR8
        have hp8 : p + 4 ≤ s.length := by omega
        clear hR8 hB8 HR7 B7
        go_wp2_with fail
        go_step3
        exact ⟨1, by omega, q, ⟨_, _, _, _, _, _, _, _, _, _, _, _, _, _, _, _, _, _, _, _, _, _, _, _, _, _, _, _, _, _, _, _, _, _, _, rfl⟩, B8, .inr (.inr (.inr (.inr ⟨rfl, p + 4, _, v7, _, HR8.out, hp8, HN.out, rfl⟩)))⟩
      have cg' : s.getD (p + 3) 0 ≠ 61 ∨ ¬ p + 3 < s.length := by
        by_cases hl : p + 3 < s.length
        · exact .inl (fun e => cg ⟨hl, e⟩)
        · exact .inr hl
      have hno : Calls Try.prog 17 #[.pointer (some ⟨q, 0, none⟩)] w7 (SaysNo w7) := by
        by_cases hl : p + 3 < s.length
        · exact fill_bad w.heap.size q s (p + 3) (_) v7 (_) w7 HR7.out hl (fun e => cg ⟨hl, e⟩)
        · exact fill_past w.heap.size q s (p + 3) (_) v7 (_) w7 HR7.out (by omega)
      refine hno.mono ?_
      rintro e w8 ⟨rfl, hd8⟩
      have B8 := Below.drawn_of B7 hd8
      have HR8 := Lib.hid (Rd.drawn_of HR7.out hd8)
      clear hno hd8 HR7 B7 cg
      go_wp2_with fail
      by_cases cd : (p + 3) < s.length ∧ sv (s.getD (p + 3) 0) < 64
      rotate_left
      · have HN : Hid (out = none) := show _ = _ by
          rw [HO.out, unF hlt cn cg' cd]
          rfl
        have hno : Calls Try.prog 15 #[.pointer (some ⟨q, 0, none⟩)] w8 (SaysNo w8) := by
          by_cases hl : (p + 3) < s.length
          · exact sign_bad w.heap.size q s ((p + 3)) (_) v7 (_) w8 HR8.out hl (fun e => cd ⟨hl, e⟩)
          · exact sign_past w.heap.size q s ((p + 3)) (_) v7 (_) w8 HR8.out (by omega)
        refine hno.mono ?_
        rintro e w9 ⟨rfl, hd9⟩
        have B9 := Below.drawn_of B8 hd9
        clear hno hd9
        go_wp2_with fail
        go_step3
        exact ⟨0, by omega, q, ⟨_, _, _, _, _, _, _, _, _, _, _, _, _, _, _, _, _, _, _, _, _, _, _, _, _, _, _, _, _, _, _, _, _, _, _, rfl⟩, B9, .inr (.inr (.inl ⟨rfl, HN.out, rfl⟩))⟩
      refine (sign_ok w.heap.size q s (p + 3) (_) v7 (_) w8 HR8.out cd.1 (by omega) cd.2 (by omega)).mono ?_
      rintro e w10 ⟨rfl, hR10, hB10⟩
      have B10 := B8.trans hB10
      have HR10 := Lib.hid hR10
      clear hR10 hB10 HR8 B8
      go_wp2_with fail
      have cm : s.getD (p + 3) 0 ≠ 61 := by
        rcases cg' with h | h
        · exact h
        · exact absurd cd.1 h
      refine (lay0 w.heap.size q s (p + 3 + 1) _ v7 _ w10 HR10.out (by omega) (by simp; omega)).mono ?_
      rintro e w11 ⟨rfl, v11, hR11, hB11⟩
      have B11 := B10.trans hB11
      have E11 : UInt8.ofNat ((sv (s.getD (p + 2) 0) % 4 * 64 + sv (s.getD (p + 3) 0)) / 1) = by3 (sv (s.getD (p + 2) 0)) (sv (s.getD (p + 3) 0)) := by unfold by3; rw [Nat.div_one]
      rw [E11, Nat.mod_one, show p + 3 + 1 = p + 4 by omega] at hR11
      have HR11 := Lib.hid hR11
      have HN : Hid (out = (unb (s.drop (p + 4))).map ((pre ++ [by1 (sv (s.getD p 0)) (sv (s.getD (p + 1) 0))] ++ [by2 (sv (s.getD (p + 1) 0)) (sv (s.getD (p + 2) 0))] ++ [by3 (sv (s.getD (p + 2) 0)) (sv (s.getD (p + 3) 0))]) ++ ·)) := show _ = _ by
        rw [HO.out, unG cd.1 ca.2 cb.2 cc.2 cn cd.2 cm, Option.map_map]
        congr 1
        funext z
        simp
      have hp11 : p + 4 ≤ s.length := by omega
      have hl11 : (pre ++ [by1 (sv (s.getD p 0)) (sv (s.getD (p + 1) 0))] ++ [by2 (sv (s.getD (p + 1) 0)) (sv (s.getD (p + 2) 0))] ++ [by3 (sv (s.getD (p + 2) 0)) (sv (s.getD (p + 3) 0))]).length ≤ p + 4 := by simp; omega
      clear hR11 hB11 HR10 B10 E11
      go_wp2_with fail
      go_step3
      exact ⟨3 + (s.length - (p + 4)), by omega, q, ⟨_, _, _, _, _, _, _, _, _, _, _, _, _, _, _, _, _, _, _, _, _, _, _, _, _, _, _, _, _, _, _, _, _, _, _, rfl⟩, B11, .inl ⟨rfl, p + 4, v11, _, HR11.out, hp11, hl11, HN.out, rfl⟩⟩
    · have HR := Lib.hid hR
      have HO := Lib.hid ho
      clear hR ho
      refine ⟨_, rfl, ?_⟩
      obtain ⟨A, c, hv⟩ := own_form HR.out.2.1
      subst hv
      have c3 := HR.out.cell3
      have HG := Lib.hid (own_bytes HR.out.2.1)
      go_wp2_with fail
      rw [jumps_ret]
      go_ret2
      exact got_some HO.out HG.out B0
    · have HO := Lib.hid ho
      clear ho
      refine ⟨_, rfl, ?_⟩
      go_wp2_with fail
      rw [jumps_ret]
      go_ret2
      exact got_none HO.out B0
    · have HR := Lib.hid hR
      have HO := Lib.hid ho
      clear hR ho
      refine ⟨_, rfl, ?_⟩
      by_cases hf : p < s.length ∧ s.getD p 0 = 61
      · have HO1 := Lib.hid (HO.out.trans (half_yes hf))
        go_wp2_with fail
        refine (fill_ok w.heap.size q s p x v pre w0 HR.out hf.1 (by omega) hf.2).mono ?_
        rintro e w1 ⟨rfl, hR1, B1⟩
        have B1' := B0.trans B1
        have HR1 := Lib.hid hR1
        have hp1 : p + 1 ≤ s.length := by omega
        clear hR1 B1 hf hp HR HO
        go_wp2_with fail
        go_step3
        have c2 := HR1.out.cell2
        by_cases hx : x = 0
        · have dx : ((x : Int) != 0) = false := by simp; omega
          by_cases he : p + 1 = s.length
          · have HO2 : Hid (out = some pre) := show _ = _ by rw [HO1.out, full, if_pos ⟨hx, he⟩]
            have HEE := Lib.hid he
            clear hx he
            go_wp2_with fail
            refine (ended_yes w.heap.size q s (p + 1) x v pre w1 HR1.out HEE.out).mono ?_
            rintro e w8 ⟨rfl, hd8⟩
            have B8 := Below.drawn_of B1' hd8
            have HR8 := Lib.hid (Rd.drawn_of HR1.out hd8)
            clear hd8 c2
            obtain ⟨A, c, hv⟩ := own_form HR8.out.2.1
            subst hv
            have c3 := HR8.out.cell3
            have HG := Lib.hid (own_bytes HR8.out.2.1)
            go_wp2_with fail
            go_step3
            go_wp2_with fail
            rw [jumps_ret]
            go_ret2
            exact got_some HO2.out HG.out B8
          · have HO2 : Hid (out = none) := show _ = _ by rw [HO1.out, full, if_neg (fun e => he e.2)]
            have HEE : Hid (p + 1 < s.length) := show _ < _ by omega
            clear hx he
            go_wp2_with fail
            refine (ended_not w.heap.size q s (p + 1) x v pre w1 HR1.out HEE.out).mono ?_
            rintro e w8 ⟨rfl, hd8⟩
            have B8 := Below.drawn_of B1' hd8
            clear hd8 c2
            go_wp2_with fail
            go_step3
            exact ⟨0, by omega, q, ⟨_, _, _, _, _, _, _, _, _, _, _, _, _, _, _, _, _, _, _, _, _, _, _, _, _, _, _, _, _, _, _, _, _, _, _, rfl⟩, B8, .inr (.inr (.inl ⟨rfl, HO2.out, rfl⟩))⟩
        · have dx : ((x : Int) != 0) = true := by simp; omega
          have HO2 : Hid (out = none) := show _ = _ by rw [HO1.out, full, if_neg (fun e => hx e.1)]
          clear hx
          go_wp2_with fail
          go_step3
          exact ⟨0, by omega, q, ⟨_, _, _, _, _, _, _, _, _, _, _, _, _, _, _, _, _, _, _, _, _, _, _, _, _, _, _, _, _, _, _, _, _, _, _, rfl⟩, B1', .inr (.inr (.inl ⟨rfl, HO2.out, rfl⟩))⟩
      · have HO1 := Lib.hid (HO.out.trans (half_no hf))
        go_wp2_with fail
        have hno : Calls Try.prog 17 #[.pointer (some ⟨q, 0, none⟩)] w0 (SaysNo w0) := by
          by_cases hl : p < s.length
          · exact fill_bad w.heap.size q s (p) (x) v (pre) w0 HR.out hl (fun e => hf ⟨hl, e⟩)
          · exact fill_past w.heap.size q s (p) (x) v (pre) w0 HR.out (by omega)
        refine hno.mono ?_
        rintro e w9 ⟨rfl, hd9⟩
        have B9 := Below.drawn_of B0 hd9
        clear hno
        go_wp2_with fail
        go_step3
        exact ⟨0, by omega, q, ⟨_, _, _, _, _, _, _, _, _, _, _, _, _, _, _, _, _, _, _, _, _, _, _, _, _, _, _, _, _, _, _, _, _, _, _, rfl⟩, B9, .inr (.inr (.inl ⟨rfl, HO1.out, rfl⟩))⟩
    · have HR := Lib.hid hR
      have HO := Lib.hid ho
      clear hR ho
      refine ⟨_, rfl, ?_⟩
      have c2 := HR.out.cell2
      by_cases hx : x = 0
      · have dx : ((x : Int) != 0) = false := by simp; omega
        by_cases he : p = s.length
        · have HO2 : Hid (out = some pre) := show _ = _ by rw [HO.out, full, if_pos ⟨hx, he⟩]
          have HEE := Lib.hid he
          clear hx he
          go_wp2_with fail
          refine (ended_yes w.heap.size q s (p) x v pre w0 HR.out HEE.out).mono ?_
          rintro e w8 ⟨rfl, hd8⟩
          have B8 := Below.drawn_of B0 hd8
          have HR8 := Lib.hid (Rd.drawn_of HR.out hd8)
          clear hd8 c2
          obtain ⟨A, c, hv⟩ := own_form HR8.out.2.1
          subst hv
          have c3 := HR8.out.cell3
          have HG := Lib.hid (own_bytes HR8.out.2.1)
          go_wp2_with fail
          go_step3
          go_wp2_with fail
          rw [jumps_ret]
          go_ret2
          exact got_some HO2.out HG.out B8
        · have HO2 : Hid (out = none) := show _ = _ by rw [HO.out, full, if_neg (fun e => he e.2)]
          have HEE : Hid (p < s.length) := show _ < _ by omega
          clear hx he
          go_wp2_with fail
          refine (ended_not w.heap.size q s (p) x v pre w0 HR.out HEE.out).mono ?_
          rintro e w8 ⟨rfl, hd8⟩
          have B8 := Below.drawn_of B0 hd8
          clear hd8 c2
          go_wp2_with fail
          go_step3
          exact ⟨0, by omega, q, ⟨_, _, _, _, _, _, _, _, _, _, _, _, _, _, _, _, _, _, _, _, _, _, _, _, _, _, _, _, _, _, _, _, _, _, _, rfl⟩, B8, .inr (.inr (.inl ⟨rfl, HO2.out, rfl⟩))⟩
      · have dx : ((x : Int) != 0) = true := by simp; omega
        have HO2 : Hid (out = none) := show _ = _ by rw [HO.out, full, if_neg (fun e => hx e.1)]
        clear hx
        go_wp2_with fail
        go_step3
        exact ⟨0, by omega, q, ⟨_, _, _, _, _, _, _, _, _, _, _, _, _, _, _, _, _, _, _, _, _, _, _, _, _, _, _, _, _, _, _, _, _, _, _, rfl⟩, B0, .inr (.inr (.inl ⟨rfl, HO2.out, rfl⟩))⟩
  · intro again
    have HA := Lib.hid again
    clear again
    go_wp2_with (first | (at_make; refine wpList_make_own _ rfl _ _ 22 rfl w.heap.size 5 i0 _ 1 Try.underlying22 HI.out HZ.out H1.out .i64 .i64 _ (s.length / 4 * 3) rfl rfl (by omega) hb2 hml (Nat.le_refl _) ?_))
    intro w1 hown1 hgr1
    have B1 : Below w.heap.size w w1 := (Below.refl _ _).grown hgr1 (Nat.le_refl _) (by intro k hk; cases hk)
    have HO1 := Lib.hid hown1
    clear hown1 hgr1
    have hBw := B1.size
    go_wp2_with fail
    go_step3
    simp only [Exit.then]
    refine ‹∀ a w, _ → _› _ _ ?_
    have hR : Rd (w1.alloc (.cells #[.string ⟨s.toArray⟩, .int .i64 ((0 : Nat) : Int), .int .u64 ((0 : Nat) : Int), .slice (some ⟨w.heap.size, 0, none⟩) 0 (s.length / 4 * 3)] 34)) w.heap.size w1.heap.size s 0 0 (.slice (some ⟨w.heap.size, 0, none⟩) 0 (s.length / 4 * 3)) [] :=
      ⟨heap_alloc_new _ _, HO1.out.alloc _, hBw⟩
    obtain ⟨rest, hf, hp⟩ := HA.out (3 + s.length) 1 _ _ ⟨w1.heap.size, ⟨_, _, _, _, _, _, _, _, _, _, _, _, _, _, _, _, _, _, _, _, _, _, _, _, _, _, _, _, _, _, _, _, _, _, _, rfl⟩, B1.alloc hBw _, .inl ⟨rfl, 0, _, [], hR, Nat.zero_le _, Nat.zero_le _, by rw [HO.out]; simp, rfl⟩⟩
    cases hf
    exact hp

end Go.Proofs.Ytlimkiebbmidiaa
