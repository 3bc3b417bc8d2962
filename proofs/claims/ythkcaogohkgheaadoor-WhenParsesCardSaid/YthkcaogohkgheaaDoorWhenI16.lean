/-
  What when's Parse does with every text of up to 100 bytes.
-/
import Derived.Test.YthkcaogohkgheaaDoorWhenH16
namespace Go.Proofs.YthkcaogohkgheaaDoor
set_option maxRecDepth 100000
open Go.RowKit

/-! ### Fields and forms -/
theorem fld_length {s : List UInt8} {a b : Nat} (hb : b ≤ s.length) : (fld s a b).length = b - a := by
  unfold fld
  rw [List.length_take, List.length_drop]
  omega
theorem fld_at {s : List UInt8} {a b n : Nat} (hb : b ≤ s.length) (h : n < (fld s a b).length) : (fld s a b)[n] = byteW s (a + n) := by
  have hl := fld_length (a := a) hb
  unfold byteW
  rw [List.getD_eq_getElem?_getD, List.getElem?_eq_getElem (by omega)]
  simp [fld]
theorem fld_all {s : List UInt8} {a b : Nat} (hb : b ≤ s.length) : (fld s a b).all dig = true ↔ ∀ i, a ≤ i → i < b → dig (byteW s i) = true := by
  have hl := fld_length (a := a) hb
  rw [List.all_eq_true]
  constructor
  · intro h i h1 h2
    have e := fld_at (a := a) (n := i - a) hb (by omega)
    rw [show a + (i - a) = i by omega] at e
    rw [← e]
    exact h _ (List.getElem_mem _)
  · intro h x hx
    obtain ⟨n, hn, rfl⟩ := List.getElem_of_mem hx
    rw [fld_at hb hn]
    exact h _ (by omega) (by omega)
structure Base16 (s : List UInt8) : Prop where
  y : (fld s 0 4).all dig = true
  m : (fld s 5 7).all dig = true
  d : (fld s 8 10).all dig = true
  h : (fld s 11 13).all dig = true
  i : (fld s 14 16).all dig = true
  c : (fld s 17 19).all dig = true
  b4 : byteW s 4 = 45
  b7 : byteW s 7 = 45
  b10 : byteW s 10 = 84
  b13 : byteW s 13 = 58
  b16 : byteW s 16 = 58
theorem ok_is {f c : UInt8} (h : okB f c = true) (hf : f ≠ 48) : c = f := by
  unfold okB at h
  rw [if_neg hf] at h
  exact (of_decide_eq_true h).symm
theorem ok_dig {f c : UInt8} (h : okB f c = true) (hf : f = 48) : dig c = true := by
  unfold okB at h
  rwa [if_pos hf] at h
theorem is_ok {f c : UInt8} (h : c = f) (hf : f ≠ 48) : okB f c = true := by
  unfold okB
  rw [if_neg hf]
  exact decide_eq_true h.symm
theorem dig_ok {f c : UInt8} (h : dig c = true) (hf : f = 48) : okB f c = true := by
  unfold okB
  rwa [if_pos hf]
theorem form_plain (s : List UInt8) : formP s plainL ↔ s.length = 20 ∧ Base16 s ∧ byteW s 19 = 90 := by
  constructor
  · rintro ⟨h1, h2⟩
    have h1 : s.length = 20 := h1
    refine ⟨h1, ⟨(fld_all (by omega)).2 ?_, (fld_all (by omega)).2 ?_, (fld_all (by omega)).2 ?_, (fld_all (by omega)).2 ?_, (fld_all (by omega)).2 ?_, (fld_all (by omega)).2 ?_, ?_, ?_, ?_, ?_, ?_⟩, ?_⟩
    · intro i a b
      exact ok_dig (h2 i (show i < 20 by omega)) (by have : i = 0 ∨ i = 1 ∨ i = 2 ∨ i = 3 := by omega
                                                     rcases this with rfl | rfl | rfl | rfl <;> rfl)
    · intro i a b
      exact ok_dig (h2 i (show i < 20 by omega)) (by have : i = 5 ∨ i = 6 := by omega
                                                     rcases this with rfl | rfl <;> rfl)
    · intro i a b
      exact ok_dig (h2 i (show i < 20 by omega)) (by have : i = 8 ∨ i = 9 := by omega
                                                     rcases this with rfl | rfl <;> rfl)
    · intro i a b
      exact ok_dig (h2 i (show i < 20 by omega)) (by have : i = 11 ∨ i = 12 := by omega
                                                     rcases this with rfl | rfl <;> rfl)
    · intro i a b
      exact ok_dig (h2 i (show i < 20 by omega)) (by have : i = 14 ∨ i = 15 := by omega
                                                     rcases this with rfl | rfl <;> rfl)
    · intro i a b
      exact ok_dig (h2 i (show i < 20 by omega)) (by have : i = 17 ∨ i = 18 := by omega
                                                     rcases this with rfl | rfl <;> rfl)
    · exact ok_is (h2 4 (by decide)) (by decide)
    · exact ok_is (h2 7 (by decide)) (by decide)
    · exact ok_is (h2 10 (by decide)) (by decide)
    · exact ok_is (h2 13 (by decide)) (by decide)
    · exact ok_is (h2 16 (by decide)) (by decide)
    · exact ok_is (h2 19 (by decide)) (by decide)
  · rintro ⟨h1, hb, h19⟩
    refine ⟨h1, fun i hi => ?_⟩
    have hi : i < 20 := hi
    have e : i = 0 ∨ i = 1 ∨ i = 2 ∨ i = 3 ∨ i = 4 ∨ i = 5 ∨ i = 6 ∨ i = 7 ∨ i = 8 ∨ i = 9 ∨ i = 10 ∨ i = 11 ∨ i = 12 ∨ i = 13 ∨ i = 14 ∨ i = 15 ∨ i = 16 ∨ i = 17 ∨ i = 18 ∨ i = 19 := by omega
    rcases e with rfl | rfl | rfl | rfl | rfl | rfl | rfl | rfl | rfl | rfl | rfl | rfl | rfl | rfl | rfl | rfl | rfl | rfl | rfl | rfl
    · exact dig_ok ((fld_all (by omega)).1 hb.y _ (by decide) (by decide)) rfl
    · exact dig_ok ((fld_all (by omega)).1 hb.y _ (by decide) (by decide)) rfl
    · exact dig_ok ((fld_all (by omega)).1 hb.y _ (by decide) (by decide)) rfl
    · exact dig_ok ((fld_all (by omega)).1 hb.y _ (by decide) (by decide)) rfl
    · exact is_ok hb.b4 (by decide)
    · exact dig_ok ((fld_all (by omega)).1 hb.m _ (by decide) (by decide)) rfl
    · exact dig_ok ((fld_all (by omega)).1 hb.m _ (by decide) (by decide)) rfl
    · exact is_ok hb.b7 (by decide)
    · exact dig_ok ((fld_all (by omega)).1 hb.d _ (by decide) (by decide)) rfl
    · exact dig_ok ((fld_all (by omega)).1 hb.d _ (by decide) (by decide)) rfl
    · exact is_ok hb.b10 (by decide)
    · exact dig_ok ((fld_all (by omega)).1 hb.h _ (by decide) (by decide)) rfl
    · exact dig_ok ((fld_all (by omega)).1 hb.h _ (by decide) (by decide)) rfl
    · exact is_ok hb.b13 (by decide)
    · exact dig_ok ((fld_all (by omega)).1 hb.i _ (by decide) (by decide)) rfl
    · exact dig_ok ((fld_all (by omega)).1 hb.i _ (by decide) (by decide)) rfl
    · exact is_ok hb.b16 (by decide)
    · exact dig_ok ((fld_all (by omega)).1 hb.c _ (by decide) (by decide)) rfl
    · exact dig_ok ((fld_all (by omega)).1 hb.c _ (by decide) (by decide)) rfl
    · exact is_ok h19 (by decide)
theorem form_fine (s : List UInt8) : formP s fineL ↔ s.length = 24 ∧ Base16 s ∧ byteW s 19 = 46 ∧ byteW s 23 = 90 ∧ (fld s 20 23).all dig = true := by
  constructor
  · rintro ⟨h1, h2⟩
    have h1 : s.length = 24 := h1
    refine ⟨h1, ⟨(fld_all (by omega)).2 ?_, (fld_all (by omega)).2 ?_, (fld_all (by omega)).2 ?_, (fld_all (by omega)).2 ?_, (fld_all (by omega)).2 ?_, (fld_all (by omega)).2 ?_, ?_, ?_, ?_, ?_, ?_⟩, ?_, ?_, (fld_all (by omega)).2 ?_⟩
    · intro i a b
      exact ok_dig (h2 i (show i < 24 by omega)) (by have : i = 0 ∨ i = 1 ∨ i = 2 ∨ i = 3 := by omega
                                                     rcases this with rfl | rfl | rfl | rfl <;> rfl)
    · intro i a b
      exact ok_dig (h2 i (show i < 24 by omega)) (by have : i = 5 ∨ i = 6 := by omega
                                                     rcases this with rfl | rfl <;> rfl)
    · intro i a b
      exact ok_dig (h2 i (show i < 24 by omega)) (by have : i = 8 ∨ i = 9 := by omega
                                                     rcases this with rfl | rfl <;> rfl)
    · intro i a b
      exact ok_dig (h2 i (show i < 24 by omega)) (by have : i = 11 ∨ i = 12 := by omega
                                                     rcases this with rfl | rfl <;> rfl)
    · intro i a b
      exact ok_dig (h2 i (show i < 24 by omega)) (by have : i = 14 ∨ i = 15 := by omega
                                                     rcases this with rfl | rfl <;> rfl)
    · intro i a b
      exact ok_dig (h2 i (show i < 24 by omega)) (by have : i = 17 ∨ i = 18 := by omega
                                                     rcases this with rfl | rfl <;> rfl)
    · exact ok_is (h2 4 (by decide)) (by decide)
    · exact ok_is (h2 7 (by decide)) (by decide)
    · exact ok_is (h2 10 (by decide)) (by decide)
    · exact ok_is (h2 13 (by decide)) (by decide)
    · exact ok_is (h2 16 (by decide)) (by decide)
    · exact ok_is (h2 19 (by decide)) (by decide)
    · exact ok_is (h2 23 (by decide)) (by decide)
    · intro i a b
      exact ok_dig (h2 i (show i < 24 by omega)) (by have : i = 20 ∨ i = 21 ∨ i = 22 := by omega
                                                     rcases this with rfl | rfl | rfl <;> rfl)
  · rintro ⟨h1, hb, h19, h23, hf⟩
    refine ⟨h1, fun i hi => ?_⟩
    have hi : i < 24 := hi
    have e : i = 0 ∨ i = 1 ∨ i = 2 ∨ i = 3 ∨ i = 4 ∨ i = 5 ∨ i = 6 ∨ i = 7 ∨ i = 8 ∨ i = 9 ∨ i = 10 ∨ i = 11 ∨ i = 12 ∨ i = 13 ∨ i = 14 ∨ i = 15 ∨ i = 16 ∨ i = 17 ∨ i = 18 ∨ i = 19 ∨ i = 20 ∨ i = 21 ∨ i = 22 ∨ i = 23 := by omega
    rcases e with rfl | rfl | rfl | rfl | rfl | rfl | rfl | rfl | rfl | rfl | rfl | rfl | rfl | rfl | rfl | rfl | rfl | rfl | rfl | rfl | rfl | rfl | rfl | rfl
    · exact dig_ok ((fld_all (by omega)).1 hb.y _ (by decide) (by decide)) rfl
    · exact dig_ok ((fld_all (by omega)).1 hb.y _ (by decide) (by decide)) rfl
    · exact dig_ok ((fld_all (by omega)).1 hb.y _ (by decide) (by decide)) rfl
    · exact dig_ok ((fld_all (by omega)).1 hb.y _ (by decide) (by decide)) rfl
    · exact is_ok hb.b4 (by decide)
    · exact dig_ok ((fld_all (by omega)).1 hb.m _ (by decide) (by decide)) rfl
    · exact dig_ok ((fld_all (by omega)).1 hb.m _ (by decide) (by decide)) rfl
    · exact is_ok hb.b7 (by decide)
    · exact dig_ok ((fld_all (by omega)).1 hb.d _ (by decide) (by decide)) rfl
    · exact dig_ok ((fld_all (by omega)).1 hb.d _ (by decide) (by decide)) rfl
    · exact is_ok hb.b10 (by decide)
    · exact dig_ok ((fld_all (by omega)).1 hb.h _ (by decide) (by decide)) rfl
    · exact dig_ok ((fld_all (by omega)).1 hb.h _ (by decide) (by decide)) rfl
    · exact is_ok hb.b13 (by decide)
    · exact dig_ok ((fld_all (by omega)).1 hb.i _ (by decide) (by decide)) rfl
    · exact dig_ok ((fld_all (by omega)).1 hb.i _ (by decide) (by decide)) rfl
    · exact is_ok hb.b16 (by decide)
    · exact dig_ok ((fld_all (by omega)).1 hb.c _ (by decide) (by decide)) rfl
    · exact dig_ok ((fld_all (by omega)).1 hb.c _ (by decide) (by decide)) rfl
    · exact is_ok h19 (by decide)
    · exact dig_ok ((fld_all (by omega)).1 hf _ (by decide) (by decide)) rfl
    · exact dig_ok ((fld_all (by omega)).1 hf _ (by decide) (by decide)) rfl
    · exact dig_ok ((fld_all (by omega)).1 hf _ (by decide) (by decide)) rfl
    · exact is_ok h23 (by decide)

/-! ### The time that a text of a form tells -/
theorem num_all {l : List UInt8} (h : 0 ≤ numW l) : l.all dig = true := by
  unfold numW at h
  split at h
  · assumption
  · omega
theorem num_val {l : List UInt8} (h : l.all dig = true) : numW l = ((valW l : Nat) : Int) := if_pos h
theorem good_base {s : List UInt8} {f : Int} (h : goodW s f) : Base16 s := by
  obtain ⟨a1, a2, a3, a4, a5, b1, b2, b3, b4, b5, b6, b7, b8, b9, b10, b11, b12⟩ := h
  exact ⟨num_all (by omega), num_all (by omega), num_all (by omega), num_all b6, num_all b8, num_all b10, a1, a2, a3, a4, a5⟩
theorem pW_none {s : List UInt8} (h1 : ¬ formP s plainL) (h2 : ¬ formP s fineL) : pW s = none := by
  unfold pW
  cases e : fracW s with
  | none => rfl
  | some f =>
    show (if goodW s f then _ else _) = _
    rw [if_neg]
    intro g
    have B := good_base g
    unfold fracW at e
    split at e
    · rename_i q
      obtain ⟨q1, q2, q3⟩ := q
      refine h2 ((form_fine s).2 ⟨q1, B, q2, q3, ?_⟩)
      apply num_all
      have := g.2.2.2.2.2.2.2.2.2.2.2.2.2.2.2.2
      rw [← Option.some.inj e] at this
      exact this
    · split at e
      · cases e
      · rename_i q
        have q1 : s.length = 20 := Classical.byContradiction fun n => q (.inl n)
        have q2 : byteW s 19 = 90 := Classical.byContradiction fun n => q (.inr n)
        exact h1 ((form_plain s).2 ⟨q1, B, q2⟩)
theorem pW_form {s : List UInt8} {f : Nat} (B : Base16 s) (hf : fracW s = some (f : Int)) (y m d h i c : Nat) (hy : valW (fld s 0 4) = y) (hm : valW (fld s 5 7) = m) (hd : valW (fld s 8 10) = d) (hh : valW (fld s 11 13) = h) (hi : valW (fld s 14 16) = i) (hc : valW (fld s 17 19) = c) :
    pW s = if exB y m d = true ∧ h ≤ 23 ∧ i ≤ 59 ∧ c ≤ 59 then some (((dnum (y - 1970) (m - 1) (d - 1) * 86400000 + h * 3600000 + i * 60000 + c * 1000 + f : Nat) : Int)) else none := by
  unfold pW
  rw [hf]
  show (if goodW s (f : Int) then _ else _) = _
  have e1 : numW (fld s 0 4) = (y : Int) := by rw [num_val B.y, hy]
  have e2 : numW (fld s 5 7) = (m : Int) := by rw [num_val B.m, hm]
  have e3 : numW (fld s 8 10) = (d : Int) := by rw [num_val B.d, hd]
  have e4 : numW (fld s 11 13) = (h : Int) := by rw [num_val B.h, hh]
  have e5 : numW (fld s 14 16) = (i : Int) := by rw [num_val B.i, hi]
  have e6 : numW (fld s 17 19) = (c : Int) := by rw [num_val B.c, hc]
  have G : goodW s (f : Int) ↔ exB y m d = true ∧ h ≤ 23 ∧ i ≤ 59 ∧ c ≤ 59 := by
    unfold goodW exB
    rw [e1, e2, e3, e4, e5, e6, decide_eq_true_iff, Int.toNat_natCast, Int.toNat_natCast]
    constructor
    · rintro ⟨a1, a2, a3, a4, a5, b1, b2, b3, b4, b5, b6, b7, b8, b9, b10, b11, b12⟩
      exact ⟨⟨by omega, by omega, by omega, by omega, by omega⟩, by omega, by omega, by omega⟩
    · rintro ⟨⟨c1, c2, c3, c4, c5⟩, c6, c7, c8⟩
      exact ⟨B.b4, B.b7, B.b10, B.b13, B.b16, by omega, by omega, by omega, by omega, by omega, by omega, by omega, by omega, by omega, by omega, by omega, by omega⟩
  by_cases g : goodW s (f : Int)
  · rw [if_pos g, if_pos (G.1 g)]
    unfold timeW
    rw [e1, e2, e3, e4, e5, e6, Int.toNat_natCast, Int.toNat_natCast, Int.toNat_natCast]
    generalize dnum (y - 1970) (m - 1) (d - 1) = D
    exact congrArg some (by omega)
  · rw [if_neg g, if_neg (fun x => g (G.2 x))]

/-! ### The program's Parse -/
theorem dv_eq (y m d : Nat) : dv y m d = .agg #[.int .i64 (y : Int), .int .i64 (m : Int), .int .i64 (d : Int)] := rfl
set_option maxHeartbeats 2000000 in
theorem parse_no (s : List UInt8) (h1 : ¬ formP s plainL) (h2 : ¬ formP s fineL) (w : World) :
    Calls Tryd.prog 10 #[.string ⟨s.toArray⟩] w fun e w' => e = .returned (.tuple #[.int .i64 0, .bool false]) ∧ Below w.heap.size w w' := by
  have cP := Lib.hid fun w => hasForm_any s plainL (by decide) w
  have cQ := Lib.hid fun w => hasForm_any s fineL (by decide) w
  rw [decide_eq_false h1] at cP
  rw [decide_eq_false h2] at cQ
  unfold plainL at cP
  unfold fineL at cQ
  clear h1 h2
  go_enter Tryd.func10, Tryd.ntmps10
  go_wp2_with fail
  refine (cP.out _).mono ?_
  rintro e w1 ⟨rfl, B1⟩
  have HB1 := Lib.hid B1
  clear B1 cP
  go_wp2_with fail
  refine (cQ.out _).mono ?_
  rintro e w2 ⟨rfl, B2⟩
  have HB2 := Lib.hid (low16 HB1.out B2)
  clear B2 cQ
  go_wp2_with fail
  go_ret2
  exact ⟨rfl, HB2.out⟩
theorem ex_date {y m d : Nat} (h : exB y m d = true) : VDate (y - 1970) (m - 1) (d - 1) ∧ 1970 + (y - 1970) = y ∧ m - 1 + 1 = m ∧ d - 1 + 1 = d := by
  unfold exB at h
  obtain ⟨h1, h2, h3, h4, h5⟩ := of_decide_eq_true h
  refine ⟨⟨by omega, ?_⟩, by omega, by omega, by omega⟩
  rw [show 1970 + (y - 1970) = y by omega, show m - 1 + 1 = m by omega]
  omega
/-- What is answered. -/
def ansV (o : Option Int) : Value := .tuple #[.int .i64 (o.getD 0), .bool o.isSome]
theorem val_bound {s : List UInt8} {a b : Nat} (hb : b ≤ s.length) (h : (fld s a b).all dig = true) : valW (fld s a b) < 10 ^ (b - a) := by
  have := val_lt _ h
  rwa [fld_length hb] at this
set_option maxHeartbeats 2000000 in
theorem parse_yes (s : List UInt8) (p : Bool) (f : Nat) (B : Base16 s) (h20 : 20 ≤ s.length) (HF : (p = true ∧ s.length = 20) ∨ (p = false ∧ s.length = 24)) (hp : decide (formP s plainL) = p) (hq : p = false → decide (formP s fineL) = true)
    (hf : fracW s = some (((if p = true then 0 else f : Nat)) : Int)) (cF : p = false → (fld s 20 23).all dig = true ∧ valW (fld s 20 23) = f) (bf : f ≤ 999) (w : World) :
    Calls Tryd.prog 10 #[.string ⟨s.toArray⟩] w fun e w' => e = .returned (ansV (pW s)) ∧ Below w.heap.size w w' := by
  obtain ⟨y, hy⟩ : ∃ y, valW (fld s 0 4) = y := ⟨_, rfl⟩
  obtain ⟨m, hm⟩ : ∃ y, valW (fld s 5 7) = y := ⟨_, rfl⟩
  obtain ⟨d, hd⟩ : ∃ y, valW (fld s 8 10) = y := ⟨_, rfl⟩
  obtain ⟨h, hh⟩ : ∃ y, valW (fld s 11 13) = y := ⟨_, rfl⟩
  obtain ⟨i, hi⟩ : ∃ y, valW (fld s 14 16) = y := ⟨_, rfl⟩
  obtain ⟨c, hc⟩ : ∃ y, valW (fld s 17 19) = y := ⟨_, rfl⟩
  have by' := val_bound (by omega) B.y
  have bm := val_bound (by omega) B.m
  have bd := val_bound (by omega) B.d
  have bh := val_bound (by omega) B.h
  have bi := val_bound (by omega) B.i
  have bc := val_bound (by omega) B.c
  rw [hy] at by'
  rw [hm] at bm
  rw [hd] at bd
  rw [hh] at bh
  rw [hi] at bi
  rw [hc] at bc
  rw [pW_form B hf y m d h i c hy hm hd hh hi hc]
  have lf : ∀ a b : Nat, b ≤ 20 → b - a ≤ 4 → (fld s a b).length ≤ 10 := fun a b h1 h2 => by rw [fld_length (by omega)]; omega
  have cN : exB y m d = true → ∀ w, Calls Tryd.prog 22 #[dv y m d] w fun e w' => e = .returned (.int .i64 ((dnum (y - 1970) (m - 1) (d - 1) : Nat) : Int)) ∧ Below w.heap.size w w' := fun he w => by
    obtain ⟨v, e1, e2, e3⟩ := ex_date he
    have q := days_any (y - 1970) (m - 1) (d - 1) v (by omega) w
    rw [e1, e2, e3] at q
    exact q
  have bN : exB y m d = true → dnum (y - 1970) (m - 1) (d - 1) ≤ 3000000 := fun he => by
    obtain ⟨v, e1, e2, e3⟩ := ex_date he
    have q := in_year v
    have q2 := ys_mono (show y - 1970 + 1 ≤ 8030 by omega)
    rw [ys_last] at q2
    omega
  have key : ∀ N : Nat, (exB y m d = true → N = dnum (y - 1970) (m - 1) (d - 1)) → N ≤ 3000000 → Calls Tryd.prog 10 #[.string ⟨s.toArray⟩] w fun e w' => e = .returned (ansV (if exB y m d = true ∧ h ≤ 23 ∧ i ≤ 59 ∧ c ≤ 59 then some ((N * 86400000 + h * 3600000 + i * 60000 + c * 1000 + (if p = true then 0 else f) : Nat) : Int) else none)) ∧ Below w.heap.size w w' := fun N hN hb => by
    refine parse_core s y m d h i c f N p (exB y m d) _ w h20 hb (by omega) (by omega) (by omega) bf HF ?_ ?_ ?_ ?_ ?_ ?_ ?_ ?_ ?_ ?_ ?_ ?_ ?_
    · exact Lib.hid fun w => by have := hasForm_any s plainL (by decide) w; rw [hp] at this; exact this
    · exact Lib.hid fun e w => by have := hasForm_any s fineL (by decide) w; rw [hq e] at this; exact this
    · exact Lib.hid fun w => by have := number_any _ (lf 0 4 (by decide) (by decide)) B.y w; rw [hy] at this; exact this
    · exact Lib.hid fun w => by have := number_any _ (lf 5 7 (by decide) (by decide)) B.m w; rw [hm] at this; exact this
    · exact Lib.hid fun w => by have := number_any _ (lf 8 10 (by decide) (by decide)) B.d w; rw [hd] at this; exact this
    · exact Lib.hid fun w => by have := number_any _ (lf 11 13 (by decide) (by decide)) B.h w; rw [hh] at this; exact this
    · exact Lib.hid fun w => by have := number_any _ (lf 14 16 (by decide) (by decide)) B.i w; rw [hi] at this; exact this
    · exact Lib.hid fun w => by have := number_any _ (lf 17 19 (by decide) (by decide)) B.c w; rw [hc] at this; exact this
    · refine Lib.hid fun e w => ?_
      obtain ⟨g1, g2⟩ := cF e
      have := number_any _ (by rw [fld_length (by rcases HF with ⟨g, _⟩ | ⟨_, g⟩ <;> first | (rw [e] at g; cases g) | omega)]; decide) g1 w
      rw [g2] at this
      exact this
    · exact Lib.hid fun w => exists_any y m d (by omega) (by omega) w
    · exact Lib.hid fun e w => by rw [hN e]; exact cN e w
    · refine Lib.hid fun e => ?_
      rw [if_neg]
      · rfl
      · rintro ⟨g1, g2, g3, g4⟩
        rcases e with e | e | e | e
        · rw [g1] at e; cases e
        · omega
        · omega
        · omega
    · refine Lib.hid fun g1 g2 g3 g4 => ?_
      rw [if_pos ⟨g1, g2, g3, g4⟩]
      rfl
  cases he : exB y m d with
  | true =>
    have := key _ (fun _ => rfl) (bN he)
    rw [he] at this
    exact this
  | false =>
    have := key 0 (fun e => by rw [he] at e; cases e) (by omega)
    rw [he] at this
    rw [if_neg (fun e => by cases e.1)] at this ⊢
    exact this
theorem parse_any16 (s : List UInt8) (w : World) :
    Calls Tryd.prog 10 #[.string ⟨s.toArray⟩] w fun e w' => e = .returned (ansV (pW s)) ∧ Below w.heap.size w w' := by
  by_cases h1 : formP s plainL
  · obtain ⟨a, B, b⟩ := (form_plain s).1 h1
    refine parse_yes s true 0 B (by omega) (.inl ⟨rfl, a⟩) (decide_eq_true h1) (fun e => by cases e) ?_ (fun e => by cases e) (by decide) w
    unfold fracW
    rw [if_neg (by omega), if_neg]
    · rfl
    · rintro (e | e)
      · exact e a
      · exact e b
  · by_cases h2 : formP s fineL
    · obtain ⟨a, B, b, c, e⟩ := (form_fine s).1 h2
      have hv := val_bound (by omega) e
      refine parse_yes s false (valW (fld s 20 23)) B (by omega) (.inr ⟨rfl, a⟩) (decide_eq_false h1) (fun _ => decide_eq_true h2) ?_ (fun _ => ⟨e, rfl⟩) (by omega) w
      unfold fracW
      rw [if_pos ⟨a, b, c⟩, num_val e]
      rfl
    · rw [pW_none h1 h2]
      exact parse_no s h1 h2 w
end Go.Proofs.YthkcaogohkgheaaDoor
