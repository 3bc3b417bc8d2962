/-
  What decit's bitsOf does.
-/
import Derived.Test.YtkkoefiennccoaaGreatDoorDecit15D
import Derived.Lib.QuietBelow
import Derived.BigQuiet
namespace Go.Proofs.YtkkoefiennccoaaGreatDoor
set_option maxRecDepth 100000
open Go.RowKit
open Go.Lib (decDigits itoa)

/-- Bits and an error's number, by value. -/
def pV (t : Nat × Nat × Nat) : Value := .tuple #[.int .u64 (t.1 : Int), .int .u64 (t.2.1 : Int), .int .i64 (t.2.2 : Int)]

set_option maxHeartbeats 4000000 in
theorem bits_core (n m ok jo : Bool) (o b z c t d : List UInt8) (P q r k1 k0 H L : Int) (T : Value) (w : World) (hc : o ++ b = c) (hcl : c.length ≤ 1000) (hbl : b.length ≤ 1000) (hq : q = P - (b.length : Int)) (hP : -10000 ≤ P ∧ P ≤ 10000)
    (hT : T = if ok = true ∧ jo = true then .tuple #[.int .u64 H, .int .u64 L, .int .i64 0] else .tuple #[.int .u64 0, .int .u64 0, .int .i64 10])
    (cT : Hid (∀ w, Calls Tryz.prog 42 #[.string ⟨c.toArray⟩, .string ⟨#[48]⟩] w fun e w' => e = .returned (.string ⟨t.toArray⟩) ∧ w' = w))
    (cP : Hid (∀ w, Calls Tryz.prog 44 #[nv n o b m z] w fun e w' => e = .returned (.int .i64 P) ∧ Below w.heap.size w w'))
    (cN : Hid (∀ w, Calls Tryz.prog 43 #[.string ⟨t.toArray⟩, .int .i64 q] w fun e w' => e = .returned (.tuple #[.string ⟨d.toArray⟩, .int .i64 r]) ∧ w' = w))
    (cX : Hid (∀ w, Calls Tryz.prog 45 #[.string ⟨d.toArray⟩] w fun e w' => e = .returned (.tuple #[.agg #[.int .u64 k1, .int .u64 k0], .bool ok]) ∧ Below w.heap.size w w'))
    (cJ : Hid (∀ w, Calls Tryz.prog 17 #[.bool n, .agg #[.int .u64 k1, .int .u64 k0], .int .i64 r] w fun e w' => e = .returned (.tuple #[.int .u64 H, .int .u64 L, .bool jo]) ∧ Below w.heap.size w w')) :
    Calls Tryz.prog 23 #[nv n o b m z] w fun e w' => e = .returned T ∧ Below w.heap.size w w' := by
  unfold nv at cP ⊢
  have k1' := pcat_is (a := o.toArray) (b := b.toArray) rfl rfl hc (by have := congrArg List.length hc; rw [List.length_append] at this; omega)
  obtain ⟨V, hV⟩ : ∃ V, V = w.alloc (Obj.cells #[.bool n, .string ⟨o.toArray⟩, .string ⟨b.toArray⟩, .bool m, .string ⟨z.toArray⟩] 44) := ⟨_, rfl⟩
  have hN : NumAt V w.heap.size n o b m z := by rw [hV]; exact heap_alloc_new _ _
  have hB : Below w.heap.size w V := by rw [hV]; exact (Below.refl _ _).alloc (Nat.le_refl _) _
  have HTT := Lib.hid hT
  have e1 : wrap64 (P - (b.length : Int)) = q := by rw [hq]; unfold wrap64; omega
  clear hc hcl hq hP hT
  go_enter Tryz.func23, Tryz.ntmps23
  go_wp2_with fail
  rw [← hV]
  obtain ⟨g, hg⟩ : ∃ g, g = w.heap.size := ⟨_, rfl⟩
  have HGE := Lib.hid hg
  rw [← hg] at hN hB ⊢
  have HB := Lib.hid hB; have HN := Lib.hid hN
  clear hg hV hB hN
  refine (cT.out _).mono ?_
  rintro e w2 ⟨rfl, hw⟩; subst w2
  clear cT k1'
  go_wp2_with fail
  have j0 := cell_regrown HN.out.c0
  have j1 := cell_regrown HN.out.c1
  have j2 := cell_regrown HN.out.c2
  have j3 := cell_regrown HN.out.c3
  have j4 := cell_regrown HN.out.c4
  have cP2 : ∀ d os, Calls Tryz.prog 44 #[.agg #[.bool n, .string ⟨o.toArray⟩, .string ⟨b.toArray⟩, .bool m, .string ⟨z.toArray⟩]] (Sort.grow (redrawn V d) os) fun x w'' => x = .returned (.int .i64 P) ∧ ∃ p : Regrown, w'' = Sort.grow (redrawn V p.d) p.os :=
    fun d os => Calls.regrown_of (cP.out _)
  have cN2 : ∀ d' os, Calls Tryz.prog 43 #[.string ⟨t.toArray⟩, .int .i64 q] (Sort.grow (redrawn V d') os) fun x w'' => x = .returned (.tuple #[.string ⟨d.toArray⟩, .int .i64 r]) ∧ ∃ p : Regrown, w'' = Sort.grow (redrawn V p.d) p.os :=
    fun d' os => Calls.regrown_of ((cN.out _).mono fun e w' ⟨he, hw⟩ => ⟨he, by rw [hw]; exact Below.refl _ _⟩)
  refine wp_region_quiet_below (by kernel_rfl) (by kernel_rfl) ?_
  repeat (go_big_quiet_step (first | with_reducible exact cP2 _ _ | with_reducible exact cN2 _ _))
  refine wpQuiet_nil ?_
  intro wq hw'
  obtain ⟨⟨dq, osq⟩, hw''⟩ := hw'
  have B3 : Below V.heap.size V (Sort.grow (redrawn V dq) osq) := below_regrown V dq osq
  have HN3 := Lib.hid (HN.out.keep B3)
  have HB3 := Lib.hid (low_g HB.out (Nat.le_of_lt HN.out.lt) B3)
  rw [← hw''] at HN3 HB3
  clear hw'' B3 j0 j1 j2 j3 j4 cP2 cN2 cP cN HB HN
  go_wp2_with fail
  refine (cX.out _).mono ?_
  rintro e w4 ⟨rfl, B4⟩
  have HN4 := Lib.hid (HN3.out.keep B4)
  have HB4 := Lib.hid (low_g HB3.out (Nat.le_of_lt HN3.out.lt) B4)
  clear B4 cX HN3 HB3
  obtain ⟨W, hW⟩ : ∃ W, W = w4.alloc (Obj.cells #[.int .u64 k1, .int .u64 k0] 31) := ⟨_, rfl⟩
  obtain ⟨g5, hg5⟩ : ∃ g5, g5 = w4.heap.size := ⟨_, rfl⟩
  have hgg : g < g5 := by rw [hg5]; exact HN4.out.lt
  have BW : Below w4.heap.size w4 W := by rw [hW]; exact (Below.refl _ _).alloc (Nat.le_refl _) _
  have HN5 := Lib.hid (HN4.out.keep BW)
  have HB5 := Lib.hid (low_g HB4.out (Nat.le_of_lt HN4.out.lt) BW)
  have i0 : W.cell? ⟨g5, 0, none⟩ = some (.int .u64 k1) := by rw [hW, hg5]; simp [go_sem]
  have i1 : W.cell? ⟨g5, 1, none⟩ = some (.int .u64 k0) := by rw [hW, hg5]; simp [go_sem]
  have p0 := HN5.out.c0
  clear BW HN4 HB4
  cases ok
  · have HE : Hid (T = .tuple #[.int .u64 0, .int .u64 0, .int .i64 10]) := show _ = _ by rw [HTT.out]; rfl
    go_wp2_with fail
    go_ret3
    exact ⟨by rw [HE.out]; rfl, by rw [← HGE.out, ← hW]; exact HB5.out⟩
  · go_upto_if 32 with fail
    rw [← hW, ← hg5]
    clear hW hg5
    go_wp2_with fail
    refine (cJ.out _).mono ?_
    rintro e w6 ⟨rfl, B6⟩
    have HB6 := Lib.hid (low_g HB5.out (Nat.le_of_lt HN5.out.lt) B6)
    clear B6 cJ
    cases jo
    · have HE : Hid (T = .tuple #[.int .u64 0, .int .u64 0, .int .i64 10]) := show _ = _ by rw [HTT.out]; rfl
      go_wp2_with fail
      go_ret3
      exact ⟨by rw [HE.out]; rfl, by rw [← HGE.out]; exact HB6.out⟩
    · have HE : Hid (T = .tuple #[.int .u64 H, .int .u64 L, .int .i64 0]) := show _ = _ by rw [HTT.out]; rfl
      go_wp2_with fail
      go_ret3
      exact ⟨by rw [HE.out]; rfl, by rw [← HGE.out]; exact HB6.out⟩

theorem ds_len_of {B N : Nat} (h : N < 10 ^ B) : (ds N).length ≤ B := ds_length B N h
theorem eOf_cap (m : Bool) (y : List UInt8) : (if m = true then -((pw y : Nat) : Int) else ((pw y : Nat) : Int)) = (if m = true then -((dv 0 y : Nat) : Int) else ((dv 0 y : Nat) : Int)) ∨
    (((10000 : Nat) : Int) ≤ (if m = true then -((dv 0 y : Nat) : Int) else ((dv 0 y : Nat) : Int)) ∧ (if m = true then -((pw y : Nat) : Int) else ((pw y : Nat) : Int)) = ((10000 : Nat) : Int)) ∨
    ((if m = true then -((dv 0 y : Nat) : Int) else ((dv 0 y : Nat) : Int)) ≤ -((10000 : Nat) : Int) ∧ (if m = true then -((pw y : Nat) : Int) else ((pw y : Nat) : Int)) = -((10000 : Nat) : Int)) := by
  unfold pw
  generalize dv 0 y = v
  cases m
  · simp only [Bool.false_eq_true, if_false]; omega
  · simp only [if_true]; omega

/-- The bits of a number: digits, digits behind the point, an exponent. -/
theorem bitsOf_any15 (n m : Bool) (o b z : List UInt8) (w : World) (ho : ∀ c ∈ o, isD c = true) (hb : ∀ c ∈ b, isD c = true) (hz : ∀ c ∈ z, isD c = true) (hlo : o.length + b.length ≤ 300) (hlz : z.length ≤ 300) :
    Calls Tryz.prog 23 #[nv n o b m z] w fun e w' => e = .returned (pV (pFind n (o ++ b) ((if m = true then -((dv 0 z : Nat) : Int) else ((dv 0 z : Nat) : Int)) - (b.length : Nat)))) ∧ Below w.heap.size w w' := by
  have hob : ∀ c ∈ o ++ b, isD c = true := dig_append ho hb
  have hN := dv_lt (o ++ b) hob
  obtain ⟨B, hBe⟩ : ∃ B : Nat, B = 300 := ⟨_, rfl⟩
  have hcl : (o ++ b).length ≤ B := by rw [List.length_append, hBe]; exact hlo
  have hN3 : dv 0 (o ++ b) < 10 ^ B := Nat.lt_of_lt_of_le hN (Nat.pow_le_pow_right (by decide) hcl)
  have hcap := find_cap (N := dv 0 (o ++ b)) (B := B) (C := 10000) (b := b.length) hN3 (by omega) (by omega) (by decide) (eOf_cap m z)
  have cT := Lib.hid fun w => trimLeft_any (o ++ b) w
  rw [trim_ds _ hob] at cT
  have cP := Lib.hid fun w => power_any15 n o b m z w hz (by omega)
  have hPb : -10000 ≤ (if m = true then -((pw z : Nat) : Int) else ((pw z : Nat) : Int)) ∧ (if m = true then -((pw z : Nat) : Int) else ((pw z : Nat) : Int)) ≤ 10000 := by
    have : pw z ≤ 10000 := by unfold pw; omega
    generalize pw z = v at *
    cases m
    · simp only [Bool.false_eq_true, if_false]; omega
    · simp only [if_true]; omega
  unfold pFind
  rw [← hcap]
  clear hcap
  generalize (if m = true then -((pw z : Nat) : Int) else ((pw z : Nat) : Int)) = P at *
  have hlen : (ds (dv 0 (o ++ b))).length ≤ 700 := Nat.le_trans (ds_len_of hN3) (by omega)
  rw [hBe] at hcl
  clear hN3 hBe
  generalize dv 0 (o ++ b) = N at *
  obtain ⟨s1, s2, s3, s4⟩ := nr_spec N (q := P - (b.length : Nat)) hlen (by omega)
  have cN := Lib.hid fun w => nearest_any15 N (P - (b.length : Nat)) hlen (by omega) w
  rw [s1]
  generalize nr N (P - (b.length : Nat)) = KR at *
  obtain ⟨K, r⟩ := KR
  dsimp only at s2 s3 s4 cN ⊢
  have cX := Lib.hid fun w => parse_any (dec K) (by omega) w
  rw [parse_any_dec] at cX
  unfold mend
  by_cases hK : K < 340282366920938463463374607431768211456
  · rw [if_pos hK] at cX
    have cJ := Lib.hid fun w => join_any n K hK r (by omega) w
    by_cases j : Joins K r
    · rw [jV_yes j] at cJ
      rw [if_pos j]
      exact bits_core n m true true o b z _ _ _ P _ r _ _ _ _ _ w rfl (by omega) (by omega) rfl hPb (by rw [if_pos ⟨rfl, rfl⟩]; rfl) cT cP cN cX cJ
    · rw [jV_no j] at cJ
      rw [if_neg j]
      exact bits_core n m true false o b z _ _ _ P _ r _ _ _ _ _ w rfl (by omega) (by omega) rfl hPb (by rw [if_neg (by decide)]; rfl) cT cP cN cX cJ
  · rw [if_neg hK] at cX
    have j : ¬ Joins K r := fun j => hK (Nat.lt_trans j.1 (by decide))
    rw [if_neg j]
    have cJ := Lib.hid fun w => join_any n 0 (by decide) r (by omega) w
    by_cases j0 : Joins 0 r
    · rw [jV_yes j0] at cJ
      exact bits_core n m false true o b z _ _ _ P _ r _ _ _ _ _ w rfl (by omega) (by omega) rfl hPb (by rw [if_neg (by decide)]; rfl) cT cP cN cX cJ
    · rw [jV_no j0] at cJ
      exact bits_core n m false false o b z _ _ _ P _ r _ _ _ _ _ w rfl (by omega) (by omega) rfl hPb (by rw [if_neg (by decide)]; rfl) cT cP cN cX cJ
end Go.Proofs.YtkkoefiennccoaaGreatDoor
