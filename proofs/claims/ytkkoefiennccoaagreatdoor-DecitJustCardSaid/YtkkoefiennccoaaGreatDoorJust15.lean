/-
  The law DecitJust, walked: it returns true and writes nothing that was there; for every sign, coefficient and exponent.
-/
import Derived.Test.YtkkoefiennccoaaGreatDoorLaws15
import Derived.Test.YtkkoefiennccoaaGreatDoorStruct6
namespace Go.Proofs.YtkkoefiennccoaaGreatDoor
set_option maxRecDepth 100000
open Go.RowKit
open Go.Lib (decDigits itoa)

/-- Two halves in block g. -/
def WAt (w : World) (g : Nat) (a b : Int) : Prop := w.heap[g]? = some (.cells #[.int .u64 a, .int .u64 b] 31 (0, 0))
theorem WAt.lt {w g a b} (h : WAt w g a b) : g < w.heap.size := block_lt h
theorem WAt.keep {w w' : World} {g : Nat} {a b : Int} (h : WAt w g a b) (hb : Below w.heap.size w w') : WAt w' g a b := (hb.block g h.lt).trans h
theorem WAt.c0 {w g a b} (h : WAt w g a b) : w.cell? ⟨g, 0, none⟩ = some (.int .u64 a) := by rw [block_cell h]; rfl
theorem WAt.c1 {w g a b} (h : WAt w g a b) : w.cell? ⟨g, 1, none⟩ = some (.int .u64 b) := by rw [block_cell h]; rfl
theorem WAt.fr {w g a b} (h : WAt w g a b) (i : Nat) : w.frozen? ⟨g, i, none⟩ = false := by
  simp only [World.frozen?, show w.heap[g]? = _ from h]
  simp
/-- Both halves stored anew. -/
def set2 (w : World) (g : Nat) (a b : Int) : World := (w.setCell ⟨g, 0, none⟩ (.int .u64 a)).setCell ⟨g, 1, none⟩ (.int .u64 b)
theorem WAt.stores {w g a b} (h : WAt w g a b) (a' b' : Int) :
    WAt (set2 w g a' b') g a' b' ∧
    (w.cell? ⟨g, 0, none⟩ = some (.int .u64 a) ∧ w.frozen? ⟨g, 0, none⟩ = false) ∧
    ((w.setCell ⟨g, 0, none⟩ (.int .u64 a')).cell? ⟨g, 1, none⟩ = some (.int .u64 b) ∧ (w.setCell ⟨g, 0, none⟩ (.int .u64 a')).frozen? ⟨g, 1, none⟩ = false) := by
  have h1 : (w.setCell ⟨g, 0, none⟩ (.int .u64 a')).heap[g]? = some (.cells #[.int .u64 a', .int .u64 b] 31 (0, 0)) := block_set h 0 _
  refine ⟨block_set h1 1 _, ⟨h.c0, h.fr 0⟩, ?_, ?_⟩
  · rw [block_cell h1]; rfl
  · simp only [World.frozen?, h1]; simp
theorem WAt.other {w g g' a b} (h : WAt w g a b) (hne : g' ≠ g) (x y : Int) : WAt (set2 w g' x y) g a b := by
  unfold WAt set2
  rw [Below.heap_setCell _ _ _ _ (fun e => hne e.symm), Below.heap_setCell _ _ _ _ (fun e => hne e.symm)]
  exact h
/-- A number by its halves. -/
def Hv (n : Nat) (a b : Int) : Prop := a = ((n / 18446744073709551616 : Nat) : Int) ∧ b = ((n % 18446744073709551616 : Nat) : Int)
theorem Hv.wv {n : Nat} {a b : Int} (h : Hv n a b) : wv n = .agg #[.int .u64 a, .int .u64 b] := by rw [h.1, h.2]; rfl
theorem Hv.ex (n : Nat) : ∃ a b : Int, Hv n a b := ⟨_, _, rfl, rfl⟩
theorem Hv.inj {n : Nat} {a b a' b' : Int} (h : Hv n a b) (h' : Hv n a' b') : a = a' ∧ b = b' := ⟨h.1.trans h'.1.symm, h.2.trans h'.2.symm⟩
theorem below_set2 {B : Nat} {a w : World} (h : Below B a w) {g : Nat} (hg : B ≤ g) (x y : Int) : Below B a (set2 w g x y) :=
  (h.setCell (p := ⟨g, 0, none⟩) hg _).setCell (p := ⟨g, 1, none⟩) hg _

/-- The number after j steps by ten. -/
def tens (m j : Nat) : Nat := m * 10 ^ j % 340282366920938463463374607431768211456
theorem tens_lt (m j : Nat) : tens m j < 340282366920938463463374607431768211456 := Nat.mod_lt _ (by decide)
theorem tens_step (m j : Nat) : tens m j * 10 % 340282366920938463463374607431768211456 = tens m (j + 1) := by
  unfold tens
  rw [Nat.mod_mul_mod, Nat.pow_succ, Nat.mul_assoc]
theorem tens_zero {m : Nat} (h : m < 340282366920938463463374607431768211456) : tens m 0 = m := by
  unfold tens
  rw [Nat.pow_zero, Nat.mul_one, Nat.mod_eq_of_lt h]

/-- While the one is brought down to the exponent. -/
def JR (m : Nat) (e c1 c0 : Int) (g gs J : Nat) (w : World) (v : Value) (wr : World) : Prop :=
  ∃ (j : Nat) (a b : Int), j ≤ J ∧ v = .int .i64 (e - (j : Int)) ∧ Hv (tens m j) a b ∧ WAt wr gs a b ∧ WAt wr g c1 c0 ∧ Below g w wr
/-- While the other is. -/
def JR2 (c : Nat) (E r1 r0 : Int) (g gs K : Nat) (w : World) (v : Value) (wr : World) : Prop :=
  ∃ (i : Nat) (a b : Int), i ≤ K ∧ v = .int .i64 (E + (i : Int)) ∧ Hv (tens c i) a b ∧ WAt wr g a b ∧ WAt wr gs r1 r0 ∧ Below g w wr
theorem times_ten (m j : Nat) {a b a' b' : Int} (h : Hv (tens m j) a b) (h' : Hv (tens m (j + 1)) a' b') : ∃ k : Int, ∀ w, Calls Tryz.prog 15 #[.agg #[.int .u64 a, .int .u64 b], .int .u64 10] w fun e w' => e = .returned (.tuple #[.agg #[.int .u64 a', .int .u64 b'], .int .u64 k]) ∧ Below w.heap.size w w' := by
  refine ⟨((tens m j * 10 / 340282366920938463463374607431768211456 : Nat) : Int), fun w => ?_⟩
  have := refTimes_any (tens m j) 10 (tens_lt m j) (by decide) w
  rw [tens_step, h.wv, h'.wv] at this
  exact this

/-- What DecitJust sees, once the text is made. -/
theorem just_find (n : Bool) {c : Nat} (hc : c < 340282366920938463463374607431768211456) {x : Int} (h0 : -7000 ≤ x) (h1 : x ≤ 7000) :
    (Joins c x ∧ pAns (sg n ++ (dec c ++ 101 :: itoa x)) = (dH n c x, c % 18446744073709551616, 0)) ∨
    (¬ Joins c x ∧ pAns (sg n ++ (dec c ++ 101 :: itoa x)) = (0, 0, 10)) ∨
    (¬ Joins c x ∧ ∃ (m : Nat) (e : Int), Joins m e ∧ pAns (sg n ++ (dec c ++ 101 :: itoa x)) = (dH n m e, m % 18446744073709551616, 0) ∧ tens m (e - x).toNat = tens c (x - e).toNat) := by
  have h := just_ans (n := n) hc h0 h1
  rw [h]
  by_cases j : Joins c x
  · rw [find_self j]
    exact .inl ⟨j, rfl⟩
  · cases hf : find c x with
    | none => exact .inr (.inl ⟨j, rfl⟩)
    | some r =>
      obtain ⟨m, e⟩ := r
      obtain ⟨a, b, d⟩ := find_some hf
      refine .inr (.inr ⟨j, m, e, a, rfl, ?_⟩)
      unfold tens
      rcases Int.le_total e x with q | q
      · rw [show (e - x).toNat = 0 by omega, Nat.pow_zero, Nat.mul_one, b q]
      · rw [show (x - e).toNat = 0 by omega, Nat.pow_zero, Nat.mul_one, d q]

theorem keep_set {w W : World} {g : Nat} (h : Below g w W) (hg : g ≤ W.heap.size) {V : World} (hb : Below W.heap.size W V) : Below g w V := h.trans (hb.mono hg)

set_option maxHeartbeats 8000000 in
theorem just_walk (n : Bool) (c : Nat) (hc : c < 340282366920938463463374607431768211456) (x : Int) (hx : -9223372036854775808 ≤ x ∧ x ≤ 9223372036854775807) (w : World) (hL : L15 w) :
    Calls Tryz.prog 5 #[.bool n, wv c, .int .i64 x] w fun e w' => e = .returned (.bool true) ∧ Below w.heap.size w w' := by
  obtain ⟨c1, c0, hcv⟩ := Hv.ex c
  rw [hcv.wv]
  have HCV := Lib.hid hcv
  obtain ⟨V, hV⟩ : ∃ V, V = w.alloc (Obj.cells #[.int .u64 c1, .int .u64 c0] 31) := ⟨_, rfl⟩
  have hW : WAt V w.heap.size c1 c0 := by rw [hV]; exact heap_alloc_new _ _
  have hB : Below w.heap.size w V := by rw [hV]; exact (Below.refl _ _).alloc (Nat.le_refl _) _
  have hLV := hL.after hB
  obtain ⟨g, hg⟩ : ∃ g, g = w.heap.size := ⟨_, rfl⟩
  have HG8 : Hid (8 ≤ g) := show _ ≤ _ by rw [hg]; exact hL.size
  rw [← hg] at hW hB
  have HGE := Lib.hid hg
  have HW := Lib.hid hW; have HB := Lib.hid hB; have HL := Lib.hid hL; have HLV := Lib.hid hLV
  clear hW hB hL hLV hg
  by_cases hr : x < -7000 ∨ 7000 < x
  · have d1 : decide (x < -7000) = true ∨ (decide (x < -7000) = false ∧ decide (7000 < x) = true) := by
      by_cases q : x < -7000
      · exact .inl (decide_eq_true q)
      · exact .inr ⟨decide_eq_false q, decide_eq_true (by omega)⟩
    clear hr hx hcv
    rcases d1 with d1 | ⟨d1, d2⟩
    all_goals (
      go_enter Tryz.func5, Tryz.ntmps5
      go_wp2_with fail
      rw [← hV]
      refine (awake15 _ HLV.out).mono ?_
      rintro e w1 ⟨rfl, B1⟩
      have HB1 := Lib.hid (low_g HB.out (Nat.le_of_lt HW.out.lt) B1)
      clear B1
      go_wp2_with fail
      go_ret
      exact ⟨rfl, by rw [← HGE.out]; exact HB1.out⟩)
  · have d1 : decide (x < -7000) = false := decide_eq_false (by omega)
    have d2 : decide (7000 < x) = false := decide_eq_false (by omega)
    have hx0 : -7000 ≤ x := by omega
    have hx1 : x ≤ 7000 := by omega
    have hjf := just_find n hc hx0 hx1
    have cT := Lib.hid fun w => refText_any c hc w
    have cI := Lib.hid fun w => refInt_any x (by unfold lowest; omega) (by unfold highest; omega) w
    have hdl := (parse_dec hc).2
    have hil := itoa_six (a := x) (by omega) (by omega)
    have hsl := sg_length n
    have cP := Lib.hid fun w h => parse_any15 (sg n ++ (dec c ++ 101 :: itoa x)) (by rw [List.length_append, List.length_append, List.length_cons]; omega) w h
    have cJ := Lib.hid fun w => refJoin_any n c x w
    rw [hcv.wv] at cT cJ
    have k1 := pcat (dec c).toArray #[101] (dec c) [101] rfl rfl (by simp; omega)
    have k2 := pcat_is (a := (dec c ++ [101]).toArray) (b := (itoa x).toArray) (t := dec c ++ 101 :: itoa x) rfl rfl (by simp) (by simp; omega)
    have k3 := pcat #[45] (dec c ++ 101 :: itoa x).toArray [45] (dec c ++ 101 :: itoa x) rfl rfl (by simp; omega)
    have HS1 : Hid (n = true → sg n ++ (dec c ++ 101 :: itoa x) = [45] ++ (dec c ++ 101 :: itoa x)) := fun h => by rw [h]; rfl
    have HS0 : Hid (n = false → sg n ++ (dec c ++ 101 :: itoa x) = (dec c ++ 101 :: itoa x)) := fun h => by rw [h]; rfl
    generalize sg n ++ (dec c ++ 101 :: itoa x) = s at *
    generalize [45] ++ (dec c ++ 101 :: itoa x) = s1 at *
    generalize dec c ++ 101 :: itoa x = s0 at *
    generalize dec c ++ [101] = s2 at *
    generalize dec c = dc at *
    generalize itoa x = ix at *
    clear hdl hil hsl hr hx hcv
    have HJF := Lib.hid hjf
    have HX := Lib.hid (show -7000 ≤ x ∧ x ≤ 7000 from ⟨hx0, hx1⟩)
    have HC := Lib.hid hc
    clear hjf hx0 hx1 hc
    go_enter Tryz.func5, Tryz.ntmps5
    go_wp2_with fail
    rw [← hV, ← HGE.out]
    refine (awake15 _ HLV.out).mono ?_
    rintro e w1 ⟨rfl, B1⟩
    have HB1 := Lib.hid (low_g HB.out (Nat.le_of_lt HW.out.lt) B1)
    have HW1 := Lib.hid (HW.out.keep B1)
    clear B1 hV HB HW
    have i0 := HW1.out.c0
    have i1 := HW1.out.c1
    go_wp2_with fail
    clear i0 i1 d1 d2
    refine (cT.out _).mono ?_
    rintro e w2 ⟨rfl, B2⟩
    have HB2 := Lib.hid (low_g HB1.out (Nat.le_of_lt HW1.out.lt) B2)
    have HW2 := Lib.hid (HW1.out.keep B2)
    clear B2 HB1 HW1 cT
    go_wp2_with fail
    refine (cI.out _).mono ?_
    rintro e w3 ⟨rfl, B3⟩
    have HB3 := Lib.hid (low_g HB2.out (Nat.le_of_lt HW2.out.lt) B3)
    have HW3 := Lib.hid (HW2.out.keep B3)
    clear B3 HB2 HW2 cI k1
    go_upto_if 32 with fail
    clear k2
    go_cut [7] (fun v7 wx => v7 = .string ⟨s.toArray⟩ ∧ wx = w3)
    case first =>
      cases n
      · have h := Lib.hid (HS0.out rfl)
        clear HS0 HS1 HJF cP cJ
        go_wp2_with fail
        go_meet
        exact ⟨by rw [h.out], rfl⟩
      · have h := Lib.hid (HS1.out rfl)
        clear HS0 HS1 HJF cP cJ
        go_wp2_with fail
        go_meet
        exact ⟨by rw [h.out], rfl⟩
    case rest =>
      obtain ⟨rfl, rfl⟩ := hcut
      clear HS0 HS1 k3
      have HL3 := Lib.hid (HL.out.on HB3.out HG8.out)
      go_wp2_with fail
      refine (cP.out _ HL3.out).mono ?_
      rintro e w4 ⟨rfl, B4⟩
      have HB4 := Lib.hid (low_g HB3.out (Nat.le_of_lt HW3.out.lt) B4)
      have HW4 := Lib.hid (HW3.out.keep B4)
      clear B4 HB3 HW3 cP HL3
      have i0 := HW4.out.c0
      have i1 := HW4.out.c1
      unfold pV
      go_wp2_with fail
      clear i0 i1
      refine (cJ.out _).mono ?_
      rintro e w5 ⟨rfl, B5⟩
      have HB5 := Lib.hid (low_g HB4.out (Nat.le_of_lt HW4.out.lt) B5)
      have HW5 := Lib.hid (HW4.out.keep B5)
      clear B5 HB4 HW4 cJ
      rcases HJF.out with ⟨j, h⟩ | ⟨j, h⟩ | ⟨j, m, e, jm, h, ht⟩
      · rw [jV_yes j, h]
        clear h j HJF
        generalize dH n c x = H at *
        generalize c % 18446744073709551616 = L at *
        go_wp2_with fail
        go_ret
        exact ⟨by first | rfl | (simp; done), by rw [← HGE.out]; exact HB5.out⟩
      · rw [jV_no j, h]
        clear h j HJF
        have cS := Lib.hid fun w => split_any 0 0 (by decide) (by decide) w
        obtain ⟨q1, q0, hq⟩ := Hv.ex (dC 0 0)
        unfold dV at cS
        rw [hq.wv] at cS
        clear hq
        generalize ((dK 0 : Nat) : Int) = kk at *
        generalize dN 0 = nn at *
        generalize dX 0 = xx at *
        go_wp2_with fail
        refine (cS.out _).mono ?_
        rintro e w6 ⟨rfl, B6⟩
        have HB6 := Lib.hid (low_g HB5.out (Nat.le_of_lt HW5.out.lt) B6)
        have hg6 : g ≤ w6.heap.size := Nat.le_trans (Nat.le_of_lt HW5.out.lt) B6.size
        clear B6 cS
        go_wp2_with fail
        go_ret
        exact ⟨by first | rfl | (simp; done), by rw [← HGE.out]; exact HB6.out.alloc hg6 _⟩
      · rw [jV_no j, h]
        clear h j HJF
        obtain ⟨kk, nn, ck, xx⟩ := join_back (n := n) jm
        have hHl := dH_lt (n := n) jm
        have cS := Lib.hid fun w => split_any (dH n m e) (m % 18446744073709551616) hHl (Nat.mod_lt _ (by decide)) w
        have cPl := Lib.hid fun w => plain_any (dH n m e) (m % 18446744073709551616) hHl (Nat.mod_lt _ (by decide)) w
        rw [join_plain jm] at cPl
        obtain ⟨q1, q0, hq⟩ := Hv.ex m
        unfold dV at cS
        rw [kk, nn, ck, xx, hq.wv] at cS
        have hm : m < 340282366920938463463374607431768211456 := Nat.lt_trans jm.1 (by decide)
        have hm0 : Hv (tens m 0) q1 q0 := by rw [tens_zero hm]; exact hq
        have hc0 : Hv (tens c 0) c1 c0 := by rw [tens_zero HC.out]; exact HCV.out
        have hx := HX.out
        have he0 := jm.2.1
        have he1 := jm.2.2
        have HEX : Hid (-7000 ≤ x ∧ x ≤ 7000 ∧ -6176 ≤ e ∧ e ≤ 6111) := ⟨hx.1, hx.2, he0, he1⟩
        obtain ⟨J, hJ⟩ : ∃ J, J = (e - x).toNat := ⟨_, rfl⟩
        obtain ⟨K, hK⟩ : ∃ K, K = (x - e).toNat := ⟨_, rfl⟩
        rw [← hJ, ← hK] at ht
        have HT := Lib.hid ht; have HJ := Lib.hid hJ; have HK := Lib.hid hK; have HM0 := Lib.hid hm0; have HC0 := Lib.hid hc0
        clear ht hJ hK hm0 hc0 hx he0 he1 hm hq kk nn ck xx hHl jm HX HC HCV
        generalize dH n m e = H at *
        generalize m % 18446744073709551616 = L at *
        go_wp2_with fail
        refine (cS.out _).mono ?_
        rintro r w6 ⟨rfl, B6⟩
        have HB6 := Lib.hid (low_g HB5.out (Nat.le_of_lt HW5.out.lt) B6)
        have HW6 := Lib.hid (HW5.out.keep B6)
        clear B6 cS HB5 HW5
        go_upto_if 71 with fail
        obtain ⟨W, hW⟩ : ∃ W, W = w6.alloc (Obj.cells #[.int .u64 q1, .int .u64 q0] 31) := ⟨_, rfl⟩
        obtain ⟨gs, hgs⟩ : ∃ gs, gs = w6.heap.size := ⟨_, rfl⟩
        have hgg : g < gs := by rw [hgs]; exact HW6.out.lt
        have BW : Below w6.heap.size w6 W := by rw [hW]; exact (Below.refl _ _).alloc (Nat.le_refl _) _
        have HS7 : Hid (WAt W gs q1 q0) := show WAt _ _ _ _ by rw [hW, hgs]; exact heap_alloc_new _ _
        have HW7 := Lib.hid (HW6.out.keep BW)
        have HB7 := Lib.hid (low_g HB6.out (Nat.le_of_lt HW6.out.lt) BW)
        have HGG := Lib.hid hgg
        rw [← hW, ← hgs]
        clear BW hW hgs HB6 HW6 hgg
        have HSt : Hid (JR m e c1 c0 g gs J w (.int .i64 e) W) := ⟨0, q1, q0, Nat.zero_le _, by simp, HM0.out, HS7.out, HW7.out, HB7.out⟩
        clear HS7 HW7 HB7 HM0
        go_wp2_with fail
        go_loopw [17] (fun v wr => JR m e c1 c0 g gs J w v wr) (fun v _ => (intOf v - x).toNat)
        case atStart => exact HSt.out
        case round =>
          clear HSt
          obtain ⟨j, a, b, hj, rfl, hv, hS, hW, hB⟩ := hrel
          have hex := HEX.out
          have hJ := HJ.out
          have HV := Lib.hid hv; have HS := Lib.hid hS; have HW := Lib.hid hW; have HB := Lib.hid hB
          clear hv hS hW hB
          by_cases hlt : j < J
          · obtain ⟨I, hI⟩ : ∃ I : Int, I = e - (j : Int) := ⟨_, rfl⟩
            rw [← hI]
            have d1 : decide (x < I) = true := decide_eq_true (by omega)
            have w1 : wrap64 (I - 1) = I - 1 := by unfold wrap64; omega
            obtain ⟨a', b', hv'⟩ := Hv.ex (tens m (j + 1))
            obtain ⟨k, cM0⟩ := times_ten m j HV.out hv'
            have cM := Lib.hid cM0
            have HV' := Lib.hid hv'
            have HI : Hid (I - 1 = e - ((j + 1 : Nat) : Int)) := show _ = _ by omega
            have HJ1 : Hid (j + 1 ≤ J) := hlt
            have HMs : Hid ((I - 1 - x).toNat < (I - x).toNat) := show _ < _ by omega
            have i0 := HS.out.c0
            have i1 := HS.out.c1
            have hlt8 := HS.out.lt
            clear hv' cM0 hI hlt hj hex hJ
            go_wp2_with fail
            refine (cM.out _).mono ?_
            rintro r w8 ⟨rfl, B8⟩
            have HS8 := Lib.hid (HS.out.keep B8)
            have HW8 := Lib.hid (HW.out.keep B8)
            have HB8 := Lib.hid (low_g HB.out (Nat.le_of_lt HW.out.lt) B8)
            clear B8 i0 i1 hlt8 HS HW HB cM
            obtain ⟨hS9, ⟨p0, f0⟩, ⟨p1, f1⟩⟩ := HS8.out.stores a' b'
            have HS9 := Lib.hid hS9
            have HW9 := Lib.hid (HW8.out.other (g' := gs) (fun h => by have := HGG.out; omega) a' b')
            have HB9 := Lib.hid (below_set2 HB8.out (g := gs) (Nat.le_of_lt HGG.out) a' b')
            have hlt9 := HS8.out.lt
            clear hS9 HS8 HW8 HB8
            go_wp2_with fail
            go_roundw
            case rel => exact ⟨j + 1, a', b', HJ1.out, by rw [w1, HI.out], HV'.out, HS9.out, HW9.out, HB9.out⟩
            case measure => simp only [intOf]; rw [w1]; exact HMs.out
          · obtain rfl : j = J := by omega
            obtain ⟨E, hE⟩ : ∃ E : Int, E = e - (j : Int) := ⟨_, rfl⟩
            rw [← hE]
            have d1 : decide (x < E) = false := decide_eq_false (by omega)
            have HE : Hid (E = e - (j : Int)) := hE
            have HSt2 : Hid (JR2 c E a b g gs K w (.int .i64 E) wr) := ⟨0, c1, c0, Nat.zero_le _, by simp, HC0.out, HW.out, HS.out, HB.out⟩
            have HEK : Hid (E + (K : Int) = x ∧ -8000 ≤ E ∧ E ≤ 8000) := show _ ∧ _ by have := HK.out; omega
            clear hj hlt hex hJ hE HS HW HB HC0
            go_wp2_with fail
            clear d1
            go_loopw [17] (fun v wr => JR2 c E a b g gs K w v wr) (fun v _ => (x - intOf v).toNat)
            case atStart => exact HSt2.out
            case round =>
              clear HSt2
              obtain ⟨i, a2, b2, hi, rfl, hv, hW, hS, hB⟩ := hrel
              have hek := HEK.out
              have hex := HEX.out
              have HV2 := Lib.hid hv; have HS := Lib.hid hS; have HW := Lib.hid hW; have HB := Lib.hid hB
              clear hv hS hW hB
              by_cases hlt : i < K
              · obtain ⟨I, hI⟩ : ∃ I : Int, I = E + (i : Int) := ⟨_, rfl⟩
                rw [← hI]
                have d1 : decide (I < x) = true := decide_eq_true (by omega)
                have w1 : wrap64 (I + 1) = I + 1 := by unfold wrap64; omega
                obtain ⟨a', b', hv'⟩ := Hv.ex (tens c (i + 1))
                obtain ⟨k, cM0⟩ := times_ten c i HV2.out hv'
                have cM := Lib.hid cM0
                have HV' := Lib.hid hv'
                have HI : Hid (I + 1 = E + ((i + 1 : Nat) : Int)) := show _ = _ by omega
                have HJ1 : Hid (i + 1 ≤ K) := hlt
                have HMs : Hid ((x - (I + 1)).toNat < (x - I).toNat) := show _ < _ by omega
                have i0 := HW.out.c0
                have i1 := HW.out.c1
                have hlt8 := HW.out.lt
                clear hv' cM0 hI hlt hi hek hex
                go_wp2_with fail
                refine (cM.out _).mono ?_
                rintro r w8 ⟨rfl, B8⟩
                have HS8 := Lib.hid (HS.out.keep B8)
                have HW8 := Lib.hid (HW.out.keep B8)
                have HB8 := Lib.hid (low_g HB.out (Nat.le_of_lt HW.out.lt) B8)
                clear B8 i0 i1 hlt8 HS HW HB cM
                obtain ⟨hW9, ⟨p0, f0⟩, ⟨p1, f1⟩⟩ := HW8.out.stores a' b'
                have HW9 := Lib.hid hW9
                have HS9 := Lib.hid (HS8.out.other (g' := g) (fun h => by have := HGG.out; omega) a' b')
                have HB9 := Lib.hid (below_set2 HB8.out (g := g) (Nat.le_refl _) a' b')
                have hlt9 := HW8.out.lt
                clear hW9 HS8 HW8 HB8
                go_wp2_with fail
                go_roundw
                case rel => exact ⟨i + 1, a', b', HJ1.out, by rw [w1, HI.out], HV'.out, HW9.out, HS9.out, HB9.out⟩
                case measure => simp only [intOf]; rw [w1]; exact HMs.out
              · obtain rfl : i = K := by omega
                obtain ⟨I, hI⟩ : ∃ I : Int, I = E + (i : Int) := ⟨_, rfl⟩
                rw [← hI]
                have d1 : decide (I < x) = false := decide_eq_false (by omega)
                have hv1 := HV.out
                have hv2 := HV2.out
                rw [← HT.out] at hv2
                obtain ⟨rfl, rfl⟩ := Hv.inj hv1 hv2
                clear hv1 hv2 hlt hi hek hI hex
                go_wp2_with fail
                refine (cPl.out _).mono ?_
                rintro r w9 ⟨rfl, B9⟩
                have hS9 := HS.out.keep B9
                have hW9 := HW.out.keep B9
                have HB9 := Lib.hid (low_g HB.out (Nat.le_of_lt HW.out.lt) B9)
                have i0 := hS9.c0
                have i1 := hS9.c1
                have i2 := hW9.c0
                have i3 := hW9.c1
                clear B9 hS9 hW9 HS HW HB cPl
                go_wp2_with fail
                go_ret
                exact ⟨by first | rfl | (simp; done), by rw [← HGE.out]; exact HB9.out⟩

theorem just15 (n : Bool) (a : Nat) (ha : a < 340282366920938463463374607431768211456) (x : Int) (hx : -9223372036854775808 ≤ x ∧ x ≤ 9223372036854775807) (w : World) (hL : L15 w) :
    Calls Tryz.prog 5 #[.bool n, wv a, .int .i64 x] w fun e w' => e = .returned (.bool true) ∧ Below w.heap.size w w' := just_walk n a ha x hx w hL
end Go.Proofs.YtkkoefiennccoaaGreatDoor
