/-
  What decit's split, signed, laid and Text do; Laid: what the package-level variables hold that the calls lean on.
-/
import Derived.Test.YtkkoefiennccoaaDoorDeciC
import Derived.Test.YtkkoefiennccoaaDoorShelf15
import Derived.Test.YtkkoefiennccoaaDoorNLook
import Derived.Test.YtkkoefiennccoaaDoorDecitRead
import Derived.Test.YtkkoefiennccoaaDoorRefI15
import Derived.Laws.Concat
namespace Go.Proofs.YtkkoefiennccoaaDoor
set_option maxRecDepth 100000
open Go.RowKit
open Go.Lib (decDigits itoa)

/-- What decit's calls lean on: the powers of ten, some number of the library's. -/
structure L15 (w : World) : Prop where
  pows : Pows w
  most : ∃ m, w.cell? ⟨2, 0, none⟩ = some (.int .i64 m)
  size : 8 ≤ w.heap.size
theorem gPows15 : Tryd.prog.globalNamed "internal/strconv.uint64pow10" = some 5 := by kernel_rfl
theorem L15.on {B : Nat} {w w' : World} (h : L15 w) (hb : Below B w w') (hB : 8 ≤ B) : L15 w' where
  pows := by
    have h1 := h.pows
    unfold Pows Lib.TabIs World.var? at *
    rw [gPows15] at *
    simp only [Option.bind_some] at *
    rw [hb.block _ (by omega)]
    exact h1
  most := by
    obtain ⟨m, hm⟩ := h.most
    exact ⟨m, (hb.cell (p := ⟨2, 0, none⟩) (Nat.lt_of_lt_of_le (show 2 < 8 by decide) hB)).trans hm⟩
  size := Nat.le_trans h.size hb.size
theorem L15.after {w w' : World} (h : L15 w) (hb : Below w.heap.size w w') : L15 w' := h.on hb h.size

theorem pcat (a b : Array UInt8) (u v : List UInt8) (ha : a = u.toArray) (hb : b = v.toArray) (h : u.length + v.length ≤ 1000000000) (w : World) :
    (Op.stringOp .add ⟨a⟩ ⟨b⟩).run Tryd.prog w = .ok (.string ⟨(u ++ v).toArray⟩) w := by
  subst ha
  subst hb
  rw [run_string_add_sum w ⟨u.toArray⟩ ⟨v.toArray⟩ (by simp [ByteArray.size]; omega), cat_str]
theorem pcat_is {a b : Array UInt8} {u v t : List UInt8} (ha : a = u.toArray) (hb : b = v.toArray) (ht : u ++ v = t) (h : u.length + v.length ≤ 1000000000) (w : World) :
    (Op.stringOp .add ⟨a⟩ ⟨b⟩).run Tryd.prog w = .ok (.string ⟨t.toArray⟩) w := by
  rw [← ht]; exact pcat a b u v ha hb h w
theorem pupto (s : List UInt8) (b : Nat) (i : Int) (hi : i = (b : Int)) (hb : b ≤ s.length) (w : World) :
    (Instr.slice 9 (.string ⟨s.toArray⟩) none (some (.int .i64 i)) none).run Tryd.prog w = .ok (.string ⟨(s.take b).toArray⟩) w := by
  subst hi
  rw [run_slice_string_h w _ _ Tryd.underlying9 .i64 (b : Int) (by omega) (by simp [ByteArray.size]; omega), Lib.extract_eq]
  simp

/-- A point behind n digits, if there are more. -/
def dotL (d : List UInt8) (n : Nat) : List UInt8 := if d.length = n then d else d.take n ++ 46 :: d.drop n
set_option maxHeartbeats 1000000 in
theorem split_any15 (d : List UInt8) (n : Nat) (hn : n ≤ d.length) (hd : d.length ≤ 1000000) (w : World) :
    Calls Tryd.prog 29 #[.string ⟨d.toArray⟩, .int .i64 (n : Int)] w fun e w' => e = .returned (.string ⟨(dotL d n).toArray⟩) ∧ Below w.heap.size w w' := by
  by_cases h : d.length = n
  · have HE : Hid (dotL d n = d) := if_pos h
    generalize dotL d n = T at *
    have e1 : ((d.length : Int) == (n : Int)) = true := by rw [h]; exact beq_self_eq_true _
    clear h hn hd
    go_enter Tryd.func29, Tryd.ntmps29
    go_wp2_with fail
    go_ret
    exact ⟨by rw [HE.out]; rfl, Below.refl _ _⟩
  · have HE : Hid (dotL d n = (d.take n ++ [46]) ++ d.drop n) := show _ = _ by unfold dotL; rw [if_neg h]; simp
    generalize dotL d n = T at *
    have e1 : ((d.length : Int) == (n : Int)) = false := beq_eq_false_iff_ne.2 (by omega)
    have s1 := pupto d n n rfl hn
    have s2 := slice_from d n n rfl hn
    have l1 : (d.take n).length ≤ 1000000 := by rw [List.length_take]; omega
    have l2 : (d.drop n).length ≤ 1000000 := by rw [List.length_drop]; omega
    generalize d.take n = u at *
    generalize d.drop n = v at *
    have k1 := pcat u.toArray #[46] u [46] rfl rfl (by simp; omega)
    have k2 := pcat_is (a := (u ++ [46]).toArray) (b := v.toArray) (t := T) rfl rfl HE.out.symm (by simp; omega)
    generalize u ++ [46] = y at *
    have c1 : decide (0 ≤ (n : Int)) = true := decide_eq_true (by omega)
    have c3 : (n : Int) ≤ (d.length : Int) := by omega
    clear h hn hd l1 l2 HE
    go_enter Tryd.func29, Tryd.ntmps29
    go_wp2_with fail
    go_quiet (fail)
    go_wp2_with fail
    go_ret
    exact ⟨rfl, by first | exact Below.refl _ _ | exact low_drewN (Below.refl _ _) _⟩

def signL (a : Int) : List UInt8 := if a < 0 then itoa a else 43 :: itoa a
theorem itoa_six {a : Int} (h0 : -10000 ≤ a) (h1 : a ≤ 10000) : (itoa a).length ≤ 6 := by
  by_cases h : a < 0
  · have := itoa_len (v := -a) (by omega) (by omega)
    rw [itoa_nat (by omega)] at this
    unfold itoa
    rw [if_pos h, List.length_cons, show a.natAbs = (-a).toNat by omega]
    omega
  · have := itoa_len (v := a) (by omega) (by omega)
    omega
theorem signL_len {a : Int} (h0 : -10000 ≤ a) (h1 : a ≤ 10000) : (signL a).length ≤ 7 := by
  have := itoa_six h0 h1
  unfold signL
  split
  · omega
  · rw [List.length_cons]; omega
set_option maxHeartbeats 1000000 in
theorem signed_any15 (a : Int) (h0 : -10000 ≤ a) (h1 : a ≤ 10000) (w : World) (hL : L15 w) :
    Calls Tryd.prog 30 #[.int .i64 a] w fun e w' => e = .returned (.string ⟨(signL a).toArray⟩) ∧ Below w.heap.size w w' := by
  have cI := Lib.hid (itoa15_any a (by omega) (by omega) w hL.pows)
  have hl := itoa_six h0 h1
  by_cases h : a < 0
  · have HE : Hid (signL a = itoa a) := if_pos h
    have e1 : decide (a < 0) = true := decide_eq_true h
    generalize signL a = T at *
    generalize itoa a = t at *
    clear hl h hL
    go_enter Tryd.func30, Tryd.ntmps30
    go_wp2_with fail
    refine cI.out.mono ?_
    rintro e w1 ⟨rfl, B1⟩
    go_wp2_with fail
    go_ret
    exact ⟨by rw [HE.out]; rfl, B1⟩
  · have HE : Hid (signL a = [43] ++ itoa a) := if_neg h
    have e1 : decide (a < 0) = false := decide_eq_false h
    generalize signL a = T at *
    generalize itoa a = t at *
    have k1 := pcat_is (a := #[43]) (b := t.toArray) (t := T) (u := [43]) rfl rfl HE.out.symm (by simp; omega)
    clear hl h hL HE
    go_enter Tryd.func30, Tryd.ntmps30
    go_wp2_with fail
    refine cI.out.mono ?_
    rintro e w1 ⟨rfl, B1⟩
    go_wp2_with fail
    go_ret
    exact ⟨rfl, B1⟩

/-- The program's text of digits and an exponent is the document's. -/
theorem body_far {d : List UInt8} {x : Int} (h1 : 1 ≤ d.length) (h : 0 < x ∨ x + (d.length : Int) - 1 < -6) : bodyL d x = (dotL d 1 ++ [69]) ++ signL (x + (d.length : Int) - 1) := by
  unfold bodyL dotL signL
  rw [if_neg (by omega)]
  obtain ⟨a, ha⟩ : ∃ a, a = x + (d.length : Int) - 1 := ⟨_, rfl⟩
  rw [← ha]
  have e1 : d.take 1 ++ (if 1 < d.length then 46 :: d.drop 1 else []) = if d.length = 1 then d else d.take 1 ++ 46 :: d.drop 1 := by
    by_cases q : d.length = 1
    · rw [if_pos q, if_neg (by omega), List.append_nil, List.take_of_length_le (by omega)]
    · rw [if_neg q, if_pos (by omega)]
  rw [e1]
  generalize (if d.length = 1 then d else d.take 1 ++ 46 :: d.drop 1) = y
  rw [List.append_assoc]
  congr 1
  show _ = 69 :: _
  congr 1
  by_cases q : a < 0
  · rw [if_pos q, if_pos q, itoa_nat (by omega)]
    unfold itoa
    rw [if_pos q, show a.natAbs = (-a).toNat by omega]
    rfl
  · rw [if_neg q, if_neg q]; rfl
theorem body_near {d e : List UInt8} {x : Int} {j : Nat} (h1 : 1 ≤ d.length) (h0 : x ≤ 0) (h : -6 ≤ x + (d.length : Int) - 1) (he : e = List.replicate (max (-(x + (d.length : Int) - 1)) 0).toNat 48 ++ d) (hj : (e.length : Int) + x = j) :
    bodyL d x = dotL e j := by
  have hp : (max (-(x + (d.length : Int) - 1)) 0).toNat = (1 - x - (d.length : Int)).toNat := by omega
  rw [hp] at he
  unfold dotL
  by_cases q : x = 0
  · rw [if_pos (by omega)]
    unfold bodyL
    rw [if_pos ⟨h0, h⟩, if_pos q]
    rw [he, show (1 - x - (d.length : Int)).toNat = 0 by omega]; rfl
  · rw [if_neg (by omega)]
    unfold bodyL
    rw [if_pos ⟨h0, h⟩, if_neg q, ← he, hj]
    rfl

theorem dotL_len (d : List UInt8) (n : Nat) : (dotL d n).length ≤ d.length + 1 := by
  unfold dotL
  split
  · omega
  · rw [List.length_append, List.length_take, List.length_cons, List.length_drop]; omega
set_option maxHeartbeats 2000000 in
theorem laid_any15 (d : List UInt8) (x : Int) (hd1 : 1 ≤ d.length) (hd2 : d.length ≤ 60) (hx0 : -7000 ≤ x) (hx1 : x ≤ 7000) (w : World) (hL : L15 w) :
    Calls Tryd.prog 15 #[.string ⟨d.toArray⟩, .int .i64 x] w fun e w' => e = .returned (.string ⟨(bodyL d x).toArray⟩) ∧ Below w.heap.size w w' := by
  obtain ⟨a, ha⟩ : ∃ a, a = x + (d.length : Int) - 1 := ⟨_, rfl⟩
  obtain ⟨x1, hx⟩ : ∃ x1, x1 = x + (d.length : Int) := ⟨_, rfl⟩
  have e1 : wrap64 (x + (d.length : Int)) = x1 := by unfold wrap64; omega
  have e2 : wrap64 (x1 - 1) = a := by unfold wrap64; omega
  have a0 : -10000 ≤ a := by omega
  have a1 : a ≤ 10000 := by omega
  by_cases h : 0 < x ∨ a < -6
  · have HE : Hid (bodyL d x = (dotL d 1 ++ [69]) ++ signL a) := show _ = _ by rw [ha]; exact body_far hd1 (by omega)
    have h2 : decide (0 < x) = true ∨ (decide (0 < x) = false ∧ decide (a < -6) = true) := by
      by_cases q : 0 < x
      · exact .inl (decide_eq_true q)
      · exact .inr ⟨decide_eq_false q, decide_eq_true (by omega)⟩
    generalize bodyL d x = T at *
    have l1 := dotL_len d 1
    have l2 := signL_len a0 a1
    have cS := Lib.hid fun w => split_any15 d 1 hd1 (by omega) w
    have cG := Lib.hid fun w h => signed_any15 a a0 a1 w h
    generalize dotL d 1 = y at *
    generalize signL a = z at *
    have k1 := pcat y.toArray #[69] y [69] rfl rfl (by simp; omega)
    have k2 := pcat_is (a := (y ++ [69]).toArray) (b := z.toArray) (t := T) rfl rfl HE.out.symm (by simp; omega)
    generalize y ++ [69] = y2 at *
    have HL := Lib.hid hL
    clear h l1 l2 HE hL a0 a1 hx ha hd1 hd2 hx0 hx1
    rcases h2 with b1 | ⟨b1, b2⟩
    all_goals (
      go_enter Tryd.func15, Tryd.ntmps15
      go_wp2_with fail
      refine (cS.out _).mono ?_
      rintro e w1 ⟨rfl, B1⟩
      have HB := Lib.hid B1
      clear B1
      go_wp2_with fail
      refine (cG.out _ (HL.out.after HB.out)).mono ?_
      rintro e w2 ⟨rfl, B2⟩
      have HB2 := Lib.hid (low_p HB.out B2)
      clear B2
      go_wp2_with fail
      go_ret
      exact ⟨rfl, HB2.out⟩)
  · obtain ⟨p, hp⟩ : ∃ p : Nat, (p : Int) = max (-a) 0 := ⟨(max (-a) 0).toNat, by omega⟩
    obtain ⟨e, he⟩ : ∃ e, e = List.replicate p (48 : UInt8) ++ d := ⟨_, rfl⟩
    have hel : (e.length : Int) = p + d.length := by rw [he, List.length_append, List.length_replicate]; omega
    obtain ⟨j, hj⟩ : ∃ j : Nat, (e.length : Int) + x = j := ⟨((e.length : Int) + x).toNat, by omega⟩
    have HE : Hid (bodyL d x = dotL e j) := show _ = _ from body_near hd1 (by omega) (by omega) (by rw [he, show (max (-(x + (d.length : Int) - 1)) 0).toNat = p by omega]) hj
    have cS := Lib.hid fun w => split_any15 e j (by omega) (by omega) w
    have cR := Lib.hid fun w => repeat_any p (by omega) w
    generalize bodyL d x = T at *
    rw [← HE.out] at cS
    have b1 : decide (0 < x) = false := decide_eq_false (by omega)
    have b2 : decide (a < -6) = false := decide_eq_false (by omega)
    have k1 := pcat_is (a := (List.replicate p (48 : UInt8)).toArray) (b := d.toArray) (t := e) rfl rfl he.symm (by simp; omega)
    generalize List.replicate p (48 : UInt8) = z at *
    have e3 : wrap64 (-a) = -a := by unfold wrap64; omega
    have e4 : max (-a) 0 = (p : Int) := hp.symm
    have e5 : wrap64 ((e.length : Int) + x) = (j : Int) := by unfold wrap64; omega
    have HL := Lib.hid hL
    clear h HE hL a0 a1 hx ha hd1 hd2 hx0 hx1 hel he hp hj
    go_enter Tryd.func15, Tryd.ntmps15
    go_wp2_with fail
    refine (cR.out _).mono ?_
    rintro e w1 ⟨rfl, B1⟩
    have HB := Lib.hid B1
    clear B1
    go_wp2_with fail
    refine (cS.out _).mono ?_
    rintro e w2 ⟨rfl, B2⟩
    have HB2 := Lib.hid (low_p HB.out B2)
    clear B2
    go_wp2_with fail
    go_ret
    exact ⟨rfl, HB2.out⟩

set_option maxHeartbeats 400000 in
theorem text_nan (X L : Int) (n : Bool) (w : World)
    (cS : Hid (∀ w, Calls Tryd.prog 14 #[.int .u64 X, .int .u64 L] w fun e w' => e = .returned (.tuple #[.int .i64 3, .bool n, .agg #[.int .u64 0, .int .u64 0], .int .i64 0]) ∧ Below w.heap.size w w')) :
    Calls Tryd.prog 7 #[.int .u64 X, .int .u64 L] w fun e w' => e = .returned (.string ⟨tN.toArray⟩) ∧ Below w.heap.size w w' := by
  go_enter Tryd.func7, Tryd.ntmps7
  go_wp2_with fail
  refine (cS.out _).mono ?_
  rintro e w1 ⟨rfl, B1⟩
  go_wp2_with fail
  go_ret
  exact ⟨rfl, B1.alloc B1.size _⟩

set_option maxHeartbeats 400000 in
theorem text_inf (X L : Int) (n : Bool) (w : World)
    (cS : Hid (∀ w, Calls Tryd.prog 14 #[.int .u64 X, .int .u64 L] w fun e w' => e = .returned (.tuple #[.int .i64 2, .bool n, .agg #[.int .u64 0, .int .u64 0], .int .i64 0]) ∧ Below w.heap.size w w')) :
    Calls Tryd.prog 7 #[.int .u64 X, .int .u64 L] w fun e w' => e = .returned (.string ⟨(sg n ++ tI).toArray⟩) ∧ Below w.heap.size w w' := by
  have k1 := pcat #[45] #[73, 110, 102, 105, 110, 105, 116, 121] [45] tI rfl rfl (by decide)
  cases n
  all_goals (
    go_enter Tryd.func7, Tryd.ntmps7
    go_wp2_with fail
    refine (cS.out _).mono ?_
    rintro e w1 ⟨rfl, B1⟩
    go_wp2_with fail
    go_ret
    exact ⟨rfl, B1.alloc B1.size _⟩)

set_option maxHeartbeats 2000000 in
theorem text_fin (X L c1 c0 x : Int) (n : Bool) (d : List UInt8) (w : World)
    (cS : Hid (∀ w, Calls Tryd.prog 14 #[.int .u64 X, .int .u64 L] w fun e w' => e = .returned (.tuple #[.int .i64 1, .bool n, .agg #[.int .u64 c1, .int .u64 c0], .int .i64 x]) ∧ Below w.heap.size w w'))
    (cX : Hid (∀ w, Calls Tryd.prog 16 #[.agg #[.int .u64 c1, .int .u64 c0]] w fun e w' => e = .returned (.string ⟨d.toArray⟩) ∧ Below w.heap.size w w'))
    (hd0 : 1 ≤ d.length) (hd1 : d.length ≤ 34) (hx0 : -7000 ≤ x) (hx1 : x ≤ 7000) (hL : L15 w) :
    Calls Tryd.prog 7 #[.int .u64 X, .int .u64 L] w fun e w' => e = .returned (.string ⟨(sg n ++ bodyL d x).toArray⟩) ∧ Below w.heap.size w w' := by
  have cL := Lib.hid fun w h => laid_any15 d x hd0 (by omega) hx0 hx1 w h
  have hb := body_len hd0 hd1 hx0 hx1
  obtain ⟨T, hT⟩ : ∃ T, T = sg n ++ bodyL d x := ⟨_, rfl⟩
  rw [← hT]
  have HT := Lib.hid hT
  clear hT
  generalize bodyL d x = b at *
  have k1 := pcat #[45] b.toArray [45] b rfl rfl (by simp; omega)
  have HL := Lib.hid hL
  clear hb hd0 hd1 hx0 hx1 hL
  go_enter Tryd.func7, Tryd.ntmps7
  go_wp2_with fail
  refine (cS.out _).mono ?_
  rintro e w1 ⟨rfl, B1⟩
  have HB := Lib.hid B1
  clear B1
  go_upto_if 20 with fail
  obtain ⟨V, hV⟩ : ∃ V, V = w1.alloc (Obj.cells #[.int .u64 c1, .int .u64 c0] 29) := ⟨_, rfl⟩
  have HB2 : Hid (Below w.heap.size w V) := by rw [hV]; exact HB.out.alloc HB.out.size _
  have i0 : V.cell? ⟨w1.heap.size, 0, none⟩ = some (.int .u64 c1) := by rw [hV]; simp [go_sem]
  have i1 : V.cell? ⟨w1.heap.size, 1, none⟩ = some (.int .u64 c0) := by rw [hV]; simp [go_sem]
  rw [← hV]
  clear hV HB cS
  generalize w1.heap.size = g at *
  go_wp2_with fail
  refine (cX.out _).mono ?_
  rintro e w2 ⟨rfl, B2⟩
  have HB3 := Lib.hid (low_p HB2.out B2)
  clear B2 cX i0 i1 HB2
  go_wp2_with fail
  refine (cL.out _ (HL.out.after HB3.out)).mono ?_
  rintro e w3 ⟨rfl, B3⟩
  have HB4 := Lib.hid (low_p HB3.out B3)
  clear B3 cL HB3
  cases n
  all_goals (
    go_wp2_with fail
    go_ret
    exact ⟨by rw [HT.out]; rfl, HB4.out⟩)

theorem text_any15 (h l : Nat) (hh : h < 18446744073709551616) (hl : l < 18446744073709551616) (w : World) (hL : L15 w) :
    Calls Tryd.prog 7 #[.int .u64 (h : Int), .int .u64 (l : Int)] w fun e w' => e = .returned (.string ⟨(textD h l).toArray⟩) ∧ Below w.heap.size w w' := by
  have c := Lib.hid fun w => split_any h l hh hl w
  rcases kinds h with k | ⟨k | k, hc, hx⟩
  · rw [fin_value k] at c
    have e : textD h l = sg (dN h) ++ bodyL (dec (dC h l)) (dX h) := by
      unfold textD dText
      rw [k]; rfl
    rw [e]
    have hx := dX_in h
    have hlt := dC_lt h l
    exact text_fin _ _ _ _ _ _ _ w c (Lib.hid fun w => text_any (dC h l) (Nat.lt_trans hlt (by decide)) w) (List.length_pos_iff.2 (digs_iff.1 (dec_isDg _)).2)
      (dec_le (k := 34) (by rw [show (10 : Nat) ^ 34 = 10000000000000000000000000000000000 by decide]; exact hlt) (by omega)) (by omega) (by omega) hL
  · rw [odd_value k (hc l) hx] at c
    have e : textD h l = sg (dN h) ++ tI := by
      unfold textD dText
      rw [k]; rfl
    rw [e]
    exact text_inf _ _ _ w c
  · rw [odd_value k (hc l) hx] at c
    have e : textD h l = tN := by
      unfold textD dText
      rw [k]; rfl
    rw [e]
    exact text_nan _ _ _ w c
end Go.Proofs.YtkkoefiennccoaaDoor
