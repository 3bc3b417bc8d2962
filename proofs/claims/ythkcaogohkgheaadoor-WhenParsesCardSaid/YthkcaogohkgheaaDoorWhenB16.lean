/-
  What when's padded, clock and the text of a date do; L16: what the package-level variables hold that the calls lean on.
-/
import Derived.Test.YthkcaogohkgheaaDoorWhenA16
import Derived.Test.YthkcaogohkgheaaDoorShelf16
import Derived.Lib.QuietBelow
import Derived.BigQuiet
namespace Go.Proofs.YthkcaogohkgheaaDoor
set_option maxRecDepth 100000
open Go.RowKit
open Go.Lib (decDigits itoa)

/-- What when's calls lean on: the powers of ten. -/
structure L16 (w : World) : Prop where
  pows : Pows w
  size : 0 < w.heap.size
theorem gPows16 : Tryd.prog.globalNamed "internal/strconv.uint64pow10" = some 0 := by kernel_rfl
theorem L16.on {B : Nat} {w w' : World} (h : L16 w) (hb : Below B w w') (hB : 0 < B) : L16 w' where
  pows := by
    have h1 := h.pows
    unfold Pows Lib.TabIs World.var? at *
    rw [gPows16] at *
    simp only [Option.bind_some] at *
    rw [hb.block _ hB]
    exact h1
  size := Nat.lt_of_lt_of_le h.size hb.size
theorem L16.after {w w' : World} (h : L16 w) (hb : Below w.heap.size w w') : L16 w' := h.on hb h.size

theorem itoa_nat {v : Int} (h : 0 ≤ v) : itoa v = decDigits v.toNat := if_neg (by omega)
theorem padL_eq {v n : Nat} {d : List UInt8} {m : Nat} (hd : d = decDigits v) (hm : m = n - d.length) : List.replicate m 48 ++ d = padL v n := by
  subst hd hm; rfl
set_option maxHeartbeats 1000000 in
theorem padded_any (v n : Nat) (hv : v ≤ 1000000) (hn : n ≤ 100) (w : World) (hL : L16 w) :
    Calls Tryd.prog 15 #[.int .i64 (v : Int), .int .i64 (n : Int)] w fun e w' => e = .returned (.string ⟨(padL v n).toArray⟩) ∧ Below w.heap.size w w' := by
  have cF := Lib.hid (formatInt_any (v : Int) (by unfold lowest; omega) (by unfold highest; omega) w hL.pows)
  rw [show itoa (v : Int) = decDigits v from itoa_nat (by omega)] at cF
  have hdl : (decDigits v).length ≤ 20 := dec_length (by omega)
  obtain ⟨d, hd⟩ : ∃ d, d = decDigits v := ⟨_, rfl⟩
  rw [← hd] at cF hdl
  obtain ⟨m, hm⟩ : ∃ m, m = n - d.length := ⟨_, rfl⟩
  have HT := Lib.hid (padL_eq hd hm)
  generalize padL v n = T at *
  have cR := Lib.hid (repeat_any m (by omega))
  have f1 : (n : Int) - (d.length : Int) = (n : Int) - (d.length : Int) := rfl
  obtain ⟨x, hx⟩ : ∃ x : Int, x = (n : Int) - (d.length : Int) := ⟨_, rfl⟩
  have w1 : wrap64 ((n : Int) - (d.length : Int)) = x := by unfold wrap64; omega
  have w2 : max x 0 = (m : Int) := by omega
  have k1 := wcat_is (a := (List.replicate m (48 : UInt8)).toArray) (b := d.toArray) (t := T) rfl rfl HT.out (by rw [List.length_replicate]; omega)
  clear hd hm hv hn hx f1 hdl
  generalize List.replicate m (48 : UInt8) = R at *
  go_enter Tryd.func15, Tryd.ntmps15
  go_wp2_with fail
  refine (cF.out).mono ?_
  rintro e w1 ⟨rfl, B1⟩
  have HB := Lib.hid B1
  clear B1 cF
  go_wp2_with fail
  refine (cR.out _).mono ?_
  rintro e w2 ⟨rfl, B2⟩
  have HB2 := Lib.hid (low16 HB.out B2)
  clear B2 cR HB
  go_wp2_with fail
  go_ret
  exact ⟨rfl, HB2.out⟩

/-- The parts of a time of day, by the milliseconds. -/
theorem t16 (a b c : Nat) (h : a / b = c) : (a : Int).tdiv (b : Int) = (c : Int) := by subst h; rfl
theorem m16 (a b c : Nat) (h : a % b = c) : (a : Int).tmod (b : Int) = (c : Int) := by subst h; rfl
theorem q16 (a b c : Nat) (h : a / b = c) : (a : Int) / (b : Int) = (c : Int) := by subst h; rfl
theorem r16 (a b c : Nat) (h : a % b = c) : (a : Int) % (b : Int) = (c : Int) := by subst h; rfl
def clockL (h i c : Nat) : List UInt8 := (((d2 h ++ [58]) ++ d2 i) ++ [58]) ++ d2 c
theorem d2_len (v : Nat) : (d2 v).length = 2 := rfl
set_option maxHeartbeats 2000000 in
theorem clock_any (L : Nat) (hL : L < 86400000) (w : World) (hW : L16 w) :
    Calls Tryd.prog 14 #[.int .i64 (L : Int)] w fun e w' => e = .returned (.string ⟨(clockL (L / 3600000) (L / 60000 % 60) (L / 1000 % 60)).toArray⟩) ∧ Below w.heap.size w w' := by
  obtain ⟨h, hh⟩ : ∃ h, h = L / 3600000 := ⟨_, rfl⟩
  obtain ⟨a, ha⟩ : ∃ a, a = L % 3600000 := ⟨_, rfl⟩
  obtain ⟨i, hi⟩ : ∃ i, i = L / 60000 % 60 := ⟨_, rfl⟩
  obtain ⟨b, hb⟩ : ∃ b, b = L % 60000 := ⟨_, rfl⟩
  obtain ⟨c, hc⟩ : ∃ c, c = L / 1000 % 60 := ⟨_, rfl⟩
  rw [← hh, ← hi, ← hc]
  have e1 : a / 60000 = i := by omega
  have e2 : b / 1000 = c := by omega
  have g1 : h < 24 := by omega
  have g2 : i < 60 := by omega
  have g3 : c < 60 := by omega
  have g4 : a < 3600000 := by omega
  have g5 : b < 60000 := by omega
  have c1 := Lib.hid fun w hW => padded_any h 2 (by omega) (by omega) w hW
  have c2 := Lib.hid fun w hW => padded_any i 2 (by omega) (by omega) w hW
  have c3 := Lib.hid fun w hW => padded_any c 2 (by omega) (by omega) w hW
  rw [pad_two (by omega)] at c1 c2 c3
  have k1 := wcat (d2 h).toArray #[58] (d2 h) [58] rfl rfl (by simp [d2_len])
  have k2 := wcat (d2 h ++ [58]).toArray (d2 i).toArray (d2 h ++ [58]) (d2 i) rfl rfl (by simp [d2_len])
  have k3 := wcat ((d2 h ++ [58]) ++ d2 i).toArray #[58] ((d2 h ++ [58]) ++ d2 i) [58] rfl rfl (by simp [d2_len])
  have k4 := wcat_is (a := (((d2 h ++ [58]) ++ d2 i) ++ [58]).toArray) (b := (d2 c).toArray) (t := clockL h i c) rfl rfl rfl (by simp [d2_len])
  generalize clockL h i c = T at *
  generalize ((d2 h ++ [58]) ++ d2 i) ++ [58] = s3 at *
  generalize (d2 h ++ [58]) ++ d2 i = s2 at *
  generalize d2 h ++ [58] = s1 at *
  generalize d2 h = p1 at *
  generalize d2 i = p2 at *
  generalize d2 c = p3 at *
  have X : Hid (((L : Int).tdiv 3600000 = (h : Int) ∧ (L : Int) / 3600000 = (h : Int)) ∧ wrap64 (h : Int) = (h : Int)) := ⟨⟨t16 L 3600000 h hh.symm, q16 L 3600000 h hh.symm⟩, wr16 (by omega)⟩
  have Y : Hid (((L : Int).tmod 3600000 = (a : Int) ∧ (L : Int) % 3600000 = (a : Int)) ∧ wrap64 (a : Int) = (a : Int)) := ⟨⟨m16 L 3600000 a ha.symm, r16 L 3600000 a ha.symm⟩, wr16 (by omega)⟩
  have Z : Hid (((a : Int).tdiv 60000 = (i : Int) ∧ (a : Int) / 60000 = (i : Int)) ∧ wrap64 (i : Int) = (i : Int)) := ⟨⟨t16 a 60000 i e1, q16 a 60000 i e1⟩, wr16 (by omega)⟩
  have U : Hid (((L : Int).tmod 60000 = (b : Int) ∧ (L : Int) % 60000 = (b : Int)) ∧ wrap64 (b : Int) = (b : Int)) := ⟨⟨m16 L 60000 b hb.symm, r16 L 60000 b hb.symm⟩, wr16 (by omega)⟩
  have V : Hid (((b : Int).tdiv 1000 = (c : Int) ∧ (b : Int) / 1000 = (c : Int)) ∧ wrap64 (c : Int) = (c : Int)) := ⟨⟨t16 b 1000 c e2, q16 b 1000 c e2⟩, wr16 (by omega)⟩
  clear hh ha hi hb hc e1 e2 g1 g2 g3 g4 g5 hL
  obtain ⟨⟨x1, x2⟩, x3⟩ := X.out
  go_enter Tryd.func14, Tryd.ntmps14
  go_wp2_with fail
  refine (c1.out _ hW).mono ?_
  rintro e w1 ⟨rfl, B1⟩
  have HB1 := Lib.hid B1
  clear B1 c1 x1 x2 x3 X
  obtain ⟨⟨x1, x2⟩, x3⟩ := Y.out
  obtain ⟨⟨x4, x5⟩, x6⟩ := Z.out
  go_wp2_with fail
  refine (c2.out _ (hW.after HB1.out)).mono ?_
  rintro e w2 ⟨rfl, B2⟩
  have HB2 := Lib.hid (low16 HB1.out B2)
  clear B2 c2 x1 x2 x3 x4 x5 x6 Y Z
  obtain ⟨⟨x1, x2⟩, x3⟩ := U.out
  obtain ⟨⟨x4, x5⟩, x6⟩ := V.out
  go_wp2_with fail
  refine (c3.out _ (hW.after HB2.out)).mono ?_
  rintro e w3 ⟨rfl, B3⟩
  have HB3 := Lib.hid (low16 HB2.out B3)
  clear B3 c3 x1 x2 x3 x4 x5 x6 U V
  go_wp2_with fail
  go_ret
  exact ⟨rfl, HB3.out⟩

/-- A date, as the program has it. -/
def dv (y m d : Nat) : Value := .agg #[.int .i64 (y : Int), .int .i64 (m : Int), .int .i64 (d : Int)]
def dateL (y m d : Nat) : List UInt8 := (((d4 y ++ [45]) ++ d2 m) ++ [45]) ++ d2 d
theorem d4_len (v : Nat) : (d4 v).length = 4 := rfl
theorem after_grow {W : World} (h : L16 W) (d os) : L16 (Sort.grow (redrawn W d) os) := h.on (below_regrown W d os) h.size
set_option maxHeartbeats 4000000 in
theorem dateText_any (y m d : Nat) (h0 : 1000 ≤ y) (hy : y < 10000) (hm : m < 100) (hd : d < 100) (w : World) (hW : L16 w) :
    Calls Tryd.prog 13 #[dv y m d] w fun e w' => e = .returned (.string ⟨(dateL y m d).toArray⟩) ∧ Below w.heap.size w w' := by
  have c1 := Lib.hid fun w hW => padded_any y 4 (by omega) (by omega) w hW
  have c2 := Lib.hid fun w hW => padded_any m 2 (by omega) (by omega) w hW
  have c3 := Lib.hid fun w hW => padded_any d 2 (by omega) (by omega) w hW
  rw [pad_four (by omega) (by omega)] at c1
  rw [pad_two (by omega)] at c2 c3
  have k1 := wcat (d4 y).toArray #[45] (d4 y) [45] rfl rfl (by simp [d4_len])
  have k2 := wcat (d4 y ++ [45]).toArray (d2 m).toArray (d4 y ++ [45]) (d2 m) rfl rfl (by simp [d2_len, d4_len])
  have k3 := wcat ((d4 y ++ [45]) ++ d2 m).toArray #[45] ((d4 y ++ [45]) ++ d2 m) [45] rfl rfl (by simp [d2_len, d4_len])
  have k4 := wcat_is (a := (((d4 y ++ [45]) ++ d2 m) ++ [45]).toArray) (b := (d2 d).toArray) (t := dateL y m d) rfl rfl rfl (by simp [d2_len, d4_len])
  generalize dateL y m d = T at *
  generalize ((d4 y ++ [45]) ++ d2 m) ++ [45] = s3 at *
  generalize (d4 y ++ [45]) ++ d2 m = s2 at *
  generalize d4 y ++ [45] = s1 at *
  generalize d4 y = p1 at *
  generalize d2 m = p2 at *
  generalize d2 d = p3 at *
  clear h0 hy hm hd
  unfold dv
  have B0 : Below w.heap.size w (w.alloc (.cells #[.int .i64 (y : Int), .int .i64 (m : Int), .int .i64 (d : Int)] 31)) := (Below.refl _ _).alloc (Nat.le_refl _) _
  have hb : (w.alloc (.cells #[.int .i64 (y : Int), .int .i64 (m : Int), .int .i64 (d : Int)] 31)).heap[w.heap.size]? = some (.cells #[.int .i64 (y : Int), .int .i64 (m : Int), .int .i64 (d : Int)] 31) := heap_alloc_new w _
  go_enter Tryd.func13, Tryd.ntmps13
  go_upto_region 1 with fail
  generalize w.alloc (.cells #[.int .i64 (y : Int), .int .i64 (m : Int), .int .i64 (d : Int)] 31) = W at *
  have hL := hW.on B0 hW.size
  have j0 := cell_regrown (show W.cell? ⟨w.heap.size, 0, none⟩ = some (.int .i64 (y : Int)) by rw [block_cell hb]; rfl)
  have j1 := cell_regrown (show W.cell? ⟨w.heap.size, 1, none⟩ = some (.int .i64 (m : Int)) by rw [block_cell hb]; rfl)
  have j2 := cell_regrown (show W.cell? ⟨w.heap.size, 2, none⟩ = some (.int .i64 (d : Int)) by rw [block_cell hb]; rfl)
  have q1 : ∀ dn os, Calls Tryd.prog 15 #[.int .i64 (y : Int), .int .i64 4] (Sort.grow (redrawn W dn) os) fun x w'' => x = .returned (.string ⟨p1.toArray⟩) ∧ ∃ p : Regrown, w'' = Sort.grow (redrawn W p.d) p.os :=
    fun dn os => Calls.regrown_of (c1.out _ (after_grow hL dn os))
  have q2 : ∀ dn os, Calls Tryd.prog 15 #[.int .i64 (m : Int), .int .i64 2] (Sort.grow (redrawn W dn) os) fun x w'' => x = .returned (.string ⟨p2.toArray⟩) ∧ ∃ p : Regrown, w'' = Sort.grow (redrawn W p.d) p.os :=
    fun dn os => Calls.regrown_of (c2.out _ (after_grow hL dn os))
  have q3 : ∀ dn os, Calls Tryd.prog 15 #[.int .i64 (d : Int), .int .i64 2] (Sort.grow (redrawn W dn) os) fun x w'' => x = .returned (.string ⟨p3.toArray⟩) ∧ ∃ p : Regrown, w'' = Sort.grow (redrawn W p.d) p.os :=
    fun dn os => Calls.regrown_of (c3.out _ (after_grow hL dn os))
  clear c1 c2 c3 hb hL
  have HB0 := Lib.hid B0
  clear B0
  refine wp_region_quiet_below (by kernel_rfl) (by kernel_rfl) ?_
  repeat (go_big_quiet_step (first | with_reducible exact q1 _ _ | with_reducible exact q2 _ _ | with_reducible exact q3 _ _))
  refine wpQuiet_nil ?_
  intro _ hw'
  obtain ⟨⟨dq, osq⟩, hw''⟩ := hw'
  subst hw''
  have B7 : Hid (Below w.heap.size w (Sort.grow (redrawn W dq) osq)) := show Below _ _ _ from HB0.out.trans ((below_regrown W dq osq).mono HB0.out.size)
  go_wp2_with fail
  go_ret
  exact ⟨rfl, B7.out⟩
end Go.Proofs.YthkcaogohkgheaaDoor
