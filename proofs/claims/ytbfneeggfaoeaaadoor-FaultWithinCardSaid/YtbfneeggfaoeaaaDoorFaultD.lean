/-
  What fault's Parse does; no condition beyond what the contract asks.
-/
import Derived.Test.YtbfneeggfaoeaaaDoorRefC5
import Derived.Test.YtbfneeggfaoeaaaDoorOwnRow
import Derived.Laws.ResultCell
namespace Go.Proofs.YtbfneeggfaoeaaaDoor
open Go.RowKit
open Go.Lib (decDigits)

/-! ### What is read, step by step -/
theorem parse_code_none {s : List UInt8} (h : codeOf (cutAt 64 s).1 = none) : parseOf s = none := by
  unfold parseOf
  rw [h]
/-- The pieces that are left. -/
def left (more : Bool) (rest : List UInt8) : List (List UInt8) := if more then split 47 rest else []
theorem left_split (s : List UInt8) : split 47 s = (cutAt 47 s).1 :: left (cutAt 47 s).2.2 (cutAt 47 s).2.1 := split_cut 47 s
theorem parse_num_none {s : List UInt8} (h : numOf (cutAt 47 (cutAt 64 s).2.1).1 = none) : parseOf s = none := by
  unfold parseOf
  rw [left_split, nums_cons_none h]
  cases codeOf (cutAt 64 s).1 <;> rfl
theorem nums_cons_some {q : List UInt8} {n : Nat} {ps : List (List UInt8)} (h : numOf q = some n) : nums (q :: ps) = (nums ps).map (n :: ·) := by
  simp only [nums, h]
  cases nums ps <;> rfl
theorem parse_go {s : List UInt8} {e a : Nat} (h1 : codeOf (cutAt 64 s).1 = some e) (h2 : numOf (cutAt 47 (cutAt 64 s).2.1).1 = some a) :
    parseOf s = (nums (left (cutAt 47 (cutAt 64 s).2.1).2.2 (cutAt 47 (cutAt 64 s).2.1).2.1)).map fun l => (e, a, [] ++ l) := by
  unfold parseOf
  rw [left_split, nums_cons_some h2, h1]
  cases nums (left (cutAt 47 (cutAt 64 s).2.1).2.2 (cutAt 47 (cutAt 64 s).2.1).2.1) <;> rfl
theorem round_none {e a : Nat} {q : List Nat} {rest : List UInt8} (h : numOf (cutAt 47 rest).1 = none) : (nums (left true rest)).map (fun l => (e, a, q ++ l)) = none := by
  show (nums (split 47 rest)).map _ = none
  rw [left_split, nums_cons_none h]
  rfl
theorem round_some {e a n : Nat} {q : List Nat} {rest : List UInt8} (h : numOf (cutAt 47 rest).1 = some n) :
    (nums (left true rest)).map (fun l => (e, a, q ++ l)) = (nums (left (cutAt 47 rest).2.2 (cutAt 47 rest).2.1)).map fun l => (e, a, (q ++ [n]) ++ l) := by
  show (nums (split 47 rest)).map _ = _
  rw [left_split, nums_cons_some h]
  cases nums (left (cutAt 47 rest).2.2 (cutAt 47 rest).2.1) <;> simp
theorem round_end {e a : Nat} {q : List Nat} {rest : List UInt8} : (nums (left false rest)).map (fun l => (e, a, q ++ l)) = some (e, a, q) := by
  show (nums []).map _ = _
  simp [nums]

/-! ### What is answered -/
def ints (q : List Nat) : List Int := q.map fun n : Nat => (n : Int)
theorem ints_length (q : List Nat) : (ints q).length = q.length := by simp [ints]
theorem ints_append (q r : List Nat) : ints (q ++ r) = ints q ++ ints r := by simp [ints]
/-- A reason, and whether there is one. -/
def ansE (r : Option (Nat × Nat × List Nat)) : Int := match r with | some x => (x.1 : Int) | none => 0
def ansA (r : Option (Nat × Nat × List Nat)) : Int := match r with | some x => (x.2.1 : Int) | none => 0
def ansP (r : Option (Nat × Nat × List Nat)) : List Int := match r with | some x => ints x.2.2 | none => []
def GotF (r : Option (Nat × Nat × List Nat)) (w : World) (x : Ending) (w' : World) : Prop :=
  ∃ A n c, x = .returned (.tuple #[.agg #[.int .i64 (ansE r), .int .i64 (ansA r), .slice A n c], .bool r.isSome]) ∧ Ints w' (· < w'.heap.size) A n (ansP r) ∧ Below w.heap.size w w'
theorem gotF_none {r : Option (Nat × Nat × List Nat)} (h : r = none) {w w' : World} (hb : Below w.heap.size w w') : GotF r w (.returned (.tuple #[.agg #[.int .i64 0, .int .i64 0, .slice none 0 0], .bool false])) w' := by
  subst h
  exact ⟨none, 0, 0, rfl, ⟨rfl, fun h => absurd h (by omega)⟩, hb⟩
theorem gotF_some {r : Option (Nat × Nat × List Nat)} {e a : Nat} {q : List Nat} (h : r = some (e, a, q)) {w w' : World} {A : Option Addr} {n c : Nat} (hi : Ints w' (· < w'.heap.size) A n (ints q)) (hb : Below w.heap.size w w') :
    GotF r w (.returned (.tuple #[.agg #[.int .i64 (e : Int), .int .i64 (a : Int), .slice A n c], .bool true])) w' := by
  subst h
  exact ⟨A, n, c, rfl, hi, hb⟩

/-! ### A result that lies in memory -/
theorem results_row2 {fn : Func} {p u : Tmp} {ty : TypeId} (h : fn.results = #[.cell p ty, .tmp u]) (tmps : Array Value) {P : Program} (w : World) (g : Nat) (cs : Array Value)
    (hp : tmps.getD p undef = .pointer (some ⟨g, 0, none⟩)) (hl : (loadVar ty ⟨g, 0, none⟩).run P w = .ok (.agg cs) w) :
    (results fn tmps).run P w = .ok (.tuple #[.agg cs, tmps.getD u undef]) w := by
  rw [results_cell_tmp h, hp]
  simp [asAddr, hl]
theorem load_fault {w : World} {g : Nat} {x y z : Value} (hg : w.heap[g]? = some (.cells #[x, y, z] 30 (0, 0))) :
    (loadVar 30 ⟨g, 0, none⟩).run Tryd.prog w = .ok (.agg #[x, y, z]) w :=
  run_loadVar_row w g _ _ _ _ _ hg Tryd.underlying30 rfl (by kernel_rfl)
theorem codeR_n : codeR none = .tuple #[.int .i64 0, .bool false] := rfl
theorem codeR_s (k : Nat) : codeR (some k) = .tuple #[.int .i64 (k : Int), .bool true] := rfl
theorem numR_n (kd : IntKind) : numR kd none = .tuple #[.int kd 0, .bool false] := rfl
theorem numR_s (kd : IntKind) (k : Nat) : numR kd (some k) = .tuple #[.int kd (k : Int), .bool true] := rfl
theorem three_set {w : World} {g : Nat} {x y z a b c : Value} {t : TypeId} (h : w.heap[g]? = some (.cells #[x, y, z] t (0, 0))) :
    (((w.setCell ⟨g, 0, none⟩ a).setCell ⟨g, 1, none⟩ b).setCell ⟨g, 2, none⟩ c).heap[g]? = some (.cells #[a, b, c] t (0, 0)) :=
  block_set (block_set (block_set h 0 a) 1 b) 2 c
theorem below_three {B : Nat} {a w : World} (h : Below B a w) {g : Nat} (hg : B ≤ g) (x y z : Value) : Below B a (((w.setCell ⟨g, 0, none⟩ x).setCell ⟨g, 1, none⟩ y).setCell ⟨g, 2, none⟩ z) :=
  ((h.setCell (p := ⟨g, 0, none⟩) hg x).setCell (p := ⟨g, 1, none⟩) hg y).setCell (p := ⟨g, 2, none⟩) hg z
theorem info_fault : (Tryd.prog.info? 30).map (·.size) = some 3 := by kernel_rfl

theorem cutAt_sum (c : UInt8) (s : List UInt8) : (cutAt c s).1.length + (cutAt c s).2.1.length ≤ s.length := by
  induction s with
  | nil => exact Nat.le_refl _
  | cons x l ih =>
    simp only [cutAt]
    split
    · simp
    · simp only [List.length_cons]
      omega
theorem numOf_pos {s : List UInt8} {n : Nat} (h : numOf s = some n) : 1 ≤ s.length := by
  cases s with
  | nil => cases h
  | cons => simp
/-- How much is left to read. -/
def meas (v b : Value) : Nat := match v, b with | .string s, .bool true => s.size + 1 | _, _ => 0
theorem meas_more (l : List UInt8) : meas (.string ⟨l.toArray⟩) (.bool true) = l.length + 1 := by simp [meas, ByteArray.size]
theorem meas_less {l : List UInt8} {f : Bool} {n : Nat} (h : f = true → l.length < n) : meas (.string ⟨l.toArray⟩) (.bool f) < n + 1 := by
  cases f with
  | false => simp [meas]
  | true => rw [meas_more]; have := h rfl; omega
/-- What has been read of the path. -/
def ParseRel (w : World) (r : Option (Nat × Nat × List Nat)) (e a : Nat) (t5 t10 t12 : Value) (wr : World) : Prop :=
  ∃ (rest : List UInt8) (more : Bool) (A : Option Addr) (m c : Nat) (q : List Nat), t5 = .string ⟨rest.toArray⟩ ∧ t10 = .bool more ∧ t12 = .slice A m c ∧ rest.length + m ≤ 1000000 ∧
    wr.ownsRow (w.heap.size + 1) 3 1 (.slice A m c) m (intCells (ints q)) ∧ r = (nums (left more rest)).map (fun l => (e, a, q ++ l)) ∧
    wr.heap[w.heap.size]? = some (.cells #[.int .i64 0, .int .i64 0, .slice none 0 0] 30) ∧ Below w.heap.size w wr
theorem info_int : (Tryd.prog.info? 3).map (fun i => (i.zero, i.size, i.bytes)) = some (some (.int .i64 0), 1, 8) := by kernel_rfl

set_option maxHeartbeats 4000000 in
theorem parse_any (s : List UInt8) (hs : s.length ≤ 1000000) (w : World) (hL : Laid w) :
    Calls Tryd.prog 13 #[.string ⟨s.toArray⟩] w (GotF (parseOf s) w) := by
  obtain ⟨r, hr⟩ : ∃ r, r = parseOf s := ⟨_, rfl⟩
  rw [← hr]
  have HR := Lib.hid hr
  clear hr
  have B1 : Below w.heap.size w (w.alloc (.cells #[.int .i64 0, .int .i64 0, .slice none 0 0] 30)) := (Below.refl _ _).alloc (Nat.le_refl _) _
  have hb1 : (w.alloc (.cells #[.int .i64 0, .int .i64 0, .slice none 0 0] 30)).heap[w.heap.size]? = some (.cells #[.int .i64 0, .int .i64 0, .slice none 0 0] 30) := heap_alloc_new w _
  have s1 : (w.alloc (.cells #[.int .i64 0, .int .i64 0, .slice none 0 0] 30)).heap.size = w.heap.size + 1 := by simp
  have L1 := hL.on B1 hL.size
  obtain ⟨mx, hmx⟩ := L1.most
  go_enter Tryd.func13, Tryd.ntmps13
  go_wp2_with fail
  generalize w.alloc (.cells #[.int .i64 0, .int .i64 0, .slice none 0 0] 30) = w1 at *
  refine (cut_any s 64 mx w1 (by omega) hmx).mono ?_
  rintro x w2 ⟨rfl, n2, rfl⟩
  have B2 : Below w.heap.size w (w1.drewN n2) := ⟨B1.os, B1.tape, B1.output, B1.size, B1.block⟩
  have hb2 : (w1.drewN n2).heap[w.heap.size]? = some (.cells #[.int .i64 0, .int .i64 0, .slice none 0 0] 30) := hb1
  have s2 : (w1.drewN n2).heap.size = w.heap.size + 1 := s1
  have L2 := L1.drewN n2
  have hc1 := cutAt_le 64 s
  have HC1 := Lib.hid (fun h => parse_code_none (s := s) h)
  have HC2 := Lib.hid (fun h => parse_num_none (s := s) h)
  have HC3 := Lib.hid (fun (e a : Nat) h1 h2 => parse_go (s := s) (e := e) (a := a) h1 h2)
  rw [← HR.out] at HC1 HC2 HC3
  generalize (cutAt 64 s).1 = nm at *
  generalize (cutAt 64 s).2.1 = rs at *
  generalize (cutAt 64 s).2.2 = f1 at *
  generalize w1.drewN n2 = w2 at *
  clear hmx B1 hb1 s1 L1
  go_wp2_with fail
  refine (code_any nm w2 L2).mono ?_
  rintro x w3 ⟨rfl, rfl⟩
  cases hcode : codeOf nm with
  | none =>
    have HE := Lib.hid (HC1.out hcode)
    have f0 := block_frozen hb2 0; have f1' := block_frozen hb2 1; have f2 := block_frozen hb2 2
    have g0 : w3.cell? ⟨w.heap.size, 0, none⟩ = some (.int .i64 0) := by rw [block_cell hb2]; rfl
    have g1 : w3.cell? ⟨w.heap.size, 1, none⟩ = some (.int .i64 0) := by rw [block_cell hb2]; rfl
    have g2 : w3.cell? ⟨w.heap.size, 2, none⟩ = some (.slice none 0 0) := by rw [block_cell hb2]; rfl
    rw [codeR_n]
    have hb4 := three_set (a := .int .i64 0) (b := .int .i64 0) (c := .slice none 0 0) hb2
    have B4 := below_three B2 (g := w.heap.size) (Nat.le_refl _) (.int .i64 0) (.int .i64 0) (.slice none 0 0)
    go_wp2_with fail
    try simp only [Exit.inBlock, Exit.then]
    refine bodyPost_ret (results_row2 rfl _ _ w.heap.size _ rfl (load_fault hb4)) rfl ?_
    exact gotF_none HE.out B4
  | some e =>
    rw [codeR_s]
    have HC4 := Lib.hid (fun a h => HC3.out e a hcode h)
    clear HC1 HC3 hcode
    obtain ⟨mx, hmx⟩ := L2.most
    go_wp2_with fail
    refine (cut_any rs 47 mx w3 (by omega) hmx).mono ?_
    rintro x w4 ⟨rfl, n4, rfl⟩
    have B4 : Below w.heap.size w (w3.drewN n4) := ⟨B2.os, B2.tape, B2.output, B2.size, B2.block⟩
    have hb4 : (w3.drewN n4).heap[w.heap.size]? = some (.cells #[.int .i64 0, .int .i64 0, .slice none 0 0] 30) := hb2
    have s4 : (w3.drewN n4).heap.size = w.heap.size + 1 := s2
    have hc4 := cutAt_le 47 rs
    generalize (cutAt 47 rs).1 = part at *
    generalize (cutAt 47 rs).2.1 = rest at *
    generalize (cutAt 47 rs).2.2 = more at *
    generalize w3.drewN n4 = w4 at *
    clear hmx B2 hb2 s2 L2
    go_wp2_with fail
    refine (number_any part (by omega) w4).mono ?_
    rintro x w5 ⟨rfl, rfl⟩
    cases hnum : numOf part with
    | none =>
      have HE := Lib.hid (HC2.out hnum)
      have f0 := block_frozen hb4 0; have f1' := block_frozen hb4 1; have f2 := block_frozen hb4 2
      have g0 : w5.cell? ⟨w.heap.size, 0, none⟩ = some (.int .i64 0) := by rw [block_cell hb4]; rfl
      have g1 : w5.cell? ⟨w.heap.size, 1, none⟩ = some (.int .i64 0) := by rw [block_cell hb4]; rfl
      have g2 : w5.cell? ⟨w.heap.size, 2, none⟩ = some (.slice none 0 0) := by rw [block_cell hb4]; rfl
      rw [numR_n]
      have hb5 := three_set (a := .int .i64 0) (b := .int .i64 0) (c := .slice none 0 0) hb4
      have B5 := below_three B4 (g := w.heap.size) (Nat.le_refl _) (.int .i64 0) (.int .i64 0) (.slice none 0 0)
      go_wp2_with fail
      try simp only [Exit.inBlock, Exit.then]
      refine bodyPost_ret (results_row2 rfl _ _ w.heap.size _ rfl (load_fault hb5)) rfl ?_
      exact gotF_none HE.out B5
    | some a =>
      rw [numR_s]
      have HS := Lib.hid (HC4.out a hnum)
      clear HC4 HC2 hnum
      go_wp2_with fail
      go_loopw [5, 10, 12] (fun t5 t10 t12 wr => ParseRel w r e a t5 t10 t12 wr) (fun t5 t10 _ _ => meas t5 t10)
      case atStart => exact ⟨rest, more, none, 0, 0, [], rfl, rfl, rfl, by omega, World.ownsRow_nil _ _ _ _, HS.out, hb4, B4⟩
      case round =>
        clear HS B4 hb4 s4 hc4 hc1
        obtain ⟨rest, more, A, m, c, q, rfl, rfl, rfl, hlen, hown, hrr, hb6, B6⟩ := hrel
        have HOw := Lib.hid hown; have HRr := Lib.hid hrr
        clear hown hrr
        cases more with
        | false =>
          have HE : Hid (r = some (e, a, q)) := show _ = _ by rw [HRr.out]; exact round_end
          have f0 := block_frozen hb6 0; have f1' := block_frozen hb6 1; have f2 := block_frozen hb6 2
          have g0 : wr.cell? ⟨w.heap.size, 0, none⟩ = some (.int .i64 0) := by rw [block_cell hb6]; rfl
          have g1 : wr.cell? ⟨w.heap.size, 1, none⟩ = some (.int .i64 0) := by rw [block_cell hb6]; rfl
          have g2 : wr.cell? ⟨w.heap.size, 2, none⟩ = some (.slice none 0 0) := by rw [block_cell hb6]; rfl
          have hb7 := three_set (a := .int .i64 (e : Int)) (b := .int .i64 (a : Int)) (c := .slice A m c) hb6
          have B7 := below_three B6 (g := w.heap.size) (Nat.le_refl _) (.int .i64 (e : Int)) (.int .i64 (a : Int)) (.slice A m c)
          have HI7 : Hid (Ints (((wr.setCell ⟨w.heap.size, 0, none⟩ (.int .i64 (e : Int))).setCell ⟨w.heap.size, 1, none⟩ (.int .i64 (a : Int))).setCell ⟨w.heap.size, 2, none⟩ (.slice A m c)) (· < (((wr.setCell ⟨w.heap.size, 0, none⟩ (.int .i64 (e : Int))).setCell ⟨w.heap.size, 1, none⟩ (.int .i64 (a : Int))).setCell ⟨w.heap.size, 2, none⟩ (.slice A m c)).heap.size) A m (ints q)) :=
            own_ints (ownsRow_setCell_below (ownsRow_setCell_below (ownsRow_setCell_below HOw.out (Nat.lt_succ_self _) _) (Nat.lt_succ_self _) _) (Nat.lt_succ_self _) _)
          clear HRr HOw
          go_wp2_with fail
          try simp only [Exit.inBlock, Exit.then]
          refine bodyPost_ret (results_row2 rfl _ _ w.heap.size _ rfl (load_fault hb7)) rfl ?_
          exact gotF_some HE.out HI7.out B7
        | true =>
          have Lr := hL.on B6 hL.size
          obtain ⟨mx, hmx⟩ := Lr.most
          have HM := Lib.hid (meas_more rest)
          go_wp2_with fail
          refine (cut_any rest 47 mx wr (by omega) hmx).mono ?_
          rintro x w7 ⟨rfl, n7, rfl⟩
          have B7 : Below w.heap.size w (wr.drewN n7) := ⟨B6.os, B6.tape, B6.output, B6.size, B6.block⟩
          have hb7 : (wr.drewN n7).heap[w.heap.size]? = some (.cells #[.int .i64 0, .int .i64 0, .slice none 0 0] 30) := hb6
          have HO7 : Hid ((wr.drewN n7).ownsRow (w.heap.size + 1) 3 1 (.slice A m c) m (intCells (ints q))) := HOw.out
          have hc7 := cutAt_sum 47 rest
          have HLt := Lib.hid (fun h => cutAt_lt (c := 47) (s := rest) h)
          have HR1 : Hid (numOf (cutAt 47 rest).1 = none → r = none) := fun h => by rw [HRr.out]; exact round_none h
          have HR2 : Hid (∀ n, numOf (cutAt 47 rest).1 = some n → r = (nums (left (cutAt 47 rest).2.2 (cutAt 47 rest).2.1)).map fun l => (e, a, (q ++ [n]) ++ l)) := fun n h => by rw [HRr.out]; exact round_some h
          generalize (cutAt 47 rest).1 = part2 at *
          generalize (cutAt 47 rest).2.1 = rest2 at *
          generalize (cutAt 47 rest).2.2 = more2 at *
          generalize wr.drewN n7 = w7 at *
          clear hmx B6 hb6 Lr HOw HRr
          go_wp2_with fail
          refine (number_any part2 (by omega) w7).mono ?_
          rintro x w8 ⟨rfl, rfl⟩
          cases hnum : numOf part2 with
          | none =>
            have HE := Lib.hid (HR1.out hnum)
            have f0 := block_frozen hb7 0; have f1' := block_frozen hb7 1; have f2 := block_frozen hb7 2
            have g0 : w8.cell? ⟨w.heap.size, 0, none⟩ = some (.int .i64 0) := by rw [block_cell hb7]; rfl
            have g1 : w8.cell? ⟨w.heap.size, 1, none⟩ = some (.int .i64 0) := by rw [block_cell hb7]; rfl
            have g2 : w8.cell? ⟨w.heap.size, 2, none⟩ = some (.slice none 0 0) := by rw [block_cell hb7]; rfl
            rw [numR_n]
            have hb8 := three_set (a := .int .i64 0) (b := .int .i64 0) (c := .slice none 0 0) hb7
            have B8 := below_three B7 (g := w.heap.size) (Nat.le_refl _) (.int .i64 0) (.int .i64 0) (.slice none 0 0)
            go_wp2_with fail
            try simp only [Exit.inBlock, Exit.then]
            refine bodyPost_ret (results_row2 rfl _ _ w.heap.size _ rfl (load_fault hb8)) rfl ?_
            exact gotF_none HE.out B8
          | some n =>
            rw [numR_s]
            have HE := Lib.hid (HR2.out n hnum)
            have hpp := numOf_pos hnum
            clear HR1 HR2 hnum
            obtain ⟨i0, hi0, hz0, hz1, hz2⟩ := info_parts info_int
            have HZ := Lib.hid hz0; have HI0 := Lib.hid hi0; have H1 := Lib.hid hz1; have H2 := Lib.hid hz2
            clear hz0 hi0 hz1 hz2
            have hgn := heap_alloc_new w8 (.cells #[.int .i64 (n : Int)] 3)
            have HOA : Hid ((w8.alloc (.cells #[.int .i64 (n : Int)] 3)).ownsRow (w.heap.size + 1) 3 1 (.slice A m c) m (intCells (ints q))) := HO7.out.alloc _
            have BA : Below w.heap.size w (w8.alloc (.cells #[.int .i64 (n : Int)] 3)) := B7.alloc B7.size _
            have hlt : w.heap.size < w8.heap.size := block_lt hb7
            have hbA : (w8.alloc (.cells #[.int .i64 (n : Int)] 3)).heap[w.heap.size]? = some (.cells #[.int .i64 0, .int .i64 0, .slice none 0 0] 30) := (Below.heap_alloc _ _ _ hlt).trans hb7
            have HSr : Hid (0 < 1 → ∃ ad, some (⟨w8.heap.size, 0, none⟩ : Addr) = some ad ∧ ∀ j u, ([.int .i64 (n : Int)] : List Value)[j]? = some u → (w8.alloc (.cells #[.int .i64 (n : Int)] 3)).cell? (ad.add j) = some u) := fun _ =>
              ⟨_, rfl, World.news_of_block (cs := #[.int .i64 (n : Int)]) (t := 3) (fr := (0, 0)) hgn⟩
            have l2 : m + 1 ≤ maxLen := by simp only [maxLen]; omega
            have l3 : (m + 1) * 8 ≤ 140737488355328 := by omega
            have hsz : w.heap.size + 1 ≤ (w8.alloc (.cells #[.int .i64 (n : Int)] 3)).heap.size := by simp; omega
            have l4 : ∀ u ∈ ([.int .i64 (n : Int)] : List Value), u.oneCell' = true := by simp [Value.oneCell']
            clear hgn HO7 B7 hb7
            go_wp2_with (first | (at_builtin; refine wpList_append_held _ rfl (.tmp 58) (.tmp 60) 28 rfl (w.heap.size + 1) 3 i0 _ 8 Tryd.underlying28 HI0.out HZ.out H1.out H2.out rfl _ m _ rfl HOA.out (some ⟨w8.heap.size, 0, none⟩) 1 1 [.int .i64 (n : Int)] rfl rfl HSr.out l4 l2 l3 hsz ?_))
            intro A5 c5 w9 ho9 hg9 _
            have B9 : Below w.heap.size w w9 := BA.grown hg9 BA.size (fun k hk => Nat.le_of_succ_le (HOA.out.lt k hk).1)
            have hb9 : w9.heap[w.heap.size]? = some (.cells #[.int .i64 0, .int .i64 0, .slice none 0 0] 30) :=
              (hg9.block _ (by omega) (fun h => by have := (HOA.out.lt _ h.symm).1; omega)).trans hbA
            have HO9 : Hid (w9.ownsRow (w.heap.size + 1) 3 1 (.slice A5 (m + 1) c5) (m + 1) (intCells (ints (q ++ [n])))) := by
              rw [ints_append]
              unfold intCells
              rw [List.map_append]
              exact ho9.out
            clear ho9 hg9 HOA BA hbA HSr hsz l4 l2 l3
            go_wp2_with fail
            go_roundw
            case rel => exact ⟨rest2, more2, A5, m + 1, c5, q ++ [n], rfl, rfl, rfl, by omega, HO9.out, HE.out, hb9, B9⟩
            case measure => rw [HM.out]; exact meas_less HLt.out

end Go.Proofs.YtbfneeggfaoeaaaDoor
