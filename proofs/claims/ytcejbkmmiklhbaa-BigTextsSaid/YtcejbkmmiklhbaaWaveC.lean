/-
  wave's Four and quarter: of fit numbers, and of others. No condition beyond what each contract says.
-/
import Derived.Test.YtcejbkmmiklhbaaWaveB
namespace Go.Proofs.Ytcejbkmmiklhbaa
open Go.RowKit

/-- Four times 0. -/
def noughts : List (Nat × Nat) := [(0, 0), (0, 0), (0, 0), (0, 0)]
theorem Are.bits {zs : List (Nat × Nat)} {p q : Nat → Int} (h : Are zs p q) : Bits zs := fun k => by
  by_cases hk : k < 4
  · exact ⟨(h.2 k hk).1.1, (h.2 k hk).2.1⟩
  · have : zs.getD k (0, 0) = (0, 0) := by simp [List.getD, List.getElem?_eq_none (show zs.length ≤ k by have := h.1; omega)]
    rw [this]
    decide
theorem Are.fits {zs : List (Nat × Nat)} {p q : Nat → Int} (h : Are zs p q) (hf : ∀ k, k < 4 → Fit (p k) ∧ Fit (q k)) : ∀ k, k < 4 → FitBits (zs.getD k (0, 0)) :=
  fun k hk => ⟨_, _, (h.2 k hk).1, (h.2 k hk).2, (hf k hk).1, (hf k hk).2⟩

theorem put_all {w : World} {g : Nat} {t : TypeId} {L M : List Value} (hm : M.length = 4) (h : Row w g t L) (hl : L.length = 4 := by rfl) : Row (w.setCells g 0 M.toArray.toList) g t M := by
  obtain ⟨a, b, c, d, rfl⟩ := four_list hm
  obtain ⟨a', b', c', d', rfl⟩ := four_list hl
  exact h.puts 0 [a, b, c, d]

set_option maxHeartbeats 2000000 in
theorem four_walk {zs us : List (Nat × Nat)} (hl : zs.length = 4) (hu : us.length = 4)
    (cF : Hid (∀ w, Calls Try.prog 64 #[.agg (cx zs).toArray] w fun e w' => e = .returned (.bool true) ∧ Below w.heap.size w w'))
    (cT : Hid (∀ w, Calls Try.prog 65 #[.agg (cx zs).toArray, .int .i64 1] w fun e w' => e = .returned (.agg (cx us).toArray) ∧ Below w.heap.size w w')) (w : World) :
    Calls Try.prog 63 #[.agg (cx zs).toArray] w fun e w' => e = .returned (.agg (cx us).toArray) ∧ Below w.heap.size w w' := by
  have hn : Hid ((cx zs).length = 4) := show _ = _ by rw [cx_length, hl]
  have hm : Hid ((cx us).length = 4) := show _ = _ by rw [cx_length, hu]
  have one := Lib.hid (all_oneCell_toArray (cx_one us))
  generalize cx zs = L at hn cF cT
  generalize cx us = M at hm cT one
  clear hl hu
  have hsz := Lib.hid (size_four L hn.out)
  have hsm : Hid ((Try.prog.info? 76).map (·.size) = some M.toArray.size) := by show _ = _; rw [List.size_toArray]; exact size_four M hm.out
  have R1 : Row ((w.alloc (.cells L.toArray 76)).alloc (Obj.cells #[.complex .f64 0 0, .complex .f64 0 0, .complex .f64 0 0, .complex .f64 0 0] 76)) w.heap.size 76 L := (Row.new w _ _).past _
  have R2 : Row ((w.alloc (.cells L.toArray 76)).alloc (Obj.cells #[.complex .f64 0 0, .complex .f64 0 0, .complex .f64 0 0, .complex .f64 0 0] 76)) (w.heap.size + 1) 76 (cx noughts) := Row.new' (w.alloc _) _ (cx noughts) (by simp)
  have BW : Below w.heap.size w ((w.alloc (.cells L.toArray 76)).alloc (Obj.cells #[.complex .f64 0 0, .complex .f64 0 0, .complex .f64 0 0, .complex .f64 0 0] 76)) := ((Below.refl _ _).alloc (Nat.le_refl _) _).alloc (by simp) _
  have H1 := Lib.hid R1.all
  have HR1 := Lib.hid R1
  have HR2 := Lib.hid R2
  clear R1 R2
  go_enter Try.func63, Try.ntmps63
  go_wp2_with (first | (refine wpList_load_mid rfl 76 (.tmp 1) rfl w.heap.size 0 rfl L _ H1.out Try.underlying76 rfl hsz.out ?_))
  refine (cF.out _).mono ?_
  rintro e w1 ⟨rfl, B1⟩
  have R1 := HR1.out.keep B1
  have R2 := HR2.out.keep B1
  have BW1 := BW.trans (B1.mono BW.size)
  have H2 := Lib.hid R1.all
  have HR3 := Lib.hid R2
  clear HR1 HR2 H1 R1 R2 BW B1
  go_wp2_with (first | (refine wpList_load_mid rfl 76 (.tmp 1) rfl w.heap.size 0 rfl L _ H2.out Try.underlying76 rfl hsz.out ?_))
  refine (cT.out _).mono ?_
  rintro e w2 ⟨rfl, B2⟩
  have R3 := HR3.out.keep B2
  have BW2 := BW1.trans (B2.mono BW1.size)
  have th : Hid (w2.there (w.heap.size + 1) 0 M.toArray.size) := R3.there 0 _ (by rw [List.size_toArray, hm.out, cx_length]; decide)
  have gb : w.heap.size ≤ w.heap.size + 1 := by omega
  generalize w.heap.size + 1 = g at *
  go_wp2_with (first | (refine wpList_store_mid rfl 76 (.tmp 2) (.tmp 8) rfl g 0 M.toArray rfl rfl th.out hsm.out one.out ?_))
  refine bodyPost_ret (results_row1 rfl _ _ g _ rfl (load_four (L := M) hm.out (put_all hm.out R3))) rfl ?_
  exact ⟨rfl, below_puts BW2 gb _ _⟩

theorem four_any {zs : List (Nat × Nat)} {p q : Nat → Int} (h : Are zs p q) (hf : ∀ k, k < 4 → Fit (p k) ∧ Fit (q k)) :
    ∃ us, Are us (tr 1 p q) (ti 1 p q) ∧ ∀ w, Calls Try.prog 63 #[.agg (cx zs).toArray] w fun e w' => e = .returned (.agg (cx us).toArray) ∧ Below w.heap.size w w' := by
  obtain ⟨us, hu, cT⟩ := turned_any 1 (.inl rfl) h hf
  exact ⟨us, hu, four_walk h.1 hu.1 (allFit_any zs h.1 h.bits true ⟨fun _ => h.fits hf, fun _ => rfl⟩) cT⟩

set_option maxHeartbeats 2000000 in
theorem four_else {zs : List (Nat × Nat)} (hl : zs.length = 4) (hb : Bits zs) (hf : ¬ ∀ k, k < 4 → FitBits (zs.getD k (0, 0))) (w : World) :
    Calls Try.prog 63 #[.agg (cx zs).toArray] w fun e w' => e = .returned (.agg (cx noughts).toArray) ∧ Below w.heap.size w w' := by
  have cF := Lib.hid (allFit_any zs hl hb false ⟨fun h => (by cases h), fun h => (hf h).elim⟩)
  have hn : Hid ((cx zs).length = 4) := show _ = _ by rw [cx_length, hl]
  generalize cx zs = L at hn cF
  clear hl hb hf
  have hsz := Lib.hid (size_four L hn.out)
  have R1 : Row ((w.alloc (.cells L.toArray 76)).alloc (Obj.cells #[.complex .f64 0 0, .complex .f64 0 0, .complex .f64 0 0, .complex .f64 0 0] 76)) w.heap.size 76 L := (Row.new w _ _).past _
  have R2 : Row ((w.alloc (.cells L.toArray 76)).alloc (Obj.cells #[.complex .f64 0 0, .complex .f64 0 0, .complex .f64 0 0, .complex .f64 0 0] 76)) (w.heap.size + 1) 76 (cx noughts) := Row.new' (w.alloc _) _ (cx noughts) (by simp)
  have BW : Below w.heap.size w ((w.alloc (.cells L.toArray 76)).alloc (Obj.cells #[.complex .f64 0 0, .complex .f64 0 0, .complex .f64 0 0, .complex .f64 0 0] 76)) := ((Below.refl _ _).alloc (Nat.le_refl _) _).alloc (by simp) _
  have H1 := Lib.hid R1.all
  have HR2 := Lib.hid R2
  clear R1 R2
  go_enter Try.func63, Try.ntmps63
  go_wp2_with (first | (refine wpList_load_mid rfl 76 (.tmp 1) rfl w.heap.size 0 rfl L _ H1.out Try.underlying76 rfl hsz.out ?_))
  refine (cF.out _).mono ?_
  rintro e w1 ⟨rfl, B1⟩
  have R3 := HR2.out.keep B1
  have BW1 := BW.trans (B1.mono BW.size)
  clear HR2 H1 BW B1
  have th : Hid (w1.there (w.heap.size + 1) 0 (cx noughts).toArray.size) := R3.there 0 _ (by decide)
  have hsm : Hid ((Try.prog.info? 76).map (·.size) = some (cx noughts).toArray.size) := by show _ = _; rw [List.size_toArray]; exact size_four (cx noughts) rfl
  have one := Lib.hid (all_oneCell_toArray (cx_one noughts))
  have gb : w.heap.size ≤ w.heap.size + 1 := by omega
  generalize w.heap.size + 1 = g at *
  go_wp2_with (first | (refine wpList_store_mid rfl 76 (.tmp 2) (.tmp 6) rfl g 0 (cx noughts).toArray rfl rfl th.out hsm.out one.out ?_))
  refine bodyPost_ret (results_row1 rfl _ _ g _ rfl (load_four (L := cx noughts) rfl (put_all rfl R3))) rfl ?_
  exact ⟨rfl, below_puts BW1 gb _ _⟩

theorem tmod4 (p : Int) : p.tmod 4 = 0 ↔ p % 4 = 0 := ⟨fun h => Int.emod_eq_zero_of_dvd (Int.dvd_of_tmod_eq_zero h), fun h => Int.tmod_eq_zero_of_dvd (Int.dvd_of_emod_eq_zero h)⟩

set_option maxHeartbeats 1000000 in
/-- A quarter of a whole one, where there is a whole quarter. -/
theorem quarter_yes {x y : Nat} {a b : Int} (hx : Whole x (4 * a)) (hy : Whole y (4 * b)) (ga : Great (4 * a)) (gb : Great (4 * b)) (w : World) :
    Calls Try.prog 66 #[.complex .f64 x y] w fun e w' => e = .returned (.tuple #[.complex .f64 (floatOfInt .f64 a) (floatOfInt .f64 b), .bool true]) ∧ w' = w := by
  have cp := Lib.hid (parts_yes hx hy ga gb)
  obtain ⟨p, hp⟩ : ∃ p, p = 4 * a := ⟨_, rfl⟩
  obtain ⟨q, hq⟩ : ∃ q, q = 4 * b := ⟨_, rfl⟩
  rw [← hp] at cp ga
  rw [← hq] at cp gb
  have m1 : p.tmod 4 = 0 := by rw [hp]; exact Int.mul_tmod_right _ _
  have m2 : q.tmod 4 = 0 := by rw [hq]; exact Int.mul_tmod_right _ _
  have e1 : p.tdiv 4 = a := by rw [hp]; exact Int.mul_tdiv_cancel_left _ (by decide)
  have e2 : q.tdiv 4 = b := by rw [hq]; exact Int.mul_tdiv_cancel_left _ (by decide)
  have g1 := ga.1; have g2 := ga.2; have g3 := gb.1; have g4 := gb.2
  have w1 : wrap64 a = a := by unfold wrap64; omega
  have w2 : wrap64 b = b := by unfold wrap64; omega
  clear hx hy ga gb g1 g2 g3 g4 hp hq
  go_enter Try.func66, Try.ntmps66
  go_wp2_with fail
  refine (cp.out _).mono ?_
  rintro e v1 ⟨rfl, hw⟩; subst v1
  go_wp2_with fail
  go_ret2
  exact ⟨rfl, rfl⟩

set_option maxHeartbeats 1000000 in
/-- .. where there is none. -/
theorem quarter_no {x y : Nat} {p q : Int} (hx : Whole x p) (hy : Whole y q) (ga : Great p) (gb : Great q) (hn : ¬ (p % 4 = 0 ∧ q % 4 = 0)) (w : World) :
    Calls Try.prog 66 #[.complex .f64 x y] w fun e w' => e = .returned (.tuple #[.complex .f64 0 0, .bool false]) ∧ w' = w := by
  have cp := Lib.hid (parts_yes hx hy ga gb)
  clear hx hy ga gb
  by_cases h1 : p % 4 = 0
  · have m1 : p.tmod 4 = 0 := (tmod4 p).2 h1
    obtain ⟨r, hr⟩ : ∃ r, q.tmod 4 = r := ⟨_, rfl⟩
    have t2 : (r != 0) = true := bne_iff_ne.2 (fun h => hn ⟨h1, (tmod4 q).1 (hr.trans h)⟩)
    clear hn h1
    go_enter Try.func66, Try.ntmps66
    go_wp2_with fail
    refine (cp.out _).mono ?_
    rintro e v1 ⟨rfl, hw⟩; subst v1
    go_wp2_with fail
    go_ret2
    exact ⟨rfl, rfl⟩
  · obtain ⟨r, hr⟩ : ∃ r, p.tmod 4 = r := ⟨_, rfl⟩
    have t2 : (r != 0) = true := bne_iff_ne.2 (fun h => h1 ((tmod4 p).1 (hr.trans h)))
    clear hn h1
    go_enter Try.func66, Try.ntmps66
    go_wp2_with fail
    refine (cp.out _).mono ?_
    rintro e v1 ⟨rfl, hw⟩; subst v1
    go_wp2_with fail
    go_ret2
    exact ⟨rfl, rfl⟩

end Go.Proofs.Ytcejbkmmiklhbaa
