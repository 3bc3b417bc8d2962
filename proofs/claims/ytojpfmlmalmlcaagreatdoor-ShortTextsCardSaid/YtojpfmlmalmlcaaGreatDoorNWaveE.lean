/-
  wave's digits and values: which lists are folded, and the values of each part of two numbers. No condition beyond what each contract says.
  wave's values: the values of each part of two numbers. No condition beyond what each contract says.
-/
import Derived.Test.YtojpfmlmalmlcaaGreatDoorNWaveA
import Derived.StillTailTactics
namespace Go.Proofs.YtojpfmlmalmlcaaGreatDoor.G
open Go.RowKit
/-- A list that may be folded. -/
def Dig (xs : List Int) : Prop := xs.length ≤ 256 ∧ ∀ i, i < xs.length → 0 ≤ xs.getD i 0 ∧ xs.getD i 0 ≤ 65535
set_option maxHeartbeats 2000000 in
theorem digits_any (A : Option Addr) (n c : Nat) (xs : List Int) (w : World) (h : Ints w (· < w.heap.size) A n xs) (hn : n ≤ 9223372036854775807) (r : Bool) (hr : r = true ↔ Dig xs) :
    Calls Tryz.prog 128 #[.slice A n c] w fun e w' => e = .returned (.bool r) ∧ w' = w := by
  have H := Lib.hid h
  have HR := Lib.hid hr
  clear hr h
  by_cases h256 : n ≤ 256
  · have d0 : decide ((256 : Int) < (n : Int)) = false := by simp; omega
    have d0n : decide (256 < n) = false := by simp; omega
    go_enter Tryz.func128, Tryz.ntmps128
    go_wp2_with fail
    go_loopw [10] (fun i wr => wr = w ∧ ∃ k : Nat, k ≤ n ∧ i = .int .i64 (k : Int) ∧ ∀ j, j < k → 0 ≤ xs.getD j 0 ∧ xs.getD j 0 ≤ 65535) (fun i _ => n - (intOf i).toNat)
    case atStart => exact ⟨rfl, 0, by omega, rfl, fun j hj => absurd hj (by omega)⟩
    case round =>
      obtain ⟨rfl, k, hk, rfl, hal⟩ := hrel
      have HAl := Lib.hid hal
      clear hal
      by_cases hlt : k < n
      · have d1 : decide ((k : Int) < (n : Int)) = true := by simp; omega
        have d1n : decide (k < n) = true := by simp; omega
        have i0 : (0 : Int) ≤ (k : Int) := by omega
        have i1 : (k : Int) < (n : Int) := by omega
        obtain ⟨b0, o, rfl, m1, hc⟩ := H.out.2 (by omega)
        have x1 := hc k hlt
        clear hc m1
        have HA2 : Hid (0 ≤ xs.getD k 0 ∧ xs.getD k 0 ≤ 65535 → ∀ j, j < k + 1 → 0 ≤ xs.getD j 0 ∧ xs.getD j 0 ≤ 65535) := fun hh j hj => by
          by_cases hjk : j < k
          · exact HAl.out j hjk
          · obtain rfl : j = k := by omega
            exact hh
        have HF : Hid (¬ (0 ≤ xs.getD k 0 ∧ xs.getD k 0 ≤ 65535) → r = false) := fun hh => by
          cases hr : r with
          | false => rfl
          | true => exact absurd ((HR.out.1 hr).2 k (by rw [H.out.1]; exact hlt)) hh
        generalize xs.getD k 0 = x at x1 HA2 HF
        clear HAl
        by_cases h0 : x < 0
        · have e0 : decide (x < 0) = true := by simpa using h0
          have HE := Lib.hid (HF.out (by omega))
          clear HF HA2 h0
          go_wp2_with fail
          go_ret
          exact ⟨ret_bool HE.out.symm, rfl⟩
        · have e0 : decide (x < 0) = false := by simpa using h0
          by_cases h1 : 65535 < x
          · have e1 : decide (65535 < x) = true := by simpa using h1
            have HE := Lib.hid (HF.out (by omega))
            clear HF HA2 h0 h1
            go_wp2_with fail
            go_ret
            exact ⟨ret_bool HE.out.symm, rfl⟩
          · have e1 : decide (65535 < x) = false := by simpa using h1
            have HE := Lib.hid (HA2.out (by omega))
            clear HF HA2 h0 h1
            go_wp2_with fail
            go_roundw
            case rel => exact ⟨by trivial, k + 1, by omega, ret_val (by omega), HE.out⟩
            case measure => simp [intOf]; omega
      · obtain rfl : k = n := by omega
        have d1 : decide ((k : Int) < (k : Int)) = false := by simp
        have HE : Hid (r = true) := HR.out.2 ⟨by rw [H.out.1]; exact h256, fun i hi => HAl.out i (by rw [H.out.1] at hi; exact hi)⟩
        clear HAl
        go_wp2_with fail
        go_ret
        exact ⟨ret_bool HE.out.symm, rfl⟩
  · have d0 : decide ((256 : Int) < (n : Int)) = true := by simp; omega
    have d0n : decide (256 < n) = true := by simp; omega
    have HE : Hid (r = false) := show _ = _ by
      cases hr : r with
      | false => rfl
      | true => exact absurd (HR.out.1 hr).1 (by rw [H.out.1]; exact h256)
    go_enter Tryz.func128, Tryz.ntmps128
    go_wp2_with fail
    go_ret
    exact ⟨ret_bool HE.out.symm, rfl⟩
end Go.Proofs.YtojpfmlmalmlcaaGreatDoor.G
namespace Go.Proofs.YtojpfmlmalmlcaaGreatDoor.G
open Go.RowKit
/-- The numbers of a part. -/
def pt (xs : List Int) (i : Nat) : Nat → Int := fun r => if r < 2 then xs.getD (2 * i + r) 0 else 0
/-- Rows of four numbers. -/
def Quads (zs : List (Nat × Nat)) (m : Nat) (p q : Nat → Nat → Int) : Prop := zs.length = m * 4 ∧ ∀ i k, i < m → k < 4 → Whole (zs.getD (i * 4 + k) (0, 0)).1 (p i k) ∧ Whole (zs.getD (i * 4 + k) (0, 0)).2 (q i k)
/-- The parts, behind the first i numbers. -/
def partAt (xs : List Int) (i c : Nat) : Nat × Nat := if c % 4 < 2 ∧ 2 * (c / 4) + c % 4 < i then (floatOfInt .f64 (xs.getD (2 * (c / 4) + c % 4) 0), floatOfInt .f64 0) else (0, 0)
def parts (xs : List Int) (N i : Nat) : List (Nat × Nat) := (List.range (N * 4)).map (partAt xs i)
theorem parts_length (xs : List Int) (N i : Nat) : (parts xs N i).length = N * 4 := by simp [parts]
theorem parts_get (xs : List Int) (N i c : Nat) (h : c < N * 4) : (parts xs N i).getD c (0, 0) = partAt xs i c := by simp [parts, List.getD, h]
theorem part_place (i : Nat) : (i / 2 * 4 + i % 2) % 4 = i % 2 ∧ (i / 2 * 4 + i % 2) / 4 = i / 2 := by omega
theorem parts_next (xs : List Int) (N i : Nat) : (cx (parts xs N i)).set (i / 2 * 4 + i % 2) (.complex .f64 (floatOfInt .f64 (xs.getD i 0)) (floatOfInt .f64 0)) = cx (parts xs N (i + 1)) := by
  obtain ⟨h1, h2⟩ := part_place i
  apply List.ext_getElem
  · simp [cx, parts]
  · intro c c1 c2
    simp only [cx, parts, List.length_map, List.length_range] at c2
    rw [List.getElem_set]
    by_cases hc : i / 2 * 4 + i % 2 = c
    · rw [if_pos hc]
      subst hc
      simp only [cx, parts, List.getElem_map, List.getElem_range, partAt, h1, h2]
      have e : 2 * (i / 2) + i % 2 = i := by omega
      rw [e, if_pos (by omega)]
    · rw [if_neg hc]
      simp only [cx, parts, List.getElem_map, List.getElem_range, partAt]
      have : (c % 4 < 2 ∧ 2 * (c / 4) + c % 4 < i) ↔ (c % 4 < 2 ∧ 2 * (c / 4) + c % 4 < i + 1) := by
        constructor
        · intro h; omega
        · rintro ⟨h, k⟩
          refine ⟨h, ?_⟩
          by_cases e : 2 * (c / 4) + c % 4 = i
          · exfalso; apply hc; omega
          · omega
      simp only [this]
theorem parts_cell (xs : List Int) (N i : Nat) (hi : i / 2 < N) : (cx (parts xs N i))[i / 2 * 4 + i % 2]? = some (.complex .f64 0 0) := by
  obtain ⟨h1, h2⟩ := part_place i
  rw [cx_get _ _ (by rw [parts_length]; omega), parts_get _ _ _ _ (by omega)]
  unfold partAt
  rw [h1, h2, if_neg (by omega)]
theorem parts_zero (xs : List Int) (N : Nat) : cx (parts xs N 0) = List.replicate (N * 4) (.complex .f64 0 0) := by
  apply List.ext_getElem
  · simp [cx, parts]
  · intro c c1 c2
    simp [cx, parts, partAt]
theorem part_whole (xs : List Int) (hd : Dig xs) (j k : Nat) (hk : k < 4) : Whole (partAt xs xs.length (j * 4 + k)).1 (if k < 2 then pt xs j k else 0) ∧ Whole (partAt xs xs.length (j * 4 + k)).2 0 := by
  have h1 : (j * 4 + k) % 4 = k := by omega
  have h2 : (j * 4 + k) / 4 = j := by omega
  unfold partAt pt
  rw [h1, h2]
  by_cases h : k < 2 ∧ 2 * j + k < xs.length
  · rw [if_pos h, if_pos h.1]
    have := hd.2 (2 * j + k) h.2
    simp only [h.1, if_true]
    exact ⟨whole_of_int _ (by omega), whole_of_int _ (by decide)⟩
  · rw [if_neg h]
    refine ⟨whole_0.cast ?_, whole_0⟩
    by_cases h3 : k < 2
    · rw [if_pos h3, if_pos h3, getD_past (by omega)]
    · rw [if_neg h3]
theorem pt_bound (xs : List Int) (hd : Dig xs) (j r : Nat) : 0 ≤ pt xs j r ∧ pt xs j r ≤ 65535 := by
  unfold pt
  by_cases h : r < 2
  · rw [if_pos h]
    by_cases h2 : 2 * j + r < xs.length
    · exact hd.2 _ h2
    · rw [getD_past (by omega)]; decide
  · rw [if_neg h]; decide
theorem part_fit (xs : List Int) (hd : Dig xs) (j k : Nat) : Fit (if k < 2 then pt xs j k else 0) ∧ Fit 0 := by
  have := pt_bound xs hd j k
  refine ⟨?_, by decide⟩
  unfold Fit
  split <;> omega
/-- Numbers that are put over others, from o on. -/
def overZ (zs : List (Nat × Nat)) (o : Nat) (us : List (Nat × Nat)) : List (Nat × Nat) := match us with
  | [] => zs
  | u :: r => overZ (zs.set o u) (o + 1) r
set_option maxRecDepth 100000 in
theorem put_cx (zs : List (Nat × Nat)) (o : Nat) (us : List (Nat × Nat)) : putOver (cx zs) o (cx us) = cx (overZ zs o us) := by
  induction us generalizing zs o with
  | nil => rfl
  | cons u r ih =>
    show putOver ((cx zs).set o (.complex .f64 u.1 u.2)) (o + 1) (cx r) = cx (overZ (zs.set o u) (o + 1) r)
    rw [← ih (zs.set o u) (o + 1)]
    congr 1
    simp [cx, List.map_set]
theorem over_length (zs : List (Nat × Nat)) (o : Nat) (us : List (Nat × Nat)) : (overZ zs o us).length = zs.length := by
  induction us generalizing zs o with
  | nil => rfl
  | cons u r ih => exact (ih (zs.set o u) (o + 1)).trans (by simp)
theorem over_get (zs us : List (Nat × Nat)) (o c : Nat) (h : o + us.length ≤ zs.length) : (overZ zs o us).getD c (0, 0) = if o ≤ c ∧ c < o + us.length then us.getD (c - o) (0, 0) else zs.getD c (0, 0) := by
  induction us generalizing zs o with
  | nil => simp [overZ]; omega
  | cons u r ih =>
    simp only [List.length_cons] at h
    show (overZ (zs.set o u) (o + 1) r).getD c (0, 0) = _
    rw [ih (zs.set o u) (o + 1) (by simp; omega)]
    simp only [List.length_cons]
    by_cases h1 : o + 1 ≤ c ∧ c < o + 1 + r.length
    · rw [if_pos h1, if_pos (by omega)]
      obtain ⟨d, hd⟩ : ∃ d, c - o = d + 1 := ⟨c - o - 1, by omega⟩
      rw [hd, show c - (o + 1) = d by omega]
      simp [List.getD]
    · rw [if_neg h1]
      by_cases h2 : c = o
      · subst h2
        rw [if_pos (by omega), Nat.sub_self]
        simp [List.getD, show c < zs.length by omega]
      · rw [if_neg (by omega)]
        simp [List.getD, show o ≠ c by omega]
set_option maxRecDepth 100000 in
/-- A slice of so many arrays of four, all 0. -/
theorem make_four (N : Nat) (hN : N ≤ 1000000) (L : List Value) (hL : L = List.replicate (N * 4) (.complex .f64 0 0)) (w : World) : (Instr.makeSlice 149 (.int .i64 (N : Int)) (.int .i64 (N : Int))).run Tryz.prog w = .ok (.slice (some ⟨w.heap.size, 0, none⟩) N N) (w.alloc (.cells L.toArray 164)) := by
  subst hL
  obtain ⟨i, hi, hz, hs, hb⟩ := info_parts (P := Tryz.prog) (e := 164) (z := .agg #[.complex .f64 0 0, .complex .f64 0 0, .complex .f64 0 0, .complex .f64 0 0]) (size := 4) (bytes := 64) (by kernel_rfl)
  have h := run_makeSlice (P := Tryz.prog) w 149 164 i _ Tryz.underlying149 hi hz .i64 .i64 (N : Int) (N : Int) (by omega) (by omega) (by rw [hs]; simp; omega) (by rw [hb]; omega) (by omega)
  rw [h, hs]
  congr 3
  rw [Int.toNat_natCast]
  apply Array.ext
  · simp [madeCells]
  · intro c c1 c2
    simp only [madeCells, Array.getElem_map, Array.getElem_range, Value.cells]
    have e : ∀ k, k < 4 → (#[.complex .f64 0 0, .complex .f64 0 0, .complex .f64 0 0, .complex .f64 0 0] : Array Value)[k]! = .complex .f64 0 0 := fun k hk => by
      rcases lt4 hk with rfl | rfl | rfl | rfl <;> rfl
    rw [show (#[.complex .f64 0 0, .complex .f64 0 0, .complex .f64 0 0, .complex .f64 0 0] : Array Value).size = 4 from rfl, e _ (Nat.mod_lt _ (by decide))]
    simp
/-- The first loop: behind i numbers. -/
def PartsAt (w : World) (g N : Nat) (xs : List Int) (v : Value) (wr : World) : Prop :=
  ∃ i : Nat, i ≤ xs.length ∧ v = .int .i64 (i : Int) ∧ Row wr g 164 (cx (parts xs N i)) ∧ Below w.heap.size w wr
/-- The second loop: behind i parts. -/
def ValuesAt (w : World) (g N : Nat) (xs : List Int) (v : Value) (wr : World) : Prop :=
  ∃ (i : Nat) (zs : List (Nat × Nat)), i ≤ N ∧ v = .int .i64 (i : Int) ∧ Row wr g 164 (cx zs) ∧ Below w.heap.size w wr ∧ zs.length = N * 4 ∧
    (∀ j k, j < i → k < 4 → Whole (zs.getD (j * 4 + k) (0, 0)).1 (vr k (pt xs j)) ∧ Whole (zs.getD (j * 4 + k) (0, 0)).2 (vi k (pt xs j))) ∧
    ∀ c, i * 4 ≤ c → c < N * 4 → zs.getD c (0, 0) = partAt xs xs.length c
set_option maxRecDepth 100000 in
set_option maxHeartbeats 4000000 in
theorem values_any (A : Option Addr) (n c : Nat) (xs : List Int) (w : World) (h : Ints w (· < w.heap.size) A n xs) (hd : Dig xs) :
    Calls Tryz.prog 131 #[.slice A n c] w fun e w' => ∃ g zs, e = .returned (.slice (some ⟨g, 0, none⟩) ((n + 1) / 2) ((n + 1) / 2)) ∧ w.heap.size ≤ g ∧ Row w' g 164 (cx zs) ∧
      Quads zs ((n + 1) / 2) (fun i k => vr k (pt xs i)) (fun i k => vi k (pt xs i)) ∧ Below w.heap.size w w' := by
  have H := Lib.hid h
  have HD := Lib.hid hd
  have hn : n ≤ 256 := by have := hd.1; have := h.1; omega
  have hxl : xs.length = n := h.1
  clear h hd
  obtain ⟨N, hN⟩ : ∃ N, N = (n + 1) / 2 := ⟨_, rfl⟩
  rw [← hN]
  have N1 : N ≤ 1000000 := by omega
  have a3 : ((n : Int) + 2 - 1) / 2 = (N : Int) := by omega
  obtain ⟨L, hL⟩ : ∃ L, L = cx (parts xs N 0) := ⟨_, rfl⟩
  have mk := make_four N N1 L (hL.trans (parts_zero xs N)) w
  rw [← a3] at mk
  have HN := Lib.hid hN
  have HL := Lib.hid hL
  clear hN a3 hL
  go_enter Tryz.func131, Tryz.ntmps131
  go_wp2_with fail
  have R0 : Row (w.alloc (.cells L.toArray 164)) w.heap.size 164 L := Row.new w _ _
  rw [HL.out] at R0
  have B0 : Below w.heap.size w (w.alloc (.cells L.toArray 164)) := (Below.refl _ _).alloc (Nat.le_refl _) _
  rw [HL.out] at B0 ⊢
  generalize w.alloc (.cells (cx (parts xs N 0)).toArray 164) = W at *
  obtain ⟨g, hg⟩ : ∃ g, g = w.heap.size := ⟨_, rfl⟩
  have gb : w.heap.size ≤ g := by omega
  rw [← hg] at R0 ⊢
  have HG := Lib.hid hg
  clear mk hg
  go_loopw [16] (fun v wr => PartsAt w g N xs v wr) (fun v _ => n - (intOf v).toNat)
  case atStart => exact ⟨0, by omega, rfl, R0, B0⟩
  case round =>
    clear R0 B0
    obtain ⟨i, hi, rfl, R1, B1⟩ := hrel
    by_cases hlt : i < n
    · have d1 : decide ((i : Int) < (n : Int)) = true := by simp; omega
      have d1n : decide (i < n) = true := by simp; omega
      obtain ⟨b0, o, rfl, m1, hc⟩ := H.out.2 (by omega)
      have x1 := (B1.cell (p := ⟨b0, o + i, none⟩) m1).trans (hc i hlt)
      have hx := HD.out.2 i (by omega)
      have cO := Lib.hid (of_small (a := xs.getD i 0) (b := 0) ⟨by omega, by omega⟩ ⟨by omega, by omega⟩)
      have iN : i / 2 < N := by have := HN.out; omega
      have R2 := R1.drew.set (i / 2 * 4 + i % 2) (.complex .f64 (floatOfInt .f64 (xs.getD i 0)) (floatOfInt .f64 0))
      rw [parts_next] at R2
      have B2 := B1.drew.setCell (p := ⟨g, i / 2 * 4 + i % 2, none⟩) gb (.complex .f64 (floatOfInt .f64 (xs.getD i 0)) (floatOfInt .f64 0))
      have c4 : wr.drew.cell? ⟨g, i / 2 * 4 + i % 2, none⟩ = some (.complex .f64 0 0) := (R1.drew.cell _).trans (parts_cell xs N i iN)
      have f4 : wr.drew.frozen? ⟨g, i / 2 * 4 + i % 2, none⟩ = false := R1.drew.frozen _
      have st := store_cx ⟨g, i / 2 * 4 + i % 2, none⟩
      have e1 : (i : Int).tdiv 2 = ((i / 2 : Nat) : Int) := (Int.ofNat_tdiv _ _).symm
      have e2 : (i : Int) / 2 = ((i / 2 : Nat) : Int) := by omega
      have e3 : (i : Int).tmod 2 = ((i % 2 : Nat) : Int) := (Int.ofNat_tmod _ _).symm
      have e4 : (i : Int) % 2 = ((i % 2 : Nat) : Int) := by omega
      have i1 : ((i / 2 : Nat) : Int) < (N : Int) := by omega
      have i2 : ((i % 2 : Nat) : Int) < 4 := by omega
      have H2 := Lib.hid R2
      have HB2 := Lib.hid B2
      have HI := Lib.hid hlt
      clear R2 B2 R1 B1 hc m1 hx hlt H HD hi
      generalize xs.getD i 0 = x at *
      generalize i / 2 = I at *
      generalize i % 2 = K at *
      have i3 : (0 : Int) ≤ (I : Int) := by omega
      have i4 : (0 : Int) ≤ (K : Int) := by omega
      have i5 : IntKind.i64.wrap (I : Int) = (I : Int) := IntWalk.i64_in _ (by omega)
      have i6 : wrap64 (I : Int) = (I : Int) := by unfold wrap64; omega
      generalize floatOfInt .f64 x = fx at *
      generalize floatOfInt .f64 0 = f0 at *
      go_wp2_with fail
      go_still_tail 9, (by kernel_rfl)
      still_call (cO.out _)
      still_step
      still_step
      refine wpStill_nil ?_

      change wpList _ _ _ _ _ wr.drew
      generalize wr.drew = wd at *
      clear e1 e2 e3 e4 i1 i2 i3 i4 i5 i6 iN d1 d1n x1 HN HL N1 gb
      go_wp2_with fail
      go_roundw
      case rel => exact ⟨i + 1, by rw [hxl]; exact HI.out, ret_val (by omega), H2.out, HB2.out⟩
      case measure => simp [intOf]; have := HI.out; omega
    · obtain rfl : i = n := by omega
      have d1 : decide ((i : Int) < (i : Int)) = false := by simp
      clear hlt hi
      have HR1 := Lib.hid R1
      have HB1 := Lib.hid B1
      clear R1 B1 H
      go_wp2_with fail
      go_loopw [33] (fun v wr => ValuesAt w g N xs v wr) (fun v _ => N - (intOf v).toNat)
      case atStart => exact ⟨0, parts xs N i, by omega, rfl, HR1.out, HB1.out, parts_length _ _ _, fun j k hj => absurd hj (by omega), fun c _ hc => by rw [hxl]; exact parts_get _ _ _ _ hc⟩
      case round =>
        clear HR1 HB1
        obtain ⟨j, zs, hj, rfl, R, B, hzl, hdone, hrest⟩ := hrel
        by_cases hlt : j < N
        · have d1 : decide ((j : Int) < (N : Int)) = true := by simp; omega
          have d1n : decide (j < N) = true := by simp; omega
          have j0 : (0 : Int) ≤ (j : Int) := by omega
          have j1 : (j : Int) < (N : Int) := by omega
          obtain ⟨Z, hZ⟩ : ∃ Z, Z = (zs.drop (j * 4)).take 4 := ⟨_, rfl⟩
          have hZl : Z.length = 4 := by rw [hZ]; simp [hzl]; omega
          have hZc : cx Z = ((cx zs).drop (j * 4)).take 4 := by rw [hZ]; simp [cx, List.map_take, List.map_drop]
          have hA : Are Z (fun k => if k < 2 then pt xs j k else 0) (fun _ => 0) := by
            refine ⟨hZl, fun k hk => ?_⟩
            have e : Z.getD k (0, 0) = partAt xs xs.length (j * 4 + k) := by
              rw [← hrest (j * 4 + k) (by omega) (by omega), hZ]
              simp [List.getD, hk, List.getElem?_drop]
            rw [e]
            exact part_whole xs HD.out j k hk
          have hFit : ∀ k, k < 4 → Fit ((fun k => if k < 2 then pt xs j k else 0) k) ∧ Fit ((fun _ : Nat => (0 : Int)) k) := fun k _ => part_fit xs HD.out j k
          obtain ⟨us, hus, cF⟩ := four_any hA hFit
          have H1 : Hid (wr.rangeAt g (j * 4) (cx Z)) := by rw [hZc]; exact R.range (j * 4) 4
          have hsz := Lib.hid (size_four (cx Z) (by rw [cx_length, hZl]))
          have hsm : Hid ((Tryz.prog.info? 164).map (·.size) = some (cx Z).toArray.size) := by show _ = _; rw [List.size_toArray]; exact hsz.out
          have one := Lib.hid (all_oneCell_toArray (cx_one Z))
          have N1 : Row (wr.alloc (Obj.cells #[.complex .f64 0 0, .complex .f64 0 0, .complex .f64 0 0, .complex .f64 0 0] 164)) wr.heap.size 164 (cx noughts) := Row.new wr _ (cx noughts)
          have th : Hid ((wr.alloc (Obj.cells #[.complex .f64 0 0, .complex .f64 0 0, .complex .f64 0 0, .complex .f64 0 0] 164)).there wr.heap.size 0 (cx Z).toArray.size) := N1.there 0 _ (by rw [List.size_toArray, cx_length, hZl]; decide)
          have N2 : Row ((wr.alloc (Obj.cells #[.complex .f64 0 0, .complex .f64 0 0, .complex .f64 0 0, .complex .f64 0 0] 164)).setCells wr.heap.size 0 (cx Z).toArray.toList) wr.heap.size 164 (cx Z) := put_all (by rw [cx_length, hZl]) N1
          have ne : g ≠ wr.heap.size := by have := R.lt; omega
          have R2 : Row ((wr.alloc (Obj.cells #[.complex .f64 0 0, .complex .f64 0 0, .complex .f64 0 0, .complex .f64 0 0] 164)).setCells wr.heap.size 0 (cx Z).toArray.toList) g 164 (cx zs) := (R.past _).puts_other ne 0 _
          have B2 := below_puts (b := wr.heap.size) (B.alloc B.size (Obj.cells #[.complex .f64 0 0, .complex .f64 0 0, .complex .f64 0 0, .complex .f64 0 0] 164)) B.size 0 (cx Z).toArray.toList
          have H2 := Lib.hid N2.all
          have HR2 := Lib.hid R2
          have HB2 := Lib.hid B2
          have CF := Lib.hid cF
          have HUS := Lib.hid hus
          have HDo := Lib.hid hdone
          have HRe := Lib.hid hrest
          have HZL := Lib.hid hzl
          clear hdone hrest hzl hA hFit cF hus N1 N2 R2 B2 R B hZ hZc ne hZl
          generalize cx Z = Q at *
          go_wp2_with (first | (refine wpList_load_mid rfl 164 (.tmp 36) rfl g (j * 4) rfl Q _ H1.out Tryz.underlying164 rfl hsz.out ?_) | (refine wpList_store_mid rfl 164 (.tmp 7) (.tmp 37) rfl wr.heap.size 0 Q.toArray rfl rfl th.out hsm.out one.out ?_) | (refine wpList_load_mid rfl 164 (.tmp 7) rfl wr.heap.size 0 rfl Q _ H2.out Tryz.underlying164 rfl hsz.out ?_))
          refine (CF.out _).mono ?_
          rintro e w3 ⟨rfl, B3⟩
          have R3 := HR2.out.keep B3
          have B4 := HB2.out.trans (B3.mono HB2.out.size)
          have hul := HUS.out.1
          have hj4 : j * 4 + 4 ≤ zs.length := by rw [HZL.out]; omega
          have th3 : Hid (w3.there g (j * 4) (cx us).toArray.size) := R3.there _ _ (by rw [List.size_toArray, cx_length, cx_length, hul]; exact hj4)
          have hs3 : Hid ((Tryz.prog.info? 164).map (·.size) = some (cx us).toArray.size) := by show _ = _; rw [List.size_toArray]; exact size_four _ (by rw [cx_length, hul])
          have one3 := Lib.hid (all_oneCell_toArray (cx_one us))
          have R5 := R3.puts (j * 4) (cx us)
          rw [put_cx] at R5
          have B5 := below_puts B4 gb (j * 4) (cx us)
          have HR5 := Lib.hid R5
          have HB5 := Lib.hid B5
          have HFin : Hid ((overZ zs (j * 4) us).length = N * 4 ∧
            (∀ i k, i < j + 1 → k < 4 → Whole ((overZ zs (j * 4) us).getD (i * 4 + k) (0, 0)).1 (vr k (pt xs i)) ∧ Whole ((overZ zs (j * 4) us).getD (i * 4 + k) (0, 0)).2 (vi k (pt xs i))) ∧
            ∀ c, (j + 1) * 4 ≤ c → c < N * 4 → (overZ zs (j * 4) us).getD c (0, 0) = partAt xs xs.length c) := by
            refine ⟨by rw [over_length]; exact HZL.out, fun i k hi hk => ?_, fun c h1 h2 => ?_⟩
            · rw [over_get zs us (j * 4) _ (by rw [hul]; exact hj4), hul]
              by_cases hij : i < j
              · rw [if_neg (by omega)]
                exact HDo.out i k hij hk
              · obtain rfl : i = j := by omega
                rw [if_pos (by omega), show i * 4 + k - i * 4 = k by omega]
                have h1 := HUS.out.2 k hk
                obtain ⟨v1, v2⟩ := value_tr (c := pt xs i) (by simp [pt]) hk
                exact ⟨h1.1.cast v1, h1.2.cast v2⟩
            · rw [over_get zs us (j * 4) _ (by rw [hul]; exact hj4), hul, if_neg (by omega)]
              exact HRe.out c (by omega) h2
          clear R3 B4 R5 B5 B3 HR2 HB2 H1 H2 th CF hsz hsm one HUS HDo HRe HZL hj4
          generalize overZ zs (j * 4) us = zs2 at *
          generalize cx us = M at *
          have HJ := Lib.hid hlt
          go_wp2_with (first | (refine wpList_store_mid rfl 164 (.tmp 42) (.tmp 41) rfl g (j * 4) M.toArray rfl rfl th3.out hs3.out one3.out ?_))
          go_roundw
          case rel => exact ⟨j + 1, zs2, HJ.out, ret_val (by omega), HR5.out, HB5.out, HFin.out.1, HFin.out.2.1, HFin.out.2.2⟩
          case measure => simp [intOf]; have := HJ.out; omega
        · obtain rfl : j = N := by omega
          have d1 : decide ((j : Int) < (j : Int)) = false := by simp
          have HFin : Hid (Quads zs j (fun i k => vr k (pt xs i)) (fun i k => vi k (pt xs i))) := ⟨hzl, hdone⟩
          have HR := Lib.hid R
          have HB := Lib.hid B
          clear R B hzl hdone hrest hlt hj
          go_wp2_with fail
          go_ret
          exact ⟨g, zs, rfl, gb, HR.out, HFin.out, HB.out⟩
end Go.Proofs.YtojpfmlmalmlcaaGreatDoor.G
