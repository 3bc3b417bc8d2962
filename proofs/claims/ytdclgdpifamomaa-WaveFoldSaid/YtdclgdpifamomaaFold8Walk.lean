/-
  The walk of the law WaveFold: for all lists that came in. No condition.
-/
import Derived.Test.YtdclgdpifamomaaLaws8Walk
import Derived.StillTailTactics
namespace Go.Proofs.Ytdclgdpifamomaa
open Go.RowKit

/-- What the law asks of the first i numbers, behind r. -/
def dt (r : Bool) (xs : List Int) (i : Nat) : Bool := r && decide (∀ j, j < i → 0 ≤ xs.getD j 0 ∧ xs.getD j 0 ≤ 65535)
theorem dt_zero (r : Bool) (xs : List Int) : dt r xs 0 = r := by
  unfold dt
  rw [decide_eq_true (fun j hj => absurd hj (by omega)), Bool.and_true]
theorem dt_next (r : Bool) (xs : List Int) (i : Nat) : dt r xs (i + 1) = (dt r xs i && (decide (0 ≤ xs.getD i 0) && decide (xs.getD i 0 ≤ 65535))) := by
  unfold dt
  rw [Bool.and_assoc]
  congr 1
  rw [Bool.eq_iff_iff]
  simp only [decide_eq_true_eq, Bool.and_eq_true]
  constructor
  · intro h
    exact ⟨fun j hj => h j (by omega), h i (by omega)⟩
  · rintro ⟨h, h1⟩ j hj
    by_cases e : j = i
    · subst e; exact h1
    · exact h j (by omega)
theorem dt_all {xs ys : List Int} {n m : Nat} (hx : xs.length = n) (hy : ys.length = m) : dt (dt (decide (n ≤ 256 ∧ m ≤ 256)) xs n) ys m = true ↔ Dig xs ∧ Dig ys := by
  unfold dt Dig
  simp only [Bool.and_eq_true, decide_eq_true_eq, hx, hy]
  constructor
  · rintro ⟨⟨⟨h1, h2⟩, h3⟩, h4⟩; exact ⟨⟨h1, h3⟩, h2, h4⟩
  · rintro ⟨⟨h1, h3⟩, h2, h4⟩; exact ⟨⟨⟨h1, h2⟩, h3⟩, h4⟩

/-- The law's own product, behind i rounds and j steps. -/
def lay2 (l m : Nat) (xs ys : List Int) (i j : Nat) : List Int := (List.range l).map (laid (fun i j => i + j) m i j (fun i j => xs.getD i 0 * ys.getD j 0))
theorem lay2_length (l m : Nat) (xs ys : List Int) (i j : Nat) : (lay2 l m xs ys i j).length = l := by simp [lay2]
theorem lay2_get (l m : Nat) (xs ys : List Int) (i j t : Nat) (h : t < l) : (lay2 l m xs ys i j).getD t 0 = laid (fun i j => i + j) m i j (fun i j => xs.getD i 0 * ys.getD j 0) t := by simp [lay2, List.getD, h]
theorem lay2_zero (l m : Nat) (xs ys : List Int) : lay2 l m xs ys 0 0 = List.replicate l 0 := by
  apply List.ext_getElem
  · simp [lay2]
  · intro t h1 h2
    simp [lay2, laid_first]
theorem lay2_round (l m : Nat) (xs ys : List Int) (i : Nat) : lay2 l m xs ys i m = lay2 l m xs ys (i + 1) 0 := by
  unfold lay2
  congr 1
  funext t
  rw [laid_round]
theorem lay2_next (l m : Nat) (xs ys : List Int) (i j s : Nat) (hs : s = i + j) : (intCells (lay2 l m xs ys i j)).set s (.int .i64 ((lay2 l m xs ys i j).getD s 0 + xs.getD i 0 * ys.getD j 0)) = intCells (lay2 l m xs ys i (j + 1)) := by
  subst hs
  apply List.ext_getElem
  · simp [lay2, intCells]
  · intro t h1 h2
    simp only [lay2, intCells, List.length_map, List.length_range] at h2
    rw [List.getElem_set]
    by_cases h : i + j = t
    · subst h
      rw [if_pos rfl]
      simp only [intCells, List.getElem_map]
      rw [lay2_get _ _ _ _ _ _ _ h2]
      simp only [lay2, List.getElem_map, List.getElem_range]
      rw [laid_step, if_pos rfl]
    · rw [if_neg h]
      simp only [intCells, lay2, List.getElem_map, List.getElem_range]
      rw [laid_step, if_neg h, Int.add_zero]
theorem lay2_bound {l m : Nat} {xs ys : List Int} (hx : Dig xs) (hy : Dig ys) {i j : Nat} (hi : i ≤ 256) (hj : j ≤ 256) (hm : m ≤ 256) (t : Nat) (ht : t < l) : 0 ≤ (lay2 l m xs ys i j).getD t 0 ∧ (lay2 l m xs ys i j).getD t 0 ≤ 282565864915200 := by
  rw [lay2_get _ _ _ _ _ _ _ ht]
  have h := laid_bound (s := fun i j => i + j) (M := m) (I := i) (J := j) (t := t) (B := 4294836225) (by decide) (fun i j => prod_bound (dig_get hx i) (dig_get hy j))
  refine ⟨h.1, Int.le_trans h.2 ?_⟩
  have h2 : i * m ≤ 256 * 256 := Nat.mul_le_mul hi hm
  have h3 : ((i * m + j : Nat) : Int) ≤ 65792 := by omega
  generalize ((i * m + j : Nat) : Int) = z at h3
  omega
theorem lay2_all {xs ys : List Int} {n m : Nat} (hx : xs.length = n) (hy : ys.length = m) (hn : 0 < n) (hm : 0 < m) : lay2 (n + m - 1) m xs ys n 0 = foldL xs ys := by
  refine foldL_of (by omega) (by omega) (by rw [lay2_length, hx, hy]) (fun t ht => ?_)
  rw [lay2_length] at ht
  rw [lay2_get _ _ _ _ _ _ _ ht, laid_all, conv, hx, hy]

theorem wrap_next {b : Nat} (h : b < 1000000) : wrap64 ((b : Int) + 1) = (b : Int) + 1 := by unfold wrap64; omega
theorem step_nums {x y o p v : Int} (hp : p = x * y) (hv : v = o + p) (pb : 0 ≤ p ∧ p ≤ 4294836225) (bd : 0 ≤ o ∧ o ≤ 282565864915200) :
    IntKind.i64.wrap (x * y) = p ∧ wrap64 (x * y) = p ∧ IntKind.i64.wrap (o + p) = v ∧ wrap64 (o + p) = v := by
  rw [← hp, ← hv]
  exact ⟨IntWalk.i64_in _ (by omega), by unfold wrap64; omega, IntWalk.i64_in _ (by omega), by unfold wrap64; omega⟩
theorem place_nums {a b s : Nat} (hs : s = a + b) (ha : a ≤ 256) (hb : b ≤ 256) : IntKind.i64.wrap ((a : Int) + (b : Int)) = (s : Int) ∧ wrap64 ((a : Int) + (b : Int)) = (s : Int) := by
  have e : (a : Int) + (b : Int) = (s : Int) := by omega
  rw [e]
  exact ⟨IntWalk.i64_in _ (by omega), by unfold wrap64; omega⟩

/-- The law's loops. -/
def OkAt (W : World) (r : Bool) (xs : List Int) (v5 v6 : Value) (wr : World) : Prop :=
  wr = W ∧ ∃ i : Nat, i ≤ xs.length ∧ v5 = .bool (dt r xs i) ∧ v6 = .int .i64 (i : Int)
def WantI (W : World) (g l m n : Nat) (xs ys : List Int) (v : Value) (wr : World) : Prop :=
  ∃ i : Nat, i ≤ n ∧ v = .int .i64 (i : Int) ∧ Row wr g 3 (intCells (lay2 l m xs ys i 0)) ∧ Below W.heap.size W wr
def WantJ (W : World) (g l m i : Nat) (xs ys : List Int) (v : Value) (wr : World) : Prop :=
  ∃ j : Nat, j ≤ m ∧ v = .int .i64 (j : Int) ∧ Row wr g 3 (intCells (lay2 l m xs ys i j)) ∧ Below W.heap.size W wr

set_option maxHeartbeats 16000000 in
set_option maxRecDepth 100000 in
theorem waveFold_main (A : Option Addr) (n c : Nat) (xs : List Int) (B : Option Addr) (m d : Nat) (ys : List Int) (w : World)
    (h1 : Ints w (· < w.heap.size) A n xs) (h2 : Ints w (· < w.heap.size) B m ys) (n3 : n ≤ 256) (m3 : m ≤ 256) :
    Calls Try.prog 6 #[.slice A n c, .slice B m d] w fun e w' => e = .returned (.bool true) ∧ Below w.heap.size w w' := by
  have nx := Lib.hid h1.1; have ny := Lib.hid h2.1
  have HDig := Lib.hid (dt_all (n := n) (m := m) h1.1 h2.1)
  have d0 : decide ((300 : Int) < (n : Int)) = false := by simp; omega
  have d1 : decide ((300 : Int) < (m : Int)) = false := by simp; omega
  have H1 := Lib.hid h1; have H2 := Lib.hid h2
  rw [show decide (n ≤ 256 ∧ m ≤ 256) = true from decide_eq_true ⟨n3, m3⟩] at HDig
  clear h1 h2
  go_enter Try.func6, Try.ntmps6
  go_wp2_with fail
  refine (awake_any w).mono ?_
  rintro e w1 ⟨rfl, B1⟩
  have J1 := Lib.hid (H1.out.below B1); have J2 := Lib.hid (H2.out.below B1); have HB1 := Lib.hid B1
  clear B1 H1 H2
  have d2 : decide ((n : Int) ≤ 256) = true := by simp; omega
  have d3 : decide ((m : Int) ≤ 256) = true := by simp; omega
  go_wp2_with fail
  go_loopw [5, 6] (fun v5 v wr => OkAt w1 true xs v5 v wr) (fun _ v _ => n - (intOf v).toNat)
  case atStart => exact ⟨rfl, 0, by omega, by rw [dt_zero], rfl⟩
  case round =>
    obtain ⟨hwr, i, hi, rfl, rfl⟩ := hrel
    subst wr
    rw [nx.out] at hi
    by_cases hlt : i < n
    · as_aux_lemma =>
        have t1 : decide ((i : Int) < (n : Int)) = true := by simp; omega
        have t1n : decide (i < n) = true := by simp; omega
        obtain ⟨b0, o, rfl, q1, hc⟩ := J1.out.2 (by omega)
        have x1 := hc i hlt
        have HDN := Lib.hid (dt_next true xs i)
        have j0 : (0 : Int) ≤ (i : Int) := by omega
        have jn : (i : Int) < (n : Int) := by omega
        have HI := Lib.hid hlt
        generalize xs.getD i 0 = x at x1 HDN
        clear hc q1 hi
        cases hb : dt true xs i with
        | false =>
          have HN : Hid (dt true xs (i + 1) = false) := show _ = _ by rw [HDN.out, hb]; rfl
          clear HDN hb
          go_wp2_with fail
          go_roundw
          case rel => exact ⟨by trivial, i + 1, by rw [nx.out]; exact HI.out, by rw [HN.out], ret_val (by have := HI.out; omega)⟩
          case measure => simp [intOf]; have := HI.out; omega
        | true =>
          by_cases h0 : 0 ≤ x
          · have p0 : decide (0 ≤ x) = true := by simpa using h0
            by_cases h1 : x ≤ 65535
            · have p1 : decide (x ≤ 65535) = true := by simpa using h1
              have HN : Hid (dt true xs (i + 1) = true) := show _ = _ by rw [HDN.out, hb, p0, p1]; rfl
              clear HDN hb h0 h1
              go_wp2_with fail
              go_roundw
              case rel => exact ⟨by trivial, i + 1, by rw [nx.out]; exact HI.out, by rw [HN.out], ret_val (by have := HI.out; omega)⟩
              case measure => simp [intOf]; have := HI.out; omega
            · have p1 : decide (x ≤ 65535) = false := by simpa using h1
              have HN : Hid (dt true xs (i + 1) = false) := show _ = _ by rw [HDN.out, p1, Bool.and_false, Bool.and_false]
              clear HDN hb h0 h1
              go_wp2_with fail
              go_roundw
              case rel => exact ⟨by trivial, i + 1, by rw [nx.out]; exact HI.out, by rw [HN.out], ret_val (by have := HI.out; omega)⟩
              case measure => simp [intOf]; have := HI.out; omega
          · have p0 : decide (0 ≤ x) = false := by simpa using h0
            have HN : Hid (dt true xs (i + 1) = false) := show _ = _ by rw [HDN.out, p0, Bool.false_and, Bool.and_false]
            clear HDN hb h0
            go_wp2_with fail
            go_roundw
            case rel => exact ⟨by trivial, i + 1, by rw [nx.out]; exact HI.out, by rw [HN.out], ret_val (by have := HI.out; omega)⟩
            case measure => simp [intOf]; have := HI.out; omega
    · have hin : i = n := by omega
      subst i
      have t1 : decide ((n : Int) < (n : Int)) = false := by simp
      clear hlt hi
      go_wp2_with fail
      go_loopw [5, 7] (fun v5 v wr => OkAt w1 (dt true xs n) ys v5 v wr) (fun _ v _ => m - (intOf v).toNat)
      case atStart => exact ⟨rfl, 0, by omega, by rw [dt_zero], rfl⟩
      case round =>
        obtain ⟨hwr, i, hi, rfl, rfl⟩ := hrel
        subst wr
        rw [ny.out] at hi
        by_cases hlt : i < m
        · as_aux_lemma =>
            have t1 : decide ((i : Int) < (m : Int)) = true := by simp; omega
            have t1n : decide (i < m) = true := by simp; omega
            obtain ⟨b0, o, rfl, q1, hc⟩ := J2.out.2 (by omega)
            have x1 := hc i hlt
            have HDN := Lib.hid (dt_next (dt true xs n) ys i)
            have j0 : (0 : Int) ≤ (i : Int) := by omega
            have jn : (i : Int) < (m : Int) := by omega
            have HI := Lib.hid hlt
            generalize ys.getD i 0 = x at x1 HDN
            clear hc q1 hi
            cases hb : dt (dt true xs n) ys i with
            | false =>
              have HN : Hid (dt (dt true xs n) ys (i + 1) = false) := show _ = _ by rw [HDN.out, hb]; rfl
              clear HDN hb
              go_wp2_with fail
              go_roundw
              case rel => exact ⟨by trivial, i + 1, by rw [ny.out]; exact HI.out, by rw [HN.out], ret_val (by have := HI.out; omega)⟩
              case measure => simp [intOf]; have := HI.out; omega
            | true =>
              by_cases h0 : 0 ≤ x
              · have p0 : decide (0 ≤ x) = true := by simpa using h0
                by_cases h1 : x ≤ 65535
                · have p1 : decide (x ≤ 65535) = true := by simpa using h1
                  have HN : Hid (dt (dt true xs n) ys (i + 1) = true) := show _ = _ by rw [HDN.out, hb, p0, p1]; rfl
                  clear HDN hb h0 h1
                  go_wp2_with fail
                  go_roundw
                  case rel => exact ⟨by trivial, i + 1, by rw [ny.out]; exact HI.out, by rw [HN.out], ret_val (by have := HI.out; omega)⟩
                  case measure => simp [intOf]; have := HI.out; omega
                · have p1 : decide (x ≤ 65535) = false := by simpa using h1
                  have HN : Hid (dt (dt true xs n) ys (i + 1) = false) := show _ = _ by rw [HDN.out, p1, Bool.and_false, Bool.and_false]
                  clear HDN hb h0 h1
                  go_wp2_with fail
                  go_roundw
                  case rel => exact ⟨by trivial, i + 1, by rw [ny.out]; exact HI.out, by rw [HN.out], ret_val (by have := HI.out; omega)⟩
                  case measure => simp [intOf]; have := HI.out; omega
              · have p0 : decide (0 ≤ x) = false := by simpa using h0
                have HN : Hid (dt (dt true xs n) ys (i + 1) = false) := show _ = _ by rw [HDN.out, p0, Bool.false_and, Bool.and_false]
                clear HDN hb h0
                go_wp2_with fail
                go_roundw
                case rel => exact ⟨by trivial, i + 1, by rw [ny.out]; exact HI.out, by rw [HN.out], ret_val (by have := HI.out; omega)⟩
                case measure => simp [intOf]; have := HI.out; omega
        · obtain rfl : i = m := by omega
          have t1 : decide ((i : Int) < (i : Int)) = false := by simp
          clear hlt hi
          have HOK : Hid (dt (dt true xs n) ys i = true ↔ Dig xs ∧ Dig ys) := HDig.out
          have cF := Lib.hid (fold_any A n c xs B i d ys w1 J1.out J2.out (by omega) (by omega) (dt (dt true xs n) ys i) HOK.out)
          clear HDig
          generalize dt (dt true xs n) ys i = ok at *
          go_wp2_with fail
          refine cF.out.mono ?_
          rintro e w2 ⟨R, k, rfl, JR, B2⟩
          have HJR := Lib.hid JR
          have K1 := Lib.hid (J1.out.below B2); have K2 := Lib.hid (J2.out.below B2); have HB2 := Lib.hid (HB1.out.trans (B2.mono HB1.out.size))
          clear JR B2 cF J1 J2 HB1
          cases hok : ok with
          | false =>
            subst hok
            obtain rfl : k = 0 := by have := HJR.out.1; simpa using this.symm
            clear HJR K1 K2
            go_wp2_with fail
            go_ret
            exact ⟨rfl, HB2.out⟩
          | true =>
            subst hok
            have hdg := HOK.out.1 rfl
            by_cases hne : 0 < n ∧ 0 < i
            · as_aux_lemma =>
                obtain ⟨hn0, hm0⟩ := hne
                have e0 : ((n : Int) == 0) = false := by simp; omega
                have e0n : (n == 0) = false := by simp; omega
                have e1 : ((i : Int) == 0) = false := by simp; omega
                have e1n : (i == 0) = false := by simp; omega
                have n256 : n ≤ 256 := by have := hdg.1.1; have := nx.out; omega
                have m256 : i ≤ 256 := by have := hdg.2.1; have := ny.out; omega
                have HALL := Lib.hid (lay2_all nx.out ny.out hn0 hm0)
                have fl := foldL_length xs ys (by have := nx.out; omega) (by have := ny.out; omega)
                rw [nx.out, ny.out] at fl
                obtain ⟨l, hl⟩ : ∃ l, l = n + i - 1 := ⟨_, rfl⟩
                rw [← hl] at HALL fl
                have hl' : (n : Int) + (i : Int) - 1 = (l : Int) := by omega
                obtain ⟨L, hL⟩ : ∃ L, L = intCells (lay2 l i xs ys 0 0) := ⟨_, rfl⟩
                have mk := make_ints l (by omega) L (by rw [hL, lay2_zero]) w2
                rw [← hl'] at mk
                have hjr := HJR.out
                simp only [if_true] at hjr
                obtain rfl : k = l := by have := hjr.1; omega
                have HJ := Lib.hid hjr
                have HD := Lib.hid hdg
                have HL := Lib.hid hL; have HLk := Lib.hid hl
                clear HJR hjr hdg hL hl hl' fl
                go_wp2_with fail
                have R0 : Row (w2.alloc (.cells L.toArray 3)) w2.heap.size 3 L := Row.new w2 _ _
                have B0 : Below w2.heap.size w2 (w2.alloc (.cells L.toArray 3)) := (Below.refl _ _).alloc (Nat.le_refl _) _
                rw [HL.out] at R0 B0 ⊢
                generalize w2.alloc (.cells (intCells (lay2 k i xs ys 0 0)).toArray 3) = W at *
                obtain ⟨g, hg⟩ : ∃ g, g = w2.heap.size := ⟨_, rfl⟩
                have gl : w2.heap.size ≤ g := by omega
                rw [← hg] at R0 ⊢
                have HR0' := Lib.hid R0; have HB0 := Lib.hid B0; have HGL := Lib.hid gl
                clear mk hg R0 B0 gl
                go_loopw [11] (fun v wr => WantI w2 g k i n xs ys v wr) (fun v _ => n - (intOf v).toNat)
                case atStart => exact ⟨0, by omega, rfl, HR0'.out, HB0.out⟩
                case round =>
                  clear HR0' HB0
                  obtain ⟨a, ha, rfl, R1, B1⟩ := hrel
                  have HR1 := Lib.hid R1; have HB1 := Lib.hid B1
                  clear R1 B1
                  by_cases hlt : a < n
                  · have t2 : decide ((a : Int) < (n : Int)) = true := by simp; omega
                    have t2n : decide (a < n) = true := by simp; omega
                    go_wp2_with fail
                    obtain ⟨wi, rfl⟩ : ∃ wi, wi = wr := ⟨_, rfl⟩
                    go_loopw [12] (fun v wr => WantJ w2 g k i a xs ys v wr) (fun v _ => i - (intOf v).toNat)
                    case atStart => exact ⟨0, by omega, rfl, HR1.out, HB1.out⟩
                    case round =>
                      clear HR1 HB1
                      obtain ⟨b, hb, rfl, R2, B2⟩ := hrel
                      by_cases hbl : b < i
                      · as_aux_lemma =>
                          have t3 : decide ((b : Int) < (i : Int)) = true := by simp; omega
                          have t3n : decide (b < i) = true := by simp; omega
                          obtain ⟨bx, ox, rfl, qx, hcx⟩ := K1.out.2 (by omega)
                          obtain ⟨by', oy, rfl, qy, hcy⟩ := K2.out.2 (by omega)
                          have x1 := (B2.cell (p := ⟨bx, ox + a, none⟩) qx).trans (hcx a hlt)
                          have y1 := (B2.cell (p := ⟨by', oy + b, none⟩) qy).trans (hcy b hbl)
                          obtain ⟨s, hs⟩ : ∃ s, s = a + b := ⟨_, rfl⟩
                          have hsk : s < k := by have := HLk.out; omega
                          have z1 := (R2.cell s).trans (intCells_get _ s (by rw [lay2_length]; exact hsk))
                          have bd := lay2_bound (l := k) (m := i) HD.out.1 HD.out.2 (show a ≤ 256 by omega) (show b ≤ 256 by omega) m256 s hsk
                          have pb := prod_bound (dig_get HD.out.1 a) (dig_get HD.out.2 b)
                          have RN := R2.drew.set s (.int .i64 ((lay2 k i xs ys a b).getD s 0 + xs.getD a 0 * ys.getD b 0))
                          rw [lay2_next k i xs ys a b s hs] at RN
                          have BN := B2.drew.setCell (p := ⟨g, s, none⟩) HGL.out (.int .i64 ((lay2 k i xs ys a b).getD s 0 + xs.getD a 0 * ys.getD b 0))
                          generalize (lay2 k i xs ys a b).getD s 0 = o at *
                          generalize xs.getD a 0 = x at *
                          generalize ys.getD b 0 = y at *
                          obtain ⟨p, hp⟩ : ∃ p, p = x * y := ⟨_, rfl⟩
                          rw [← hp] at pb RN BN
                          obtain ⟨v, hv⟩ : ∃ v, v = o + p := ⟨_, rfl⟩
                          rw [← hv] at RN BN
                          have pl := place_nums hs (show a ≤ 256 by omega) (show b ≤ 256 by omega)
                          have HPL := Lib.hid pl
                          clear pl
                          have s3 : (s : Int) < (k : Int) := by omega
                          have s4 : (0 : Int) ≤ (s : Int) := by omega
                          have a0 : (0 : Int) ≤ (a : Int) := by omega
                          have an : (a : Int) < (n : Int) := by omega
                          have b0 : (0 : Int) ≤ (b : Int) := by omega
                          have bi : (b : Int) < (i : Int) := by omega
                          have z2 : wr.drew.cell? ⟨g, s, none⟩ = some (.int .i64 o) := z1
                          have f2 : wr.drew.frozen? ⟨g, s, none⟩ = false := R2.drew.frozen s
                          obtain ⟨s1, s2⟩ := HPL.out
                          obtain ⟨p1, p2, v1, v2⟩ := step_nums hp hv pb bd
                          have HRN := Lib.hid RN; have HBN := Lib.hid BN; have HBL := Lib.hid hbl
                          clear RN BN R2 B2 hcx hcy qx qy bd pb hp hv hs hsk hbl
                          go_wp2_with fail
                          refine wp_region_still_tail 21 (by kernel_rfl) (by kernel_rfl) ?_
                          simp only [List.take_succ_cons, List.take_zero, List.drop_succ_cons, List.drop_zero]
                          still_step
                          still_step
                          still_step
                          still_step
                          still_step
                          still_step
                          still_step
                          as_aux_lemma =>
                          still_step
                          still_step
                          still_step
                          still_step
                          still_step
                          still_step
                          still_step
                          as_aux_lemma =>
                          repeat still_step
                          refine wpStill_nil ?_
                          as_aux_lemma =>
                          change wpList _ _ _ _ _ wr.drew
                          generalize wr.drew = wd at *
                          clear x1 y1 z1 p1 p2 v1 v2 s1 s2 s3 s4 a0 an b0 bi t2 t2n t3 t3n
                          go_wp2_with fail
                          go_roundw
                          case rel => exact ⟨b + 1, HBL.out, ret_val (by have := HBL.out; omega), HRN.out, HBN.out⟩
                          case measure => simp [intOf]; have := HBL.out; omega
                      · as_aux_lemma =>
                          obtain rfl : b = i := by omega
                          have t3 : decide ((b : Int) < (b : Int)) = false := by simp
                          rw [lay2_round] at R2
                          have HR2 := Lib.hid R2; have HB2' := Lib.hid B2; have HA := Lib.hid hlt
                          clear R2 B2 hbl hb
                          go_wp2_with fail
                          go_roundw
                          case rel => exact ⟨a + 1, HA.out, ret_val (by have := HA.out; omega), HR2.out, HB2'.out⟩
                          case measure => simp [intOf]; have := HA.out; omega
                  · as_aux_lemma =>
                      obtain rfl : a = n := by omega
                      have t2 : decide ((a : Int) < (a : Int)) = false := by simp
                      have hr1 := HR1.out
                      rw [HALL.out] at hr1
                      have cS := Lib.hid (sameInts_any R k k _ (some ⟨g, 0, none⟩) k k _ wr (HJ.out.below HB1.out) (ints_row hr1 (by have := HJ.out.1; exact this)) (by have := HLk.out; omega) (by have := HLk.out; omega))
                      have hdt : decide (foldL xs ys = foldL xs ys) = true := decide_eq_true rfl
                      rw [hdt] at cS
                      have HB3 := Lib.hid (HB2.out.trans (HB1.out.mono HB2.out.size))
                      clear hr1 HR1 HB1 hlt ha hdt
                      go_wp2_with fail
                      refine cS.out.mono ?_
                      rintro e w5 ⟨rfl, B5⟩
                      have HB4 := Lib.hid (HB3.out.trans (B5.mono HB3.out.size))
                      clear B5 cS HB3
                      go_wp2_with fail
                      go_ret
                      exact ⟨rfl, HB4.out⟩
            · as_aux_lemma =>
                have hF : foldL xs ys = [] := by unfold foldL; rw [if_pos (by rw [nx.out, ny.out]; omega)]
                obtain rfl : k = 0 := by
                  have := HJR.out.1
                  simp only [if_true, hF] at this
                  simpa using this.symm
                clear HJR K1 K2 hF hdg
                by_cases hn0 : n = 0
                · have e0 : ((n : Int) == 0) = true := by simp; omega
                  have e0n : (n == 0) = true := by simp; omega
                  clear hne hn0
                  go_wp2_with fail
                  go_ret
                  exact ⟨rfl, HB2.out⟩
                · have e0 : ((n : Int) == 0) = false := by simp; omega
                  have e0n : (n == 0) = false := by simp; omega
                  have e1 : ((i : Int) == 0) = true := by simp; omega
                  have e1n : (i == 0) = true := by simp; omega
                  clear hne hn0
                  go_wp2_with fail
                  go_ret
                  exact ⟨rfl, HB2.out⟩

end Go.Proofs.Ytdclgdpifamomaa
