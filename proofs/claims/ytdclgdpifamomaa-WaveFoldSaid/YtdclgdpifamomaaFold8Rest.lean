/-
  The law WaveFold, the lists that are too long to be folded, and all of it together. No condition.
-/
import Derived.Test.YtdclgdpifamomaaFold8Walk
namespace Go.Proofs.Ytdclgdpifamomaa
open Go.RowKit

/-- A loop that leaves ok false. -/
def NoAt (W : World) (n : Nat) (v5 v6 : Value) (wr : World) : Prop :=
  wr = W ∧ ∃ i : Nat, i ≤ n ∧ v5 = .bool false ∧ v6 = .int .i64 (i : Int)

set_option maxHeartbeats 4000000 in
theorem waveFold_long (A : Option Addr) (n c : Nat) (xs : List Int) (B : Option Addr) (m d : Nat) (ys : List Int) (w : World)
    (h1 : Ints w (· < w.heap.size) A n xs) (h2 : Ints w (· < w.heap.size) B m ys) (n3 : n ≤ 300) (m3 : m ≤ 300) (hnot : ¬ (n ≤ 256 ∧ m ≤ 256)) :
    Calls Try.prog 6 #[.slice A n c, .slice B m d] w fun e w' => e = .returned (.bool true) ∧ Below w.heap.size w w' := by
  have HND : Hid (¬ (Dig xs ∧ Dig ys)) := fun h => hnot ⟨by have := h.1.1; have := h1.1; omega, by have := h.2.1; have := h2.1; omega⟩
  have d0 : decide ((300 : Int) < (n : Int)) = false := by simp; omega
  have d1 : decide ((300 : Int) < (m : Int)) = false := by simp; omega
  have H1 := Lib.hid h1; have H2 := Lib.hid h2
  clear h1 h2
  go_enter Try.func6, Try.ntmps6
  go_wp2_with fail
  refine (awake_any w).mono ?_
  rintro e w1 ⟨rfl, B1⟩
  have cF := Lib.hid (fold_any A n c xs B m d ys w1 (H1.out.below B1) (H2.out.below B1) (by omega) (by omega) false ⟨fun h => (by cases h), fun h => absurd h HND.out⟩)
  have HB1 := Lib.hid B1
  clear B1 H1 H2 HND
  by_cases hn6 : n ≤ 256
  · have d2 : decide ((n : Int) ≤ 256) = true := by simp; omega
    have d3 : decide ((m : Int) ≤ 256) = false := by simp; omega
    clear hnot
    go_wp2_with fail
    go_loopw [5, 6] (fun v5 v wr => NoAt w1 n v5 v wr) (fun _ v _ => n - (intOf v).toNat)
    case atStart => exact ⟨rfl, 0, by omega, rfl, rfl⟩
    case round =>
      obtain ⟨hwr, i, hi, rfl, rfl⟩ := hrel
      subst wr
      by_cases hlt : i < n
      · have t1 : decide ((i : Int) < (n : Int)) = true := by simp; omega
        have t1n : decide (i < n) = true := by simp; omega
        have HI := Lib.hid hlt
        clear hlt
        go_wp2_with fail
        go_roundw
        case rel => exact ⟨by trivial, i + 1, HI.out, rfl, ret_val (by have := HI.out; omega)⟩
        case measure => simp [intOf]; have := HI.out; omega
      · have hin : i = n := by omega
        subst i
        have t1 : decide ((n : Int) < (n : Int)) = false := by simp
        clear hlt hi
        go_wp2_with fail
        go_loopw [5, 7] (fun v5 v wr => NoAt w1 m v5 v wr) (fun _ v _ => m - (intOf v).toNat)
        case atStart => exact ⟨rfl, 0, by omega, rfl, rfl⟩
        case round =>
          obtain ⟨hwr, i, hi, rfl, rfl⟩ := hrel
          subst wr
          by_cases hlt : i < m
          · have t2 : decide ((i : Int) < (m : Int)) = true := by simp; omega
            have t2n : decide (i < m) = true := by simp; omega
            have HI := Lib.hid hlt
            clear hlt
            go_wp2_with fail
            go_roundw
            case rel => exact ⟨by trivial, i + 1, HI.out, rfl, ret_val (by have := HI.out; omega)⟩
            case measure => simp [intOf]; have := HI.out; omega
          · have him : i = m := by omega
            subst i
            have t2 : decide ((m : Int) < (m : Int)) = false := by simp
            clear hlt hi
            go_wp2_with fail
            refine cF.out.mono ?_
            rintro e w2 ⟨R, k, rfl, JR, B2⟩
            obtain rfl : k = 0 := by have := JR.1; simpa using this.symm
            have HB2 := Lib.hid (HB1.out.trans (B2.mono HB1.out.size))
            clear JR B2 cF HB1
            go_wp2_with fail
            go_ret
            exact ⟨rfl, HB2.out⟩
  · have d2 : decide ((n : Int) ≤ 256) = false := by simp; omega
    clear hnot
    go_wp2_with fail
    go_loopw [5, 6] (fun v5 v wr => NoAt w1 n v5 v wr) (fun _ v _ => n - (intOf v).toNat)
    case atStart => exact ⟨rfl, 0, by omega, rfl, rfl⟩
    case round =>
      obtain ⟨hwr, i, hi, rfl, rfl⟩ := hrel
      subst wr
      by_cases hlt : i < n
      · have t1 : decide ((i : Int) < (n : Int)) = true := by simp; omega
        have t1n : decide (i < n) = true := by simp; omega
        have HI := Lib.hid hlt
        clear hlt
        go_wp2_with fail
        go_roundw
        case rel => exact ⟨by trivial, i + 1, HI.out, rfl, ret_val (by have := HI.out; omega)⟩
        case measure => simp [intOf]; have := HI.out; omega
      · have hin : i = n := by omega
        subst i
        have t1 : decide ((n : Int) < (n : Int)) = false := by simp
        clear hlt hi
        go_wp2_with fail
        go_loopw [5, 7] (fun v5 v wr => NoAt w1 m v5 v wr) (fun _ v _ => m - (intOf v).toNat)
        case atStart => exact ⟨rfl, 0, by omega, rfl, rfl⟩
        case round =>
          obtain ⟨hwr, i, hi, rfl, rfl⟩ := hrel
          subst wr
          by_cases hlt : i < m
          · have t2 : decide ((i : Int) < (m : Int)) = true := by simp; omega
            have t2n : decide (i < m) = true := by simp; omega
            have HI := Lib.hid hlt
            clear hlt
            go_wp2_with fail
            go_roundw
            case rel => exact ⟨by trivial, i + 1, HI.out, rfl, ret_val (by have := HI.out; omega)⟩
            case measure => simp [intOf]; have := HI.out; omega
          · have him : i = m := by omega
            subst i
            have t2 : decide ((m : Int) < (m : Int)) = false := by simp
            clear hlt hi
            go_wp2_with fail
            refine cF.out.mono ?_
            rintro e w2 ⟨R, k, rfl, JR, B2⟩
            obtain rfl : k = 0 := by have := JR.1; simpa using this.symm
            have HB2 := Lib.hid (HB1.out.trans (B2.mono HB1.out.size))
            clear JR B2 cF HB1
            go_wp2_with fail
            go_ret
            exact ⟨rfl, HB2.out⟩

set_option maxHeartbeats 4000000 in
theorem waveFold_any (A : Option Addr) (n c : Nat) (xs : List Int) (B : Option Addr) (m d : Nat) (ys : List Int) (w : World) (h1 : Ints w (· < w.heap.size) A n xs) (h2 : Ints w (· < w.heap.size) B m ys) :
    Calls Try.prog 6 #[.slice A n c, .slice B m d] w fun e w' => e = .returned (.bool true) ∧ Below w.heap.size w w' := by
  by_cases hn : n ≤ 300
  · by_cases hm : m ≤ 300
    · by_cases h6 : n ≤ 256 ∧ m ≤ 256
      · exact waveFold_main A n c xs B m d ys w h1 h2 h6.1 h6.2
      · exact waveFold_long A n c xs B m d ys w h1 h2 hn hm h6
    · have d0 : decide ((300 : Int) < (n : Int)) = false := by simp; omega
      have d1 : decide ((300 : Int) < (m : Int)) = true := by simp; omega
      clear h1 h2
      go_enter Try.func6, Try.ntmps6
      go_wp2_with fail
      refine (awake_any w).mono ?_
      rintro e w1 ⟨rfl, B1⟩
      have HB1 := Lib.hid B1
      clear B1
      go_wp2_with fail
      go_ret
      exact ⟨rfl, HB1.out⟩
  · have d0 : decide ((300 : Int) < (n : Int)) = true := by simp; omega
    clear h1 h2
    go_enter Try.func6, Try.ntmps6
    go_wp2_with fail
    refine (awake_any w).mono ?_
    rintro e w1 ⟨rfl, B1⟩
    have HB1 := Lib.hid B1
    clear B1
    go_wp2_with fail
    go_ret
    exact ⟨rfl, HB1.out⟩

end Go.Proofs.Ytdclgdpifamomaa
