/-
  The walk of the law FaultOne; no condition beyond what the package-level variables hold.
-/
import Derived.Test.YtbfneeggfaoeaaaDoorNames5Walk
namespace Go.Proofs.YtbfneeggfaoeaaaDoor
open Go.RowKit

theorem tailOf_ge (p : List Int) : p.length ≤ (tailOf p).length := by
  induction p with
  | nil => simp
  | cons n p ih =>
    have h : tailOf (n :: p) = 47 :: (Lib.decDigits n.toNat ++ tailOf p) := by simp [tailOf]
    rw [h]
    simp only [List.length_cons, List.length_append]
    omega
theorem parse_short {s : List UInt8} {e a : Nat} {q : List Nat} (h : parseOf s = some (e, a, q)) : q.length ≤ s.length := by
  have h1 := congrArg List.length (parseOf_some h).2.2.2
  have h2 := tailOf_ge (q.map fun n : Nat => (n : Int))
  simp only [List.length_append, List.length_cons, List.length_map] at h1 h2
  omega
theorem ints_top {q : List Nat} (h : ∀ n ∈ q, n ≤ top) : ∀ x ∈ ints q, x ≤ (top : Int) := by
  intro x hx
  obtain ⟨n, hn, rfl⟩ := List.mem_map.1 hx
  have := h n hn
  omega

set_option maxHeartbeats 2000000 in
theorem one_walk (l : List UInt8) (w : World) (hL : Laid w) :
    Calls Tryd.prog 6 #[.string ⟨l.toArray⟩] w fun x w' => x = .returned (.bool true) ∧ Below w.heap.size w w' := by
  go_enter Tryd.func6, Tryd.ntmps6
  go_wp2_with fail
  refine (awake_any w hL).mono ?_
  rintro x w1 ⟨rfl, B1⟩
  have L1 := hL.on B1 hL.size
  by_cases hl : 400 < l.length
  · have d1 : decide (400 < (l.length : Int)) = true := by simp; omega
    have d1n : decide (400 < l.length) = true := by simp; omega
    go_wp2_with fail
    go_ret
    exact ⟨rfl, B1⟩
  · have d1 : decide (400 < (l.length : Int)) = false := by simp; omega
    have d1n : decide (400 < l.length) = false := by simp; omega
    go_wp2_with fail
    refine (parse_any l (by omega) w1 L1).mono ?_
    cases hp : parseOf l with
    | none =>
      rintro x w2 ⟨A, n, c, rfl, hI, k2⟩
      obtain rfl : 0 = n := hI.1
      rw [show ansE none = 0 from rfl, show ansA none = 0 from rfl, show (none : Option (Nat × Nat × List Nat)).isSome = false from rfl]
      have B2 : Below w.heap.size w w2 := B1.trans (k2.mono B1.size)
      have BF : Below w2.heap.size w2 (w2.alloc (.cells #[.int .i64 0, .int .i64 0, .slice A 0 c] 30)) := (Below.refl _ _).alloc (Nat.le_refl _) _
      have hE : Ints (w2.alloc (.cells #[.int .i64 0, .int .i64 0, .slice A 0 c] 30)) (· < (w2.alloc (.cells #[.int .i64 0, .int .i64 0, .slice A 0 c] 30)).heap.size) A 0 [] := ⟨rfl, fun h => absurd h (by omega)⟩
      have hE2 : Ints (w2.alloc (.cells #[.int .i64 0, .int .i64 0, .slice A 0 c] 30)) (· < (w2.alloc (.cells #[.int .i64 0, .int .i64 0, .slice A 0 c] 30)).heap.size) none 0 [] := ⟨rfl, fun h => absurd h (by omega)⟩
      clear hI k2 B1 L1 hp
      go_wp2_with fail
      refine (same_any 0 0 A 0 c [] 0 0 none 0 0 [] _ hE hE2 (by omega) (by omega)).mono ?_
      rw [show decide ((0 : Int) = 0 ∧ (0 : Int) = 0 ∧ ([] : List Int) = []) = true from rfl]
      rintro x w3 ⟨rfl, k3⟩
      have B3 : Below w.heap.size w w3 := B2.trans ((BF.trans (k3.mono BF.size)).mono B2.size)
      go_wp2_with fail
      go_ret
      exact ⟨rfl, B3⟩
    | some r =>
      obtain ⟨e, a, q⟩ := r
      rintro x w2 ⟨A, n, c, rfl, hI, k2⟩
      have hlen := parse_short hp
      have hn : q.length = n := by have := hI.1; rw [show ansP (some (e, a, q)) = ints q from rfl, ints_length] at this; exact this
      have HT := Lib.hid (text_parse hp)
      obtain ⟨_, hat, hqt, _⟩ := parseOf_some hp
      rw [show ansE (some (e, a, q)) = (e : Int) from rfl, show ansA (some (e, a, q)) = (a : Int) from rfl, show (some (e, a, q) : Option (Nat × Nat × List Nat)).isSome = true from rfl]
      have hI' : Ints w2 (· < w2.heap.size) A n (ints q) := hI
      have B2 : Below w.heap.size w w2 := B1.trans (k2.mono B1.size)
      have BF : Below w2.heap.size w2 (w2.alloc (.cells #[.int .i64 (e : Int), .int .i64 (a : Int), .slice A n c] 30)) := (Below.refl _ _).alloc (Nat.le_refl _) _
      have B3 : Below w.heap.size w (w2.alloc (.cells #[.int .i64 (e : Int), .int .i64 (a : Int), .slice A n c] 30)) := B2.trans (BF.mono B2.size)
      have HI3 := Lib.hid (hI'.on BF (Nat.le_refl _))
      have L3 := hL.on B3 hL.size
      have HA := Lib.hid hat; have HQ := Lib.hid hqt
      clear hI hI' k2 B1 L1 hp hat hqt BF B2
      go_wp2_with fail
      refine (text_any (e : Int) (a : Int) A n c (ints q) _ L3 HI3.out (by have := HA.out; omega) (ints_top HQ.out) (by omega)).mono ?_
      rw [show textOf (e : Int) (a : Int) (ints q) = l from HT.out]
      rintro x w4 ⟨rfl, k4⟩
      have B4 : Below w.heap.size w w4 := B3.trans (k4.mono B3.size)
      clear k4 B3 HI3 L3
      go_wp2_with fail
      go_ret
      exact ⟨rfl, B4⟩

end Go.Proofs.YtbfneeggfaoeaaaDoor
