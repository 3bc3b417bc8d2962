/-
  What the document's sign and Base do, one contract each; no condition beyond what each contract asks.
-/
import Derived.Test.YtlimkiebbmidiaaSixV
namespace Go.Proofs.Ytlimkiebbmidiaa
open Go.RowKit

theorem sz_of_sgn {c : UInt8} {j : Nat} (hj : j < 64) (h : sgn j = c) : sz c = j := by rw [← h]; exact sz_sgn j hj
theorem sz_of_none {c : UInt8} (h : ∀ m, m < 64 → sgn m ≠ c) : sz c = 0 := by
  unfold sz
  split
  · rename_i hs
    exact absurd (sgn_sv c hs) (h _ hs)
  · rfl
def SignRel (w : World) (c : UInt8) (i : Value) (wr : World) : Prop := wr = w ∧ ∃ j : Nat, j ≤ 64 ∧ i = .int .i64 (j : Int) ∧ ∀ m, m < j → sgn m ≠ c

set_option maxHeartbeats 1000000 in
theorem refSign_any (c : UInt8) (w : World) :
    Calls Try.prog 18 #[.int .u8 (c.toNat : Int)] w fun e w' => e = .returned (.int .i64 ((sz c : Nat) : Int)) ∧ w' = w := by
  obtain ⟨r, hr⟩ : ∃ r, r = sz c := ⟨_, rfl⟩
  rw [← hr]
  have HR := Lib.hid hr
  clear hr
  have hx : c.toNat < 256 := c.toNat_lt
  obtain ⟨x, hxe⟩ : ∃ x, x = c.toNat := ⟨_, rfl⟩
  rw [← hxe] at hx ⊢
  have HX := Lib.hid hxe
  clear hxe
  go_enter Try.func18, Try.ntmps18
  go_wp2_with fail
  go_loopw [3] (fun i wr => SignRel w c i wr) (fun i _ => 64 - (intOf i).toNat)
  case atStart => exact ⟨rfl, 0, by omega, rfl, by intro m hm; omega⟩
  case round =>
    obtain ⟨rfl, j, hj, rfl, hn⟩ := hrel
    have HN := Lib.hid hn
    clear hn
    by_cases hlt : j < 64
    · have d1 : decide ((j : Int) < 64) = true := by simp; omega
      have g1 := fun w => at_sgn .i64 (j : Int) j rfl hlt w
      by_cases he : sgn j = c
      · have HF : Hid (r = j) := show _ = _ by rw [HR.out]; exact sz_of_sgn hlt he
        have d2 : (((sgn j).toNat : Int) == (x : Int)) = true := by rw [HX.out, he]; simp
        clear he
        go_wp2_with fail
        go_ret
        exact ⟨by rw [HF.out]; rfl, rfl⟩
      · have HN' : Hid (∀ m, m < j + 1 → sgn m ≠ c) := show ∀ m, _ from fun m hm => by
          rcases (by omega : m < j ∨ m = j) with h | h
          · exact HN.out m h
          · rw [h]; exact he
        have d2 : (((sgn j).toNat : Int) == (x : Int)) = false := by
          rw [HX.out]
          simp only [beq_eq_false_iff_ne, ne_eq]
          intro e
          exact he (UInt8.toNat_inj.1 (by omega))
        clear he
        go_wp2_with fail
        go_roundw
        case rel => exact ⟨rfl, j + 1, by omega, by go_num, HN'.out⟩
        case measure => simp [intOf]; omega
    · obtain rfl : j = 64 := by omega
      have HF : Hid (r = 0) := show _ = _ by rw [HR.out]; exact sz_of_none HN.out
      go_wp2_with fail
      go_ret
      exact ⟨by rw [HF.out]; rfl, rfl⟩

/-- The bytes from i on as one number, three at a time, 0 where there are none. -/
def vv (bs : List UInt8) (i : Nat) : Nat → Nat
  | 0 => 0
  | j + 1 => vv bs i j * 256 + (bs.getD (i + j) 0).toNat
theorem vv_lt (bs : List UInt8) (i j : Nat) : vv bs i j < 256 ^ j := by
  induction j with
  | zero => simp [vv]
  | succ j ih =>
    have := (bs.getD (i + j) 0).toNat_lt
    simp only [vv, Nat.pow_succ]
    omega
/-- The signs up to j, what fills behind them. -/
def fillFrom (l : List UInt8) (j : Nat) : List UInt8 := l.take j ++ List.replicate (4 - j) 61
theorem fillFrom_set (l : List UInt8) (j : Nat) (hl : l.length = 4) (hj : j < 4) : fillFrom (l.set j 61) (j + 1) = fillFrom l j := by
  match l, hl with
  | [a, b, c, d], _ =>
    rcases (by omega : j = 0 ∨ j = 1 ∨ j = 2 ∨ j = 3) with rfl | rfl | rfl | rfl <;> simp [fillFrom, List.replicate]
theorem fillFrom_all (l : List UInt8) (hl : l.length = 4) : fillFrom l 4 = l := by
  unfold fillFrom
  rw [← hl, List.take_length, hl]
  simp
def fourOf (v : Nat) : List UInt8 := [sgn (v / 262144), sgn (v / 4096 % 64), sgn (v / 64 % 64), sgn (v % 64)]
theorem getD_out {bs : List UInt8} {p : Nat} (h : bs.length ≤ p) : bs.getD p 0 = 0 := by simp [List.getD, h]
theorem b64_step {bs : List UInt8} {i : Nat} (h : i < bs.length) (h3 : i % 3 = 0) : b64 (bs.take (i + 3)) = b64 (bs.take i) ++ fillFrom (fourOf (vv bs i 3)) (min 3 (bs.length - i) + 1) := by
  have e0 := (bs.getD i 0).toNat_lt
  have e1 := (bs.getD (i + 1) 0).toNat_lt
  have e2 := (bs.getD (i + 2) 0).toNat_lt
  rcases (by omega : bs.length = i + 1 ∨ bs.length = i + 2 ∨ i + 3 ≤ bs.length) with c | c | c
  · rw [List.take_of_length_le (by omega), b64_at1 c h3, show min 3 (bs.length - i) + 1 = 2 by omega]
    simp only [vv, fillFrom, fourOf, Nat.add_zero]
    rw [getD_out (show bs.length ≤ i + 1 by omega), getD_out (show bs.length ≤ i + 2 by omega)]
    simp only [List.take_succ_cons, List.take_zero, List.replicate, UInt8.toNat_zero]
    generalize (bs.getD i 0).toNat = x at *
    rw [show (((0 * 256 + x) * 256 + 0) * 256 + 0) / 262144 = x / 4 by omega, show (((0 * 256 + x) * 256 + 0) * 256 + 0) / 4096 % 64 = x % 4 * 16 by omega]
    simp
  · rw [List.take_of_length_le (by omega), b64_at2 c h3, show min 3 (bs.length - i) + 1 = 3 by omega]
    simp only [vv, fillFrom, fourOf, Nat.add_zero]
    rw [getD_out (show bs.length ≤ i + 2 by omega)]
    simp only [List.take_succ_cons, List.take_zero, List.replicate, UInt8.toNat_zero]
    generalize (bs.getD i 0).toNat = x at *
    generalize (bs.getD (i + 1) 0).toNat = y at *
    rw [show (((0 * 256 + x) * 256 + y) * 256 + 0) / 262144 = x / 4 by omega, show (((0 * 256 + x) * 256 + y) * 256 + 0) / 4096 % 64 = x % 4 * 16 + y / 16 by omega, show (((0 * 256 + x) * 256 + y) * 256 + 0) / 64 % 64 = y % 16 * 4 by omega]
    simp
  · rw [b64_at3 c h3, show min 3 (bs.length - i) + 1 = 4 by omega, fillFrom_all _ rfl]
    simp only [vv, fourOf, Nat.add_zero]
    generalize (bs.getD i 0).toNat = x at *
    generalize (bs.getD (i + 1) 0).toNat = y at *
    generalize (bs.getD (i + 2) 0).toNat = z at *
    rw [show (((0 * 256 + x) * 256 + y) * 256 + z) / 262144 = x / 4 by omega, show (((0 * 256 + x) * 256 + y) * 256 + z) / 4096 % 64 = x % 4 * 16 + y / 16 by omega, show (((0 * 256 + x) * 256 + y) * 256 + z) / 64 % 64 = y % 16 * 4 + z / 64 by omega, show (((0 * 256 + x) * 256 + y) * 256 + z) % 64 = z % 64 by omega]
    simp

end Go.Proofs.Ytlimkiebbmidiaa
