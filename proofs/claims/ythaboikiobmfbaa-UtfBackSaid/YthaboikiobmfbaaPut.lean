/-
  What utf.Put and the document's Put do, one contract each; no condition beyond what each contract asks.
-/
import Derived.Test.YthaboikiobmfbaaUtfC
import Derived.Test.YthaboikiobmfbaaRef2A
namespace Go.Proofs.Ythaboikiobmfbaa
open Go.RowKit

theorem i64_and63 (r : Int) (h0 : 0 ≤ r) (h : r ≤ 2000000) : bits .and .i64 r 63 = r % 64 := bits_mask .i64 62 (by decide) wraps_i64 6 (by decide) r h0 (by omega)

set_option maxHeartbeats 400000 in
theorem tailOf_any (r : Int) (w : World) (h0 : 0 ≤ r) (hr : r ≤ 2000000) :
    Calls Try.prog 21 #[.int .i64 r] w fun e w' => e = .returned (.int .u8 (128 + r % 64)) ∧ w = w' := by
  go_enter Try.func21, Try.ntmps21
  go_wp2_with fail
  go_ret
  refine ⟨ret_num ?_, rfl⟩
  rw [i64_and63 r h0 hr, u8_or128 _ (by omega) (by omega)]
  omega

theorem u8_nat (n : Nat) (h : n < 256) : Value.int .u8 (((UInt8.ofNat n).toNat : Nat) : Int) = .int .u8 (n : Int) := by
  rw [UInt8.toNat_ofNat', Nat.mod_eq_of_lt h]
theorem enc_1 (r : Nat) (h : r < 128) : cellsOf (enc r) = [.int .u8 (r : Int)] ∧ (enc r).length = 1 := by
  unfold enc
  rw [if_pos h]
  refine ⟨?_, rfl⟩
  simp only [cellsOf, List.map_cons, List.map_nil]
  rw [u8_nat _ (by omega)]
theorem enc_2 (r : Nat) (h : ¬ r < 128) (h' : r < 2048) : cellsOf (enc r) = [.int .u8 (192 + (r : Int) / 64), .int .u8 (128 + (r : Int) % 64)] ∧ (enc r).length = 2 := by
  unfold enc
  rw [if_neg h, if_pos h']
  refine ⟨?_, rfl⟩
  simp only [cellsOf, List.map_cons, List.map_nil]
  rw [u8_nat _ (by omega), u8_nat _ (by omega)]
  rfl
theorem enc_3 (r : Nat) (h : ¬ r < 128) (h' : ¬ r < 2048) (h2 : r < 65536) : cellsOf (enc r) = [.int .u8 (224 + (r : Int) / 4096), .int .u8 (128 + (r : Int) / 64 % 64), .int .u8 (128 + (r : Int) % 64)] ∧ (enc r).length = 3 := by
  unfold enc
  rw [if_neg h, if_neg h', if_pos h2]
  refine ⟨?_, rfl⟩
  simp only [cellsOf, List.map_cons, List.map_nil]
  rw [u8_nat _ (by omega), u8_nat _ (by omega), u8_nat _ (by omega)]
  rfl
theorem enc_4 (r : Nat) (h : ¬ r < 128) (h' : ¬ r < 2048) (h2 : ¬ r < 65536) (h3 : r ≤ 1114111) :
    cellsOf (enc r) = [.int .u8 (240 + (r : Int) / 262144), .int .u8 (128 + (r : Int) / 4096 % 64), .int .u8 (128 + (r : Int) / 64 % 64), .int .u8 (128 + (r : Int) % 64)] ∧ (enc r).length = 4 := by
  unfold enc
  rw [if_neg h, if_neg h', if_neg h2]
  refine ⟨?_, rfl⟩
  simp only [cellsOf, List.map_cons, List.map_nil]
  rw [u8_nat _ (by omega), u8_nat _ (by omega), u8_nat _ (by omega), u8_nat _ (by omega)]
  rfl

def PutPost (r : Nat) (w : World) (e : Ending) (w' : World) : Prop :=
  e = .returned (.tuple #[.slice (some ⟨w.heap.size, 0, none⟩) (enc r).length (enc r).length, .bool true]) ∧ w' = w.alloc (.cells (cellsOf (enc r)).toArray 5 (0, 0))
theorem put_post {r : Nat} {w : World} {l : List Value} {m : Nat} (h : cellsOf (enc r) = l ∧ (enc r).length = m) {w' : World} (hw : w' = w.alloc (.cells l.toArray 5 (0, 0))) :
    PutPost r w (.returned (.tuple #[.slice (some ⟨w.heap.size, 0, none⟩) m m, .bool true])) w' := by
  unfold PutPost
  rw [h.1, h.2]
  exact ⟨rfl, hw⟩

set_option maxHeartbeats 1000000 in
theorem put_ok (r : Nat) (w : World) (h1 : r ≤ 1114111) (h2 : r < 55296 ∨ 57343 < r) :
    Calls Try.prog 15 #[.int .i64 (r : Int)] w (PutPost r w) := by
  have d1 : decide ((r : Int) < 0) = false := by simp
  have d2 : decide (1114111 < (r : Int)) = false := by simp; omega
  by_cases c1 : r < 128
  · have d3 : decide (55296 ≤ (r : Int)) = false := by simp; omega
    have d4 : decide ((r : Int) ≤ 127) = true := by simp; omega
    go_enter Try.func15, Try.ntmps15
    go_wp2_with fail
    go_ret2
    exact put_post (enc_1 r c1) rfl
  have d4 : decide ((r : Int) ≤ 127) = false := by simp; omega
  by_cases c2 : r < 2048
  · have d3 : decide (55296 ≤ (r : Int)) = false := by simp; omega
    have d5 : decide ((r : Int) ≤ 2047) = true := by simp; omega
    go_enter Try.func15, Try.ntmps15
    go_wp2_with fail
    refine (tailOf_any _ _ (by omega) (by omega)).mono ?_
    rintro e w1 ⟨rfl, rfl⟩
    go_wp2_with fail
    go_ret2
    exact put_post (enc_2 r c1 c2) rfl
  have d5 : decide ((r : Int) ≤ 2047) = false := by simp; omega
  by_cases c3 : r < 65536
  · have d6 : decide ((r : Int) ≤ 65535) = true := by simp; omega
    by_cases c4 : 55296 ≤ r
    · have d3 : decide (55296 ≤ (r : Int)) = true := by simp; omega
      have d7 : decide ((r : Int) ≤ 57343) = false := by simp; omega
      go_enter Try.func15, Try.ntmps15
      go_wp2_with fail
      refine (tailOf_any _ _ (by omega) (by omega)).mono ?_
      rintro e w1 ⟨rfl, rfl⟩
      go_wp2_with fail
      refine (tailOf_any _ _ (by omega) (by omega)).mono ?_
      rintro e w1 ⟨rfl, rfl⟩
      go_wp2_with fail
      go_ret2
      exact put_post (enc_3 r c1 c2 c3) rfl
    · have d3 : decide (55296 ≤ (r : Int)) = false := by simp; omega
      go_enter Try.func15, Try.ntmps15
      go_wp2_with fail
      refine (tailOf_any _ _ (by omega) (by omega)).mono ?_
      rintro e w1 ⟨rfl, rfl⟩
      go_wp2_with fail
      refine (tailOf_any _ _ (by omega) (by omega)).mono ?_
      rintro e w1 ⟨rfl, rfl⟩
      go_wp2_with fail
      go_ret2
      exact put_post (enc_3 r c1 c2 c3) rfl
  have d6 : decide ((r : Int) ≤ 65535) = false := by simp; omega
  have d3 : decide (55296 ≤ (r : Int)) = true := by simp; omega
  have d7 : decide ((r : Int) ≤ 57343) = false := by simp; omega
  go_enter Try.func15, Try.ntmps15
  go_wp2_with fail
  refine (tailOf_any _ _ (by omega) (by omega)).mono ?_
  rintro e w1 ⟨rfl, rfl⟩
  go_wp2_with fail
  refine (tailOf_any _ _ (by omega) (by omega)).mono ?_
  rintro e w1 ⟨rfl, rfl⟩
  go_wp2_with fail
  refine (tailOf_any _ _ (by omega) (by omega)).mono ?_
  rintro e w1 ⟨rfl, rfl⟩
  go_wp2_with fail
  go_ret2
  exact put_post (enc_4 r c1 c2 c3 h1) rfl

def NonePost (w : World) (e : Ending) (w' : World) : Prop := e = .returned (.tuple #[.slice none 0 0, .bool false]) ∧ w = w'

set_option maxHeartbeats 1000000 in
theorem put_no (r : Int) (w : World) (h : r < 0 ∨ 1114111 < r ∨ (55296 ≤ r ∧ r ≤ 57343)) :
    Calls Try.prog 15 #[.int .i64 r] w (NonePost w) := by
  by_cases c1 : r < 0
  · have d1 : decide (r < 0) = true := by simp; omega
    go_enter Try.func15, Try.ntmps15
    go_wp2_with fail
    go_ret2
    exact ⟨rfl, rfl⟩
  have d1 : decide (r < 0) = false := by simp; omega
  by_cases c2 : 1114111 < r
  · have d2 : decide (1114111 < r) = true := by simp; omega
    go_enter Try.func15, Try.ntmps15
    go_wp2_with fail
    go_ret2
    exact ⟨rfl, rfl⟩
  have d2 : decide (1114111 < r) = false := by simp; omega
  have d3 : decide (55296 ≤ r) = true := by simp; omega
  have d4 : decide (r ≤ 57343) = true := by simp; omega
  go_enter Try.func15, Try.ntmps15
  go_wp2_with fail
  go_ret2
  exact ⟨rfl, rfl⟩

set_option maxHeartbeats 400000 in
theorem is_any (r : Int) (w : World) :
    Calls Try.prog 22 #[.int .i64 r] w fun e w' => e = .returned (.bool (isRune r)) ∧ w = w' := by
  have key : ∀ b, isRune r = b → Calls Try.prog 22 #[.int .i64 r] w fun e w' => e = .returned (.bool b) ∧ w = w' := by
    intro b hb
    have HB := Lib.hid hb
    clear hb
    by_cases c1 : 0 ≤ r
    · have d1 : decide (0 ≤ r) = true := by simpa using c1
      by_cases c2 : r ≤ 1114111
      · have d2 : decide (r ≤ 1114111) = true := by simpa using c2
        by_cases c3 : r < 55296
        · have d3 : decide (r < 55296) = true := by simpa using c3
          go_enter Try.func22, Try.ntmps22
          go_wp2_with fail
          go_ret
          exact ⟨by rw [← HB.out]; simp [isRune]; omega, rfl⟩
        · have d3 : decide (r < 55296) = false := by simpa using c3
          by_cases c4 : 57343 < r
          · have d4 : decide (57343 < r) = true := by simpa using c4
            go_enter Try.func22, Try.ntmps22
            go_wp2_with fail
            go_ret
            exact ⟨by rw [← HB.out]; simp [isRune]; omega, rfl⟩
          · have d4 : decide (57343 < r) = false := by simpa using c4
            go_enter Try.func22, Try.ntmps22
            go_wp2_with fail
            go_ret
            exact ⟨by rw [← HB.out]; simp [isRune]; omega, rfl⟩
      · have d2 : decide (r ≤ 1114111) = false := by simpa using c2
        go_enter Try.func22, Try.ntmps22
        go_wp2_with fail
        go_ret
        exact ⟨by rw [← HB.out]; simp [isRune]; omega, rfl⟩
    · have d1 : decide (0 ≤ r) = false := by simpa using c1
      go_enter Try.func22, Try.ntmps22
      go_wp2_with fail
      go_ret
      exact ⟨by rw [← HB.out]; simp [isRune]; omega, rfl⟩
  exact key _ rfl

set_option maxHeartbeats 1000000 in
theorem ref_put_no (r : Int) (w : World) (h : isRune r = false) :
    Calls Try.prog 16 #[.int .i64 r] w (NonePost w) := by
  have HF := Lib.hid h
  clear h
  go_enter Try.func16, Try.ntmps16
  go_wp2_with fail
  refine (is_any r w).mono ?_
  rw [HF.out]
  rintro e w1 ⟨rfl, rfl⟩
  go_wp2_with fail
  go_ret2
  exact ⟨rfl, rfl⟩

set_option maxHeartbeats 1000000 in
theorem ref_put_ok (r : Nat) (w : World) (h : isRune (r : Int) = true) (h1 : r ≤ 1114111) :
    Calls Try.prog 16 #[.int .i64 (r : Int)] w (PutPost r w) := by
  have HF := Lib.hid h
  clear h
  go_enter Try.func16, Try.ntmps16
  go_wp2_with fail
  refine (is_any r w).mono ?_
  rw [HF.out]
  rintro e w1 ⟨rfl, rfl⟩
  by_cases c1 : r < 128
  · have d1 : decide ((r : Int) < 128) = true := by simp; omega
    go_wp2_with fail
    go_ret2
    exact put_post (enc_1 r c1) rfl
  have d1 : decide ((r : Int) < 128) = false := by simp; omega
  by_cases c2 : r < 2048
  · have d2 : decide ((r : Int) < 2048) = true := by simp; omega
    go_wp2_with fail
    go_ret2
    exact put_post (enc_2 r c1 c2) rfl
  have d2 : decide ((r : Int) < 2048) = false := by simp; omega
  by_cases c3 : r < 65536
  · have d3 : decide ((r : Int) < 65536) = true := by simp; omega
    go_wp2_with fail
    go_ret2
    exact put_post (enc_3 r c1 c2 c3) rfl
  have d3 : decide ((r : Int) < 65536) = false := by simp; omega
  go_wp2_with fail
  go_ret2
  exact put_post (enc_4 r c1 c2 c3 h1) rfl

end Go.Proofs.Ythaboikiobmfbaa
