/-
  What the document's Digits, Int and ParseInt do; no condition beyond what each contract asks.
-/
import Derived.Test.YtfpocpmcoobjkaaDoorBase
import Derived.Test.YtfpocpmcoobjkaaDoorWholeMath

namespace Go.Proofs.YtfpocpmcoobjkaaDoor
open Go.RowKit
open Go.Lib (decDigits itoa)
/-- Two texts, one behind the other. -/
theorem ret_val {k : IntKind} {a b : Int} (h : a = b) : Value.int k a = .int k b := by rw [h]
theorem cat_str (u v : List UInt8) : (⟨u.toArray⟩ : ByteArray) ++ (⟨v.toArray⟩ : ByteArray) = ⟨(u ++ v).toArray⟩ := by
  apply ByteArray.ext
  rw [ByteArray.data_append]
  simp
/-- string([]byte{c}). -/
theorem str_one (c : UInt8) (x : Int) (hx : x = (c.toNat : Int)) (W : World) :
    (convert 23 9 (.slice (some ⟨W.heap.size, 0, none⟩) 1 1)).run Tryd.prog (W.alloc (.cells #[.int .u8 x] 5)) = .ok (.string ⟨#[c]⟩) (W.alloc (.cells #[.int .u8 x] 5)) := by
  subst hx
  have hh : Held (W.alloc (.cells #[.int .u8 (c.toNat : Int)] 5)) (· < W.heap.size + 1) (some ⟨W.heap.size, 0, none⟩) 1 [c] :=
    Held.of_row (bs := [c]) (heap_alloc_new W _) rfl (by omega)
  exact run_string (P := Tryd.prog) 23 9 5 Tryd.underlying23 Tryd.underlying5 Tryd.underlying9 hh 1
def most64 : Nat := 18446744073709551615
theorem digit_facts {n : Nat} {c : UInt8} (hcv : c.toNat = 48 + n % 10) : IntKind.u64.wrap (48 + (n : Int) % 10) = (c.toNat : Int) ∧ IntKind.u8.wrap (c.toNat : Int) = (c.toNat : Int) := by
  rw [hcv, IntKind.wrap_u64, IntKind.wrap_u8]
  omega
theorem quo_fact {n : Nat} (h : n ≤ most64) : IntKind.u64.wrap ((n : Int) / 10) = (n : Int) / 10 := by
  unfold most64 at h
  rw [IntKind.wrap_u64]
  omega
theorem digit_last {n : Nat} {c : UInt8} (hcv : c.toNat = 48 + n) (hn : n ≤ 9) : IntKind.u64.wrap (48 + (n : Int)) = (c.toNat : Int) ∧ 48 + (n : Int) = (c.toNat : Int) ∧ IntKind.u8.wrap (c.toNat : Int) = (c.toNat : Int) ∧ IntKind.u64.wrap (c.toNat : Int) = (c.toNat : Int) ∧ (c.toNat : Int) % 256 = (c.toNat : Int) := by
  rw [hcv, IntKind.wrap_u64, IntKind.wrap_u8, IntKind.wrap_u64]
  omega
set_option maxHeartbeats 1000000 in
theorem refDigits_any (u : Nat) (hu : u ≤ most64) (w : World) :
    Calls Tryd.prog 29 #[.int .u64 (u : Int)] w fun x w' => x = .returned (.string ⟨(decDigits u).toArray⟩) ∧ Below w.heap.size w w' := by
  have hlen : (decDigits u).length ≤ 20 := dec_length (by unfold most64 at hu; omega)
  have HU := Lib.hid hu
  clear hu
  obtain ⟨out, ho⟩ : ∃ out, out = decDigits u := ⟨_, rfl⟩
  rw [← ho] at hlen ⊢
  have HO := Lib.hid ho
  clear ho
  go_enter Tryd.func29, Tryd.ntmps29
  go_wp2_with fail
  go_loopw [0, 3] (fun v s wr => Below w.heap.size w wr ∧ ∃ (n : Nat) (t : List UInt8), n ≤ most64 ∧ v = .int .u64 (n : Int) ∧ s = .string ⟨t.toArray⟩ ∧ out = decDigits n ++ t) (fun v _ _ => (intOf v).toNat)
  case atStart => exact ⟨Below.refl _ _, u, [], HU.out, rfl, rfl, by rw [HO.out]; simp⟩
  case round =>
    obtain ⟨Br, n, t, hn, rfl, rfl, hd⟩ := hrel
    have HNn := Lib.hid hn
    clear hn
    have HD := Lib.hid hd
    have htl : t.length ≤ 20 := by have := congrArg List.length hd; simp at this; omega
    clear hd
    by_cases h9 : 9 < n
    · have d1 : decide (9 < (n : Int)) = true := by simp; omega
      have d1n : decide (9 < n) = true := by simp; omega
      have HS : Hid (decDigits n = decDigits (n / 10) ++ [UInt8.ofNat (48 + n % 10)]) := show _ = _ by rw [decDigits, dif_neg (by omega)]
      have hcv := digit_of (d := n % 10) (by omega)
      obtain ⟨c, hc⟩ : ∃ c, c = UInt8.ofNat (48 + n % 10) := ⟨_, rfl⟩
      rw [← hc] at HS hcv
      clear hc
      obtain ⟨y1, y2⟩ := digit_facts hcv
      have y3 := quo_fact HNn.out
      have hs1 := str_one c (c.toNat : Int) rfl wr
      have hcl : ¬ 9223372036854775807 < 1 + t.length := by omega
      clear hcv
      have BA : Below w.heap.size w (wr.alloc (.cells #[.int .u8 (c.toNat : Int)] 5)) := Br.alloc Br.size _
      go_wp2_with fail
      go_roundw
      case rel => exact ⟨BA, n / 10, c :: t, Nat.le_trans (Nat.div_le_self _ _) HNn.out, ret_val (by omega), congrArg Value.string (cat_str [c] t), by rw [HD.out, HS.out]; simp⟩
      case measure => simp [intOf]; omega
    · have d1 : decide (9 < (n : Int)) = false := by simp; omega
      have d1n : decide (9 < n) = false := by simp; omega
      have HS : Hid (decDigits n = [UInt8.ofNat (48 + n)]) := show _ = _ by rw [decDigits, dif_pos (by omega)]
      have hcv := digit_of (d := n) (by omega)
      obtain ⟨c, hc⟩ : ∃ c, c = UInt8.ofNat (48 + n) := ⟨_, rfl⟩
      rw [← hc] at HS hcv
      clear hc
      obtain ⟨y1, y1b, y2, y3, y4⟩ := digit_last hcv (by omega)
      have hs1 := str_one c (c.toNat : Int) rfl wr
      have hcl : ¬ 9223372036854775807 < 1 + t.length := by omega
      have BA : Below w.heap.size w (wr.alloc (.cells #[.int .u8 (c.toNat : Int)] 5)) := Br.alloc Br.size _
      have HF : Hid (out = [c] ++ t) := show _ = _ by rw [HD.out, HS.out]
      clear hcv HD HS h9
      go_wp2_with fail
      go_ret
      exact ⟨by rw [HF.out, ← cat_str]; rfl, BA⟩
theorem neg_facts {v : Int} (h0 : lowest ≤ v) (h1 : v < 0) : ∃ m p : Int, IntKind.i64.wrap (v + 1) = p ∧ IntKind.i64.wrap (-p) = m ∧ IntKind.u64.wrap m = m ∧ IntKind.u64.wrap (m + 1) = (v.natAbs : Int) := by
  unfold lowest at h0
  refine ⟨-(v + 1), v + 1, ?_, ?_, ?_, ?_⟩
  · rw [IntKind.wrap_i64]; omega
  · rw [IntKind.wrap_i64]; omega
  · rw [IntKind.wrap_u64]; omega
  · rw [IntKind.wrap_u64]; omega
theorem pos_fact {v : Int} (h0 : 0 ≤ v) (h1 : v ≤ highest) : IntKind.u64.wrap v = (v.toNat : Int) := by
  unfold highest at h1
  rw [IntKind.wrap_u64]; omega
end Go.Proofs.YtfpocpmcoobjkaaDoor
