/-
  What the document's Name, Code and Digits do; no condition beyond what each contract asks.
-/
import Derived.Test.YtbfneeggfaoeaaaDoorRefA5
namespace Go.Proofs.YtbfneeggfaoeaaaDoor
open Go.RowKit
open Go.Lib (decDigits)

set_option maxHeartbeats 1000000 in
theorem refName_any (e : Int) (w : World) :
    Calls Tryd.prog 12 #[.int .i64 e] w fun x w' => x = .returned (.string ⟨(nameOf e).toArray⟩) ∧ Below w.heap.size w w' := by
  have B1 : Below w.heap.size w (w.alloc (.cells #[.string ⟨#[79, 75]⟩, .string ⟨#[69, 65, 82, 71]⟩, .string ⟨#[69, 83, 72, 79, 82, 84]⟩, .string ⟨#[69, 70, 79, 82, 77]⟩, .string ⟨#[69, 84, 69, 88, 84]⟩, .string ⟨#[69, 75, 73, 78, 68]⟩, .string ⟨#[69, 76, 69, 78]⟩, .string ⟨#[69, 77, 79, 82, 69]⟩, .string ⟨#[69, 68, 69, 69, 80]⟩, .string ⟨#[69, 83, 73, 90, 69]⟩, .string ⟨#[69, 78, 85, 77]⟩, .string ⟨#[69, 87, 82, 65, 80]⟩, .string ⟨#[69, 77, 65, 80]⟩] 9)) := (Below.refl _ _).alloc (Nat.le_refl _) _
  obtain ⟨l, hl⟩ : ∃ l, l = nameOf e := ⟨_, rfl⟩
  rw [← hl]
  have HL := Lib.hid hl
  clear hl
  by_cases h0 : e < 0
  · have d0 : decide (e < 0) = true := by simpa using h0
    have HN : Hid (l = []) := show _ = _ by rw [HL.out, nameOf_none (.inl h0)]
    go_enter Tryd.func12, Tryd.ntmps12
    go_wp2_with fail
    go_ret
    exact ⟨by rw [HN.out]; rfl, B1⟩
  · have d0 : decide (e < 0) = false := by simpa using h0
    by_cases h1 : 13 ≤ e
    · have d1 : decide (13 ≤ e) = true := by simpa using h1
      have HN : Hid (l = []) := show _ = _ by rw [HL.out, nameOf_none (.inr h1)]
      go_enter Tryd.func12, Tryd.ntmps12
      go_wp2_with fail
      go_ret
      exact ⟨by rw [HN.out]; rfl, B1⟩
    · have d1 : decide (13 ≤ e) = false := by simpa using h1
      have HN : Hid (l = nameAt e.toNat) := show _ = _ by rw [HL.out, nameOf_some (by omega) (by omega)]
      obtain ⟨k, rfl⟩ : ∃ k : Nat, e = (k : Int) := ⟨e.toNat, by omega⟩
      have hk : k < 13 := by omega
      have hc : (w.alloc (.cells #[.string ⟨#[79, 75]⟩, .string ⟨#[69, 65, 82, 71]⟩, .string ⟨#[69, 83, 72, 79, 82, 84]⟩, .string ⟨#[69, 70, 79, 82, 77]⟩, .string ⟨#[69, 84, 69, 88, 84]⟩, .string ⟨#[69, 75, 73, 78, 68]⟩, .string ⟨#[69, 76, 69, 78]⟩, .string ⟨#[69, 77, 79, 82, 69]⟩, .string ⟨#[69, 68, 69, 69, 80]⟩, .string ⟨#[69, 83, 73, 90, 69]⟩, .string ⟨#[69, 78, 85, 77]⟩, .string ⟨#[69, 87, 82, 65, 80]⟩, .string ⟨#[69, 77, 65, 80]⟩] 9)).cell? ⟨w.heap.size, k, none⟩ = some (.string ⟨(nameAt k).toArray⟩) := by
        rw [block_cell (heap_alloc_new w _)]
        exact nameCells_at hk
      rw [Int.toNat_natCast] at HN
      generalize nameAt k = n at hc HN
      go_enter Tryd.func12, Tryd.ntmps12
      go_wp2_with fail
      go_ret
      exact ⟨by rw [HN.out]; rfl, B1⟩

theorem code_some {r : Option Nat} {k : Nat} (h : r = some k) : Ending.returned (.tuple #[.int .i64 (k : Int), .bool true]) = .returned (codeR r) := by rw [h]; rfl
theorem code_none {r : Option Nat} (h : r = none) : Ending.returned (.tuple #[.int .i64 0, .bool false]) = .returned (codeR r) := by rw [h]; rfl

set_option maxHeartbeats 1000000 in
theorem refCode_any (s : List UInt8) (w : World) :
    Calls Tryd.prog 10 #[.string ⟨s.toArray⟩] w fun x w' => x = .returned (codeR (codeOf s)) ∧ Below w.heap.size w w' := by
  obtain ⟨r, hr⟩ : ∃ r, r = codeOf s := ⟨_, rfl⟩
  rw [← hr]
  have HR := Lib.hid hr
  clear hr
  go_enter Tryd.func10, Tryd.ntmps10
  go_wp2_with fail
  go_loopw [4] (fun i wr => Below w.heap.size w wr ∧ ∃ k : Nat, k ≤ 13 ∧ i = .int .i64 (k : Int) ∧ r = codeAt s k) (fun i _ => 13 - (intOf i).toNat)
  case atStart => exact ⟨Below.refl _ _, 0, by omega, rfl, HR.out⟩
  case round =>
    obtain ⟨Br, k, hk, rfl, hc⟩ := hrel
    have HC := Lib.hid hc
    clear hc
    by_cases h13 : k < 13
    · have d1 : decide ((k : Int) ≤ 12) = true := by simp; omega
      have d1n : decide (k ≤ 12) = true := by simp; omega
      have HS := Lib.hid (codeAt_step (s := s) h13)
      have HNm : Hid (nameOf (k : Int) = nameAt k) := show _ = _ by rw [nameOf_some (by omega) (by omega)]; simp
      go_wp2_with fail
      refine (refName_any (k : Int) wr).mono ?_
      rintro x w1 ⟨rfl, B1⟩
      have B1' : Below w.heap.size w w1 := Br.trans (B1.mono Br.size)
      rw [HNm.out]
      clear B1 Br
      by_cases hn : nameAt k = s
      · have HF : Hid (r = some k) := show _ = _ by rw [HC.out, HS.out, if_pos hn]
        have de : (nameAt k == s) = true := by simpa using hn
        clear hn HS HC HNm
        generalize nameAt k = l at de ⊢
        go_wp2_with fail
        go_ret2
        exact ⟨code_some HF.out, B1'⟩
      · have HF : Hid (r = codeAt s (k + 1)) := show _ = _ by rw [HC.out, HS.out, if_neg hn]
        have de : (nameAt k == s) = false := by simpa using hn
        clear hn HS HC HNm
        generalize nameAt k = l at de ⊢
        go_wp2_with fail
        go_roundw
        case rel => exact ⟨B1', k + 1, by omega, ret_val (by omega), HF.out⟩
        case measure => simp [intOf]; omega
    · obtain rfl : k = 13 := by omega
      have HF : Hid (r = none) := show _ = _ by rw [HC.out, codeAt_end (by omega)]
      go_wp2_with fail
      go_ret2
      exact ⟨code_none HF.out, Br⟩

/-- Two texts, one behind the other. -/
theorem cat_str (u v : List UInt8) : (⟨u.toArray⟩ : ByteArray) ++ (⟨v.toArray⟩ : ByteArray) = ⟨(u ++ v).toArray⟩ := by
  apply ByteArray.ext
  rw [ByteArray.data_append]
  simp
/-- string([]byte{c}). -/
theorem str_one (c : UInt8) (x : Int) (hx : x = (c.toNat : Int)) (W : World) :
    (convert 49 9 (.slice (some ⟨W.heap.size, 0, none⟩) 1 1)).run Tryd.prog (W.alloc (.cells #[.int .u8 x] 5)) = .ok (.string ⟨#[c]⟩) (W.alloc (.cells #[.int .u8 x] 5)) := by
  subst hx
  have hh : Held (W.alloc (.cells #[.int .u8 (c.toNat : Int)] 5)) (· < W.heap.size + 1) (some ⟨W.heap.size, 0, none⟩) 1 [c] :=
    Held.of_row (bs := [c]) (heap_alloc_new W _) rfl (by omega)
  exact run_string (P := Tryd.prog) 49 9 5 Tryd.underlying49 Tryd.underlying5 Tryd.underlying9 hh 1

set_option maxHeartbeats 1000000 in
theorem refDigits_any (u : Nat) (hu : u ≤ 9223372036854775807) (w : World) :
    Calls Tryd.prog 26 #[.int .u64 (u : Int)] w fun x w' => x = .returned (.string ⟨(decDigits u).toArray⟩) ∧ Below w.heap.size w w' := by
  have hlen : (decDigits u).length ≤ 20 := dec_length (by omega)
  obtain ⟨out, ho⟩ : ∃ out, out = decDigits u := ⟨_, rfl⟩
  rw [← ho] at hlen ⊢
  have HO := Lib.hid ho
  clear ho
  go_enter Tryd.func26, Tryd.ntmps26
  go_wp2_with fail
  go_loopw [0, 3] (fun v s wr => Below w.heap.size w wr ∧ ∃ (n : Nat) (t : List UInt8), n ≤ 9223372036854775807 ∧ v = .int .u64 (n : Int) ∧ s = .string ⟨t.toArray⟩ ∧ out = decDigits n ++ t) (fun v _ _ => (intOf v).toNat)
  case atStart => exact ⟨Below.refl _ _, u, [], hu, rfl, rfl, by rw [HO.out]; simp⟩
  case round =>
    obtain ⟨Br, n, t, hn, rfl, rfl, hd⟩ := hrel
    have HD := Lib.hid hd
    have htl : t.length ≤ 20 := by have := congrArg List.length hd; simp at this; omega
    clear hd
    by_cases h9 : 9 < n
    · have d1 : decide (9 < (n : Int)) = true := by simp; omega
      have d1n : decide (9 < n) = true := by simp; omega
      have HS : Hid (decDigits n = decDigits (n / 10) ++ [UInt8.ofNat (48 + n % 10)]) := show _ = _ by rw [decDigits, dif_neg (by omega)]
      have hcv := digit_of (d := n % 10) (by omega)
      obtain ⟨c, hc⟩ : ∃ c, c = UInt8.ofNat (48 + n % 10) := ⟨_, rfl⟩
      rw [← hc] at HS hcv
      clear hc
      have y1 : IntKind.u64.wrap (48 + (n : Int) % 10) = (c.toNat : Int) := by rw [hcv, IntKind.wrap_u64]; omega
      have y2 : IntKind.u8.wrap (c.toNat : Int) = (c.toNat : Int) := by rw [hcv, IntKind.wrap_u8]; omega
      have hs1 := str_one c (c.toNat : Int) rfl wr
      have hcl : ¬ 9223372036854775807 < 1 + t.length := by omega
      clear hcv
      have BA : Below w.heap.size w (wr.alloc (.cells #[.int .u8 (c.toNat : Int)] 5)) := Br.alloc Br.size _
      go_wp2_with fail
      go_roundw
      case rel => exact ⟨BA, n / 10, c :: t, by omega, ret_val (by omega), congrArg Value.string (cat_str [c] t), by rw [HD.out, HS.out]; simp⟩
      case measure => simp [intOf]; omega
    · have d1 : decide (9 < (n : Int)) = false := by simp; omega
      have d1n : decide (9 < n) = false := by simp; omega
      have HS : Hid (decDigits n = [UInt8.ofNat (48 + n)]) := show _ = _ by rw [decDigits, dif_pos (by omega)]
      have hcv := digit_of (d := n) (by omega)
      obtain ⟨c, hc⟩ : ∃ c, c = UInt8.ofNat (48 + n) := ⟨_, rfl⟩
      rw [← hc] at HS hcv
      clear hc
      have y1 : IntKind.u64.wrap (48 + (n : Int)) = (c.toNat : Int) := by rw [hcv, IntKind.wrap_u64]; omega
      have y1b : 48 + (n : Int) = (c.toNat : Int) := by omega
      have y2 : IntKind.u8.wrap (c.toNat : Int) = (c.toNat : Int) := by rw [hcv, IntKind.wrap_u8]; omega
      have hs1 := str_one c (c.toNat : Int) rfl wr
      have hcl : ¬ 9223372036854775807 < 1 + t.length := by omega
      have BA : Below w.heap.size w (wr.alloc (.cells #[.int .u8 (c.toNat : Int)] 5)) := Br.alloc Br.size _
      have HF : Hid (out = [c] ++ t) := show _ = _ by rw [HD.out, HS.out]
      have y3 : IntKind.u64.wrap (c.toNat : Int) = (c.toNat : Int) := by rw [hcv, IntKind.wrap_u64]; omega
      have y4 : (c.toNat : Int) % 256 = (c.toNat : Int) := by rw [hcv]; omega
      clear hcv HD HS h9 hn
      go_wp2_with fail
      go_ret
      exact ⟨by rw [HF.out, ← cat_str]; rfl, BA⟩

end Go.Proofs.YtbfneeggfaoeaaaDoor
