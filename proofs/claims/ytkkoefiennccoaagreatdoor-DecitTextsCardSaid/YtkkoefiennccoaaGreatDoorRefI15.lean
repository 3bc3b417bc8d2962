/-
  What the document's Digits, Int and ParseInt do; no condition beyond what each contract asks.
-/
import Derived.Test.YtkkoefiennccoaaGreatDoorRefP6
import Derived.Test.YtkkoefiennccoaaGreatDoorWholeMath

namespace Go.Proofs.YtkkoefiennccoaaGreatDoor
open Go.RowKit
open Go.Lib (decDigits itoa)
/-- string([]byte{c}). -/
theorem str_one (c : UInt8) (x : Int) (hx : x = (c.toNat : Int)) (W : World) :
    (convert 54 9 (.slice (some ⟨W.heap.size, 0, none⟩) 1 1)).run Tryz.prog (W.alloc (.cells #[.int .u8 x] 5)) = .ok (.string ⟨#[c]⟩) (W.alloc (.cells #[.int .u8 x] 5)) := by
  subst hx
  have hh : Held (W.alloc (.cells #[.int .u8 (c.toNat : Int)] 5)) (· < W.heap.size + 1) (some ⟨W.heap.size, 0, none⟩) 1 [c] :=
    Held.of_row (bs := [c]) (heap_alloc_new W _) rfl (by omega)
  exact run_string (P := Tryz.prog) 54 9 5 Tryz.underlying54 Tryz.underlying5 Tryz.underlying9 hh 1
def most64 : Nat := 18446744073709551615
theorem digit_facts {n : Nat} {c : UInt8} (hcv : c.toNat = 48 + n % 10) : IntKind.u64.wrap (48 + (n : Int) % 10) = (c.toNat : Int) ∧ IntKind.u8.wrap (c.toNat : Int) = (c.toNat : Int) := by
  rw [hcv, IntKind.wrap_u64, IntKind.wrap_u8]
  omega
theorem quo_fact {n : Nat} (h : n ≤ most64) : IntKind.u64.wrap ((n : Int) / 10) = (n : Int) / 10 := by
  unfold most64 at h
  rw [IntKind.wrap_u64]
  omega
theorem digit_last {n : Nat} {c : UInt8} (hcv : c.toNat = 48 + n) (hn : n ≤ 9) : IntKind.u64.wrap (48 + (n : Int)) = (c.toNat : Int) ∧ 48 + (n : Int) = (c.toNat : Int) ∧ IntKind.u8.wrap (c.toNat : Int) = (c.toNat : Int) ∧ IntKind.u64.wrap (c.toNat : Int) = (c.toNat : Int) ∧ (c.toNat : Int) % 256 = (c.toNat : Int) := by
  rw [hcv, IntKind.wrap_u64, IntKind.wrap_u8, IntKind.wrap_u64]
  omega
set_option maxHeartbeats 1000000 in
theorem refDigits_any (u : Nat) (hu : u ≤ most64) (w : World) :
    Calls Tryz.prog 27 #[.int .u64 (u : Int)] w fun x w' => x = .returned (.string ⟨(decDigits u).toArray⟩) ∧ Below w.heap.size w w' := by
  have hlen : (decDigits u).length ≤ 20 := dec_length (by unfold most64 at hu; omega)
  have HU := Lib.hid hu
  clear hu
  obtain ⟨out, ho⟩ : ∃ out, out = decDigits u := ⟨_, rfl⟩
  rw [← ho] at hlen ⊢
  have HO := Lib.hid ho
  clear ho
  go_enter Tryz.func27, Tryz.ntmps27
  go_wp2_with fail
  go_loopw [0, 3] (fun v s wr => Below w.heap.size w wr ∧ ∃ (n : Nat) (t : List UInt8), n ≤ most64 ∧ v = .int .u64 (n : Int) ∧ s = .string ⟨t.toArray⟩ ∧ out = decDigits n ++ t) (fun v _ _ => (intOf v).toNat)
  case atStart => exact ⟨Below.refl _ _, u, [], HU.out, rfl, rfl, by rw [HO.out]; simp⟩
  case round =>
    obtain ⟨Br, n, t, hn, rfl, rfl, hd⟩ := hrel
    have HNn := Lib.hid hn
    clear hn
    have HD := Lib.hid hd
    have htl : t.length ≤ 20 := by have := congrArg List.length hd; simp at this; omega
    clear hd
    by_cases h9 : 9 < n
    · have d1 : decide (9 < (n : Int)) = true := by simp; omega
      have d1n : decide (9 < n) = true := by simp; omega
      have HS : Hid (decDigits n = decDigits (n / 10) ++ [UInt8.ofNat (48 + n % 10)]) := show _ = _ by rw [decDigits, dif_neg (by omega)]
      have hcv := digit_of (d := n % 10) (by omega)
      obtain ⟨c, hc⟩ : ∃ c, c = UInt8.ofNat (48 + n % 10) := ⟨_, rfl⟩
      rw [← hc] at HS hcv
      clear hc
      obtain ⟨y1, y2⟩ := digit_facts hcv
      have y3 := quo_fact HNn.out
      have hs1 := str_one c (c.toNat : Int) rfl wr
      have hcl : ¬ 9223372036854775807 < 1 + t.length := by omega
      clear hcv
      have BA : Below w.heap.size w (wr.alloc (.cells #[.int .u8 (c.toNat : Int)] 5)) := Br.alloc Br.size _
      go_wp2_with fail
      go_roundw
      case rel => exact ⟨BA, n / 10, c :: t, Nat.le_trans (Nat.div_le_self _ _) HNn.out, ret_val (by omega), congrArg Value.string (cat_str [c] t), by rw [HD.out, HS.out]; simp⟩
      case measure => simp [intOf]; omega
    · have d1 : decide (9 < (n : Int)) = false := by simp; omega
      have d1n : decide (9 < n) = false := by simp; omega
      have HS : Hid (decDigits n = [UInt8.ofNat (48 + n)]) := show _ = _ by rw [decDigits, dif_pos (by omega)]
      have hcv := digit_of (d := n) (by omega)
      obtain ⟨c, hc⟩ : ∃ c, c = UInt8.ofNat (48 + n) := ⟨_, rfl⟩
      rw [← hc] at HS hcv
      clear hc
      obtain ⟨y1, y1b, y2, y3, y4⟩ := digit_last hcv (by omega)
      have hs1 := str_one c (c.toNat : Int) rfl wr
      have hcl : ¬ 9223372036854775807 < 1 + t.length := by omega
      have BA : Below w.heap.size w (wr.alloc (.cells #[.int .u8 (c.toNat : Int)] 5)) := Br.alloc Br.size _
      have HF : Hid (out = [c] ++ t) := show _ = _ by rw [HD.out, HS.out]
      clear hcv HD HS h9
      go_wp2_with fail
      go_ret
      exact ⟨by rw [HF.out, ← cat_str]; rfl, BA⟩
theorem neg_facts {v : Int} (h0 : lowest ≤ v) (h1 : v < 0) : ∃ m p : Int, IntKind.i64.wrap (v + 1) = p ∧ IntKind.i64.wrap (-p) = m ∧ IntKind.u64.wrap m = m ∧ IntKind.u64.wrap (m + 1) = (v.natAbs : Int) := by
  unfold lowest at h0
  refine ⟨-(v + 1), v + 1, ?_, ?_, ?_, ?_⟩
  · rw [IntKind.wrap_i64]; omega
  · rw [IntKind.wrap_i64]; omega
  · rw [IntKind.wrap_u64]; omega
  · rw [IntKind.wrap_u64]; omega
theorem pos_fact {v : Int} (h0 : 0 ≤ v) (h1 : v ≤ highest) : IntKind.u64.wrap v = (v.toNat : Int) := by
  unfold highest at h1
  rw [IntKind.wrap_u64]; omega
set_option maxHeartbeats 1000000 in
theorem refInt_any (v : Int) (h0 : lowest ≤ v) (h1 : v ≤ highest) (w : World) :
    Calls Tryz.prog 12 #[.int .i64 v] w fun x w' => x = .returned (.string ⟨(itoa v).toArray⟩) ∧ Below w.heap.size w w' := by
  by_cases hv : v < 0
  · have d0 : decide (v < 0) = true := by simpa using hv
    obtain ⟨m, p, y1, y2, y3, y4⟩ := neg_facts h0 hv
    have hu : v.natAbs ≤ most64 := by unfold most64; unfold lowest at h0; omega
    have hlen : (decDigits v.natAbs).length ≤ 20 := dec_length (by unfold most64 at hu; omega)
    have c := Lib.hid (fun w => refDigits_any v.natAbs hu w)
    have HE := Lib.hid (itoa_neg hv)
    generalize itoa v = out at HE ⊢
    generalize hu2 : v.natAbs = u at c HE y4 hlen
    generalize decDigits u = t at c HE hlen
    have hcl : ¬ 9223372036854775807 < 1 + t.length := by omega
    clear h0 h1 hu hv hu2 hlen
    go_enter Tryz.func12, Tryz.ntmps12
    go_wp2_with (go_at_call 27; refine (c.out _).mono ?_; rintro e w1 ⟨rfl, hb⟩)
    go_wp2_with fail
    go_ret
    exact ⟨by rw [HE.out, show (45 :: t : List UInt8) = [45] ++ t from rfl, ← cat_str]; rfl, hb⟩
  · have d0 : decide (v < 0) = false := by simpa using hv
    have y1 := pos_fact (by omega) h1
    have hu : v.toNat ≤ most64 := by unfold most64; unfold highest at h1; omega
    have c := Lib.hid (fun w => refDigits_any v.toNat hu w)
    have HE := Lib.hid (itoa_pos hv)
    generalize itoa v = out at HE ⊢
    generalize v.toNat = u at c HE y1
    clear h0 h1 hu hv
    go_enter Tryz.func12, Tryz.ntmps12
    go_wp2_with (go_at_call 27; refine (c.out _).mono ?_; rintro e w1 ⟨rfl, hb⟩)
    go_wp2_with fail
    go_ret
    exact ⟨by rw [HE.out]; rfl, hb⟩
end Go.Proofs.YtkkoefiennccoaaGreatDoor
