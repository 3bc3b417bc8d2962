/-
  What utf.CText and the document's CText do, one contract each; no condition beyond what each contract asks.
-/
import Derived.Test.YthaboikiobmfbaaUtfC
import Derived.Test.YthaboikiobmfbaaRef2A
import Derived.Lib.BytesEntry
namespace Go.Proofs.Ythaboikiobmfbaa
open Go.RowKit

/-- How many bytes stand ahead of the first byte 0 (all, if there is none). -/
def nul : List UInt8 → Nat
  | [] => 0
  | b :: l => if b = 0 then 0 else nul l + 1
theorem nul_le (l : List UInt8) : nul l ≤ l.length := by
  induction l with
  | nil => exact Nat.le_refl _
  | cons b l ih =>
    simp only [nul, List.length_cons]
    split <;> omega
theorem indexByte_nul (l : List UInt8) : Lib.indexByte l 0 = if nul l = l.length then -1 else (nul l : Int) := by
  induction l with
  | nil => rfl
  | cons b l ih =>
    have hl := nul_le l
    rw [Lib.indexByte, ih, List.length_cons]
    by_cases hb : b = 0
    · subst hb
      simp [nul]
    · have hb' : (b == 0) = false := by simpa using hb
      have e : nul (b :: l) = nul l + 1 := by simp [nul, hb]
      rw [hb', e]
      by_cases hn : nul l = l.length
      · rw [if_pos hn, hn]
        simp
      · rw [if_neg hn]
        have h1 : ((nul l : Int) == -1) = false := by rw [beq_eq_false_iff_ne]; omega
        have h2 : ¬ nul l + 1 = l.length + 1 := by omega
        rw [h1, if_neg h2]
        simp
theorem nul_byte (l : List UInt8) (i : Nat) (h : i < nul l) : byt l i ≠ 0 := by
  induction l generalizing i with
  | nil => simp [nul] at h
  | cons b l ih =>
    simp only [nul] at h
    split at h
    · omega
    · rename_i hb
      cases i with
      | zero =>
        simp only [byt, List.getD_cons_zero]
        intro e
        exact hb (UInt8.toNat_inj.1 (by simpa using e))
      | succ i =>
        have := ih i (by omega)
        simpa [byt] using this
theorem nul_here (l : List UInt8) (h : nul l < l.length) : byt l (nul l) = 0 := by
  induction l with
  | nil => simp at h
  | cons b l ih =>
    simp only [nul, List.length_cons] at h ⊢
    split
    · rename_i hb
      subst hb
      rfl
    · rename_i hb
      rw [if_neg hb] at h
      have := ih (by omega)
      simpa [byt] using this
theorem byt_drop (l : List UInt8) (k i : Nat) : byt (l.drop k) i = byt l (k + i) := by simp [byt, List.getD]

theorem bytesOf_nat (bs : List UInt8) : Lib.bytesOf (bs.map fun b => (b.toNat : Int)) = bs := by
  induction bs with
  | nil => rfl
  | cons b l ih =>
    simp only [Lib.bytesOf, List.map_cons] at ih ⊢
    rw [ih]
    simp

theorem run_idx {P : Program} {w : World} {M : Nat → Prop} {A : Option Addr} {n : Nat} {bs : List UInt8} (h : Held w M A n bs) (c : Nat) :
    (Extern.BytealgIndexByte.indexByte #[.slice A n c, .int .u8 0]).run P w = .ok (.int .i64 (Lib.indexByte bs 0)) w := by
  by_cases hn : 0 < n
  · obtain ⟨b, o, rfl, _, hc⟩ := h.2 hn
    have := Lib.run_indexByteSlice (P := P) w b o n c (bs.map fun b => (b.toNat : Int)) (by rw [List.length_map, h.1]) (fun i hi => by
      rw [hc i hi]
      have : i < bs.length := by rw [h.1]; exact hi
      simp [List.getD, this]) 0
    rw [this, bytesOf_nat]
    rfl
  · have hn0 : n = 0 := by omega
    subst hn0
    have hb : bs = [] := List.eq_nil_of_length_eq_zero h.1
    subst hb
    cases A with
    | none => exact Lib.run_indexByteNil w 0 c 0
    | some a => exact Lib.run_indexByteNil w 0 c 0

set_option maxHeartbeats 400000 in
theorem index_any (A : Option Addr) (n c : Nat) (bs : List UInt8) (w : World) (M : Nat → Prop) (hh : Held w M A n bs) :
    Calls Try.prog 23 #[.slice A n c, .int .u8 0] w fun e w' => e = .returned (.int .i64 (Lib.indexByte bs 0)) ∧ w = w' := by
  have HH := Lib.hid hh
  clear hh
  go_enter Try.func23, Try.ntmps23
  go_wp2
  rw [run_callFunc_extern Try.func26 (by kernel_rfl) (by kernel_rfl) (by kernel_rfl) (e := Extern.BytealgIndexByte.indexByte) (by kernel_rfl), run_idx HH.out c]
  simp only [Result.andThen]
  rw [Oper.upon_value]
  go_wp2
  go_ret
  exact ⟨rfl, rfl⟩

/-- What is told of a text that a byte 0 ends. -/
def ctext (bs : List UInt8) (k : Int) : List UInt8 × Nat × Nat :=
  if k < 0 ∨ (bs.length : Int) < k then ([], 0, 1)
  else if k.toNat + nul (bs.drop k.toNat) = bs.length then ([], 0, 2)
  else if wholeB ((bs.drop k.toNat).take (nul (bs.drop k.toNat))) = true then ((bs.drop k.toNat).take (nul (bs.drop k.toNat)), k.toNat + nul (bs.drop k.toNat) + 1, 0)
  else ([], 0, 4)
theorem ctext_arg (bs : List UInt8) (k : Int) (h : k < 0 ∨ (bs.length : Int) < k) : ctext bs k = ([], 0, 1) := by unfold ctext; rw [if_pos h]
theorem ctext_short (bs : List UInt8) (k : Nat) (h : k ≤ bs.length) (h' : k + nul (bs.drop k) = bs.length) : ctext bs (k : Int) = ([], 0, 2) := by
  unfold ctext
  rw [if_neg (by omega)]
  exact if_pos h'
theorem ctext_text (bs : List UInt8) (k : Nat) (h : k ≤ bs.length) (h' : k + nul (bs.drop k) ≠ bs.length) (hw : wholeB ((bs.drop k).take (nul (bs.drop k))) = false) : ctext bs (k : Int) = ([], 0, 4) := by
  unfold ctext
  rw [if_neg (by omega)]
  refine (if_neg h').trans (if_neg ?_)
  show ¬ wholeB ((bs.drop k).take (nul (bs.drop k))) = true
  rw [hw]
  simp
theorem ctext_ok (bs : List UInt8) (k : Nat) (h : k ≤ bs.length) (h' : k + nul (bs.drop k) ≠ bs.length) (hw : wholeB ((bs.drop k).take (nul (bs.drop k))) = true) :
    ctext bs (k : Int) = ((bs.drop k).take (nul (bs.drop k)), k + nul (bs.drop k) + 1, 0) := by
  unfold ctext
  rw [if_neg (by omega)]
  exact (if_neg h').trans (if_pos hw)

def ThreePost (r : List UInt8 × Nat × Nat) (w : World) (e : Ending) (w' : World) : Prop :=
  e = .returned (.tuple #[.string ⟨r.1.toArray⟩, .int .i64 (r.2.1 : Int), .int .i64 (r.2.2 : Int)]) ∧ Below w.heap.size w w'
theorem three_post {r r' : List UInt8 × Nat × Nat} {w w' : World} {s : ByteArray} {a b : Int} (h : r' = r) (h1 : s = ⟨r.1.toArray⟩) (h2 : a = (r.2.1 : Int)) (h3 : b = (r.2.2 : Int)) (hb : Below w.heap.size w w') :
    ThreePost r' w (.returned (.tuple #[.string s, .int .i64 a, .int .i64 b])) w' := by
  subst h
  subst h1
  subst h2
  subst h3
  exact ⟨rfl, hb⟩

set_option maxHeartbeats 1000000 in
theorem ctext_any (A : Option Addr) (n c : Nat) (bs : List UInt8) (k : Int) (w : World) (hh : Held w (· < w.heap.size) A n bs) (hcap : n ≤ c) (hn : n ≤ 100000000) :
    Calls Try.prog 17 #[.slice A n c, .int .i64 k] w (ThreePost (ctext bs k) w) := by
  have HH := Lib.hid hh
  clear hh
  by_cases c1 : k < 0
  · have d1 : decide (k < 0) = true := by simpa using c1
    go_enter Try.func17, Try.ntmps17
    go_wp2_with fail
    go_ret3
    exact three_post (ctext_arg bs k (.inl c1)) rfl rfl rfl (Below.refl _ _)
  have d1 : decide (k < 0) = false := by simpa using c1
  obtain ⟨k, rfl⟩ := Int.eq_ofNat_of_zero_le (show 0 ≤ k by omega)
  by_cases c2 : n < k
  · have d2 : decide ((n : Int) < (k : Int)) = true := by simp; omega
    have d2n : decide (n < k) = true := by simp; omega
    go_enter Try.func17, Try.ntmps17
    go_wp2_with fail
    go_ret3
    exact three_post (ctext_arg bs k (.inr (by rw [HH.out.1]; omega))) rfl rfl rfl (Below.refl _ _)
  have d2 : decide ((n : Int) < (k : Int)) = false := by simp; omega
  have d2n : decide (n < k) = false := by simp; omega
  have HL : Hid (bs.length = n) := HH.out.1
  have hz := nul_le (bs.drop k)
  rw [List.length_drop, HL.out] at hz
  have HI := Lib.hid (indexByte_nul (bs.drop k))
  by_cases c3 : c = k
  · obtain rfl : k = n := by omega
    have HP : Hid (Held w (· < w.heap.size) A 0 (bs.drop k)) := by
      have := HH.out.part (k := k) (l := 0) (by omega) A (fun h => by omega)
      rw [List.take_of_length_le (by rw [List.length_drop, HL.out]; omega)] at this
      exact this
    have HZ : Hid (Lib.indexByte (bs.drop k) 0 = -1) := by
      rw [HI.out, if_pos (by rw [List.length_drop, HL.out]; omega)]
      rfl
    subst c3
    go_enter Try.func17, Try.ntmps17
    go_wp2_with fail
    refine (index_any A 0 0 _ w _ HP.out).mono ?_
    rw [HZ.out]
    rintro e w1 ⟨rfl, rfl⟩
    go_wp2_with fail
    go_ret3
    exact three_post (ctext_short bs c (by rw [HL.out]; exact Nat.le_refl _) (by rw [HL.out]; omega)) rfl rfl rfl (Below.refl _ _)
  have HM : Hid (∀ l, 0 < l → ∀ b o, A = some ⟨b, o, none⟩ → A.map (·.add k) = some ⟨b, o + k, none⟩) := by
    intro l _ b o e
    rw [e]
    simp [Addr.add_lit]
  have HP : Hid (Held w (· < w.heap.size) (A.map (·.add k)) (n - k) (bs.drop k)) := by
    have := HH.out.part (k := k) (l := n - k) (by omega) (A.map (·.add k)) (HM.out _)
    rw [List.take_of_length_le (by rw [List.length_drop, HL.out]; omega)] at this
    exact this
  obtain ⟨z, hze⟩ : ∃ z, z = nul (bs.drop k) := ⟨_, rfl⟩
  rw [← hze] at hz
  have HZ := Lib.hid hze
  clear hze
  by_cases c4 : k + z = n
  · have HI' : Hid (Lib.indexByte (bs.drop k) 0 = -1) := by
      rw [HI.out, if_pos (by rw [List.length_drop, HL.out, ← HZ.out]; omega)]
      rfl
    clear HI
    have HE := Lib.hid c4
    clear c4
    go_enter Try.func17, Try.ntmps17
    go_wp2_with fail
    refine (index_any _ (n - k) (c - k) _ w _ HP.out).mono ?_
    rw [HI'.out]
    rintro e w1 ⟨rfl, rfl⟩
    go_wp2_with fail
    go_ret3
    exact three_post (ctext_short bs k (by rw [HL.out]; omega) (by rw [HL.out, ← HZ.out]; exact HE.out)) rfl rfl rfl (Below.refl _ _)
  have HI' : Hid (Lib.indexByte (bs.drop k) 0 = (z : Int)) := by
    rw [HI.out, if_neg (by rw [List.length_drop, HL.out, ← HZ.out]; omega), HZ.out]
    rfl
  clear HI
  have HN : Hid (k + nul (bs.drop k) ≠ bs.length) := show _ ≠ _ by rw [HL.out, ← HZ.out]; exact c4
  have hlt : k + z < n := by omega
  clear c4
  have HT : Hid (Held w (· < w.heap.size) (A.map (·.add k)) z ((bs.drop k).take z)) := HH.out.part (k := k) (l := z) (by omega) _ (HM.out _)
  have dz : decide ((z : Int) < 0) = false := by simp
  go_enter Try.func17, Try.ntmps17
  go_wp2_with fail
  refine (index_any _ (n - k) (c - k) _ w _ HP.out).mono ?_
  rw [HI'.out]
  rintro e w1 ⟨rfl, rfl⟩
  go_wp2_with fail
  refine (check_any _ z (c - k) _ w HT.out (by omega)).mono ?_
  rintro e w1 ⟨rfl, B1⟩
  have hs := run_string (P := Try.prog) 22 9 5 Try.underlying22 Try.underlying5 Try.underlying9 (HT.out.on B1) (c - k)
  obtain ⟨t, hte⟩ : ∃ t, t = (bs.drop k).take z := ⟨_, rfl⟩
  rw [← hte] at hs ⊢
  have HTE : Hid ((bs.drop k).take (nul (bs.drop k)) = t) := show _ = _ by rw [hte, HZ.out]
  clear hte
  cases hw : wholeB t with
  | true =>
    have HW := Lib.hid hw
    clear hw
    go_wp2_with fail
    go_ret3
    exact three_post (ctext_ok bs k (by rw [HL.out]; omega) HN.out (by rw [HTE.out]; exact HW.out)) (by rw [HTE.out]) (by rw [← HZ.out]; rfl) rfl B1
  | false =>
    have HW := Lib.hid hw
    clear hw
    go_wp2_with fail
    go_ret3
    exact three_post (ctext_text bs k (by rw [HL.out]; omega) HN.out (by rw [HTE.out]; exact HW.out)) rfl rfl rfl B1

/-- No byte 0 from k up to j. -/
def RefCutRel (bs : List UInt8) (k : Nat) (i : Value) : Prop := ∃ j : Nat, k ≤ j ∧ j ≤ k + nul (bs.drop k) ∧ i = .int .i64 (j : Int)

set_option maxHeartbeats 1000000 in
theorem ref_ctext_any (A : Option Addr) (n c : Nat) (bs : List UInt8) (k : Int) (w : World) (hh : Held w (· < w.heap.size) A n bs) (hcap : n ≤ c) (hn : n ≤ 100000000) :
    Calls Try.prog 18 #[.slice A n c, .int .i64 k] w (ThreePost (ctext bs k) w) := by
  have HH := Lib.hid hh
  clear hh
  by_cases c1 : k < 0
  · have d1 : decide (k < 0) = true := by simpa using c1
    go_enter Try.func18, Try.ntmps18
    go_wp2_with fail
    go_ret3
    exact three_post (ctext_arg bs k (.inl c1)) rfl rfl rfl (Below.refl _ _)
  have d1 : decide (k < 0) = false := by simpa using c1
  obtain ⟨k, rfl⟩ := Int.eq_ofNat_of_zero_le (show 0 ≤ k by omega)
  by_cases c2 : n < k
  · have d2 : decide ((n : Int) < (k : Int)) = true := by simp; omega
    have d2n : decide (n < k) = true := by simp; omega
    go_enter Try.func18, Try.ntmps18
    go_wp2_with fail
    go_ret3
    exact three_post (ctext_arg bs k (.inr (by rw [HH.out.1]; omega))) rfl rfl rfl (Below.refl _ _)
  have d2 : decide ((n : Int) < (k : Int)) = false := by simp; omega
  have d2n : decide (n < k) = false := by simp; omega
  have HL : Hid (bs.length = n) := HH.out.1
  have hz := nul_le (bs.drop k)
  rw [List.length_drop, HL.out] at hz
  have HM : Hid (∀ l, 0 < l → ∀ b o, A = some ⟨b, o, none⟩ → A.map (·.add k) = some ⟨b, o + k, none⟩) := by
    intro l _ b o e
    rw [e]
    simp [Addr.add_lit]
  have HB : Hid (∀ i, i < nul (bs.drop k) → byt bs (k + i) ≠ 0) := fun i hi => by
    have := nul_byte (bs.drop k) i hi
    rwa [byt_drop] at this
  have HE : Hid (k + nul (bs.drop k) < n → byt bs (k + nul (bs.drop k)) = 0) := fun h => by
    have := nul_here (bs.drop k) (by rw [List.length_drop, HL.out]; omega)
    rwa [byt_drop] at this
  have HN : Hid (nul (bs.drop k) = nul (bs.drop k)) := Lib.hid rfl
  obtain ⟨z, hze⟩ : ∃ z, z = nul (bs.drop k) := ⟨_, rfl⟩
  rw [← hze] at hz HB HE
  have HZ := Lib.hid hze
  clear hze HN
  go_enter Try.func18, Try.ntmps18
  go_wp2_with fail
  go_loop [7] (fun i => RefCutRel bs k i) (fun i => n + 1 - (intOf i).toNat)
  case atStart => exact ⟨k, Nat.le_refl _, Nat.le_add_right _ _, rfl⟩
  case round =>
    obtain ⟨j, hkj, hjz, rfl⟩ := hrel
    rw [← HZ.out] at hjz
    by_cases hlt : j < k + z
    · have d3 : decide ((j : Int) < (n : Int)) = true := by simp; omega
      have d3n : decide (j < n) = true := by simp; omega
      obtain ⟨b, o, rfl, _, hc⟩ := HH.out.2 (by omega)
      have hcj : w.cell? ⟨b, o + j, none⟩ = some (.int .u8 (byt bs j : Int)) := hc j (by omega)
      clear hc
      have hne : byt bs j ≠ 0 := by
        have := HB.out (j - k) (by omega)
        rwa [show k + (j - k) = j by omega] at this
      generalize byt bs j = x at hcj hne
      have d4 : ((x : Int) != 0) = true := by simp; omega
      have d4' : ((x : Int) == 0) = false := by simp; omega
      go_wp2_with fail
      go_round
      case rel => exact ⟨j + 1, by omega, by rw [← HZ.out]; omega, by go_num⟩
      case measure => simp [intOf]; omega
    · obtain rfl : j = k + z := by omega
      by_cases c4 : k + z = n
      · have HE4 := Lib.hid c4
        have d3 : decide (((k + z : Nat) : Int) < (n : Int)) = false := by simp; omega
        have d3n : decide (k + z < n) = false := by simp; omega
        have d3i : decide ((k : Int) + (z : Int) < (n : Int)) = false := by simp; omega
        have d5 : (((k + z : Nat) : Int) == (n : Int)) = true := by simp; omega
        have d6 : ((k : Int) + (z : Int) == (n : Int)) = true := by simp; omega
        clear c4
        go_wp2_with fail
        go_ret3
        exact three_post (ctext_short bs k (by rw [HL.out]; omega) (by rw [HL.out, ← HZ.out]; exact HE4.out)) rfl rfl rfl (Below.refl _ _)
      · have d3 : decide (((k + z : Nat) : Int) < (n : Int)) = true := by simp; omega
        have d3n : decide (k + z < n) = true := by simp; omega
        have d3i : decide ((k : Int) + (z : Int) < (n : Int)) = true := by simp; omega
        have d5 : (((k + z : Nat) : Int) == (n : Int)) = false := by simp; omega
        have d6 : ((k : Int) + (z : Int) == (n : Int)) = false := by simp; omega
        have hN : Hid (k + nul (bs.drop k) ≠ bs.length) := show _ ≠ _ by rw [HL.out, ← HZ.out]; exact c4
        have hc4 : k + z < n := by omega
        clear c4
        obtain ⟨b, o, rfl, _, hc⟩ := HH.out.2 (by omega)
        have HT : Hid (Held w (· < w.heap.size) (some ⟨b, o + k, none⟩) z ((bs.drop k).take z)) := HH.out.part (k := k) (l := z) (by omega) _ (fun _ b' o' e => by
          injection e with e
          injection e with e1 e2
          rw [e1, e2])
        have hcj : w.cell? ⟨b, o + (k + z), none⟩ = some (.int .u8 0) := by
          rw [hc (k + z) hc4]
          have := HE.out hc4
          unfold byt at this
          rw [this]
          rfl
        clear hc
        have c3 : ¬ c = k := by omega
        go_wp2_with fail
        refine (ref_check_any _ z (c - k) _ w HT.out (by omega)).mono ?_
        rintro e w1 ⟨rfl, rfl⟩
        have hs := run_string (P := Try.prog) 22 9 5 Try.underlying22 Try.underlying5 Try.underlying9 HT.out (c - k)
        obtain ⟨t, hte⟩ : ∃ t, t = (bs.drop k).take z := ⟨_, rfl⟩
        rw [← hte] at hs ⊢
        have HTE : Hid ((bs.drop k).take (nul (bs.drop k)) = t) := show _ = _ by rw [hte, HZ.out]
        clear hte HT hcj
        cases hw : wholeB t with
        | true =>
          have HW := Lib.hid hw
          clear hw
          go_wp2_with fail
          go_ret3
          exact three_post (ctext_ok bs k (by rw [HL.out]; omega) hN.out (by rw [HTE.out]; exact HW.out)) (by rw [HTE.out]) (by rw [← HZ.out]; rfl) rfl (Below.refl _ _)
        | false =>
          have HW := Lib.hid hw
          clear hw
          go_wp2_with fail
          go_ret3
          exact three_post (ctext_text bs k (by rw [HL.out]; omega) hN.out (by rw [HTE.out]; exact HW.out)) rfl rfl rfl (Below.refl _ _)

end Go.Proofs.Ythaboikiobmfbaa
