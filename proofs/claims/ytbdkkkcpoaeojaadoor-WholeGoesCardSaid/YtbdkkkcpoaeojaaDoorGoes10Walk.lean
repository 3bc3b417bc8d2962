/-
  The walk of the law WholeGoes; no condition but that the numbers are ones of 64 bits, and that the package-level variables hold what the statement lists.
-/
import Derived.Test.YtbdkkkcpoaeojaaDoorAwake10
namespace Go.Proofs.YtbdkkkcpoaeojaaDoor
open Go.RowKit
open Go.Lib (itoa decDigits)

/-- The lowest bit. -/
theorem and_one (x : Int) : ∃ a : Nat, a ≤ 1 ∧ bits .and .i64 x 1 = (a : Int) := by
  have hle : (BitVec.ofInt IntKind.i64.bits x &&& BitVec.ofInt IntKind.i64.bits 1).toNat ≤ 1 := by
    rw [BitVec.toNat_and]
    refine Nat.le_trans Nat.and_le_right ?_
    decide
  refine ⟨_, hle, ?_⟩
  unfold bits
  rw [IntKind.wrap_i64]
  simp only
  omega
theorem wr64 {x : Nat} (h : x < 4611686018427387904) : wrap64 (x : Int) = (x : Int) := by unfold wrap64; omega
theorem lexU_cases (u : List UInt8) : lexU u = 0 ∨ lexU u = 1 ∨ lexU u = 2 := by
  unfold lexU
  split
  · exact .inl rfl
  · split
    · exact .inl rfl
    · split
      · exact .inl rfl
      · split
        · exact .inr (.inr rfl)
        · exact .inr (.inl rfl)
/-- The signs. -/
def plusAt (i : Nat) : List UInt8 := if i = 0 then [] else if i = 1 then [43] else [45]
theorem plus_cases (i : Nat) : plusAt i = [] ∨ plusAt i = [43] ∨ plusAt i = [45] := by
  unfold plusAt
  split
  · exact .inl rfl
  · split
    · exact .inr (.inl rfl)
    · exact .inr (.inr rfl)
theorem plus_le {p : List UInt8} (h : p = [] ∨ p = [43] ∨ p = [45]) : p.length ≤ 1 := by
  rcases h with rfl | rfl | rfl <;> simp
theorem plus_cell (w : World) {i : Nat} (h : i < 3) : (w.alloc (.cells #[.string ⟨#[]⟩, .string ⟨#[43]⟩, .string ⟨#[45]⟩] 9)).cell? ⟨w.heap.size, i, none⟩ = some (.string ⟨(plusAt i).toArray⟩) := by
  rw [block_cell (heap_alloc_new w _)]
  rcases (by omega : i = 0 ∨ i = 1 ∨ i = 2) with rfl | rfl | rfl <;> rfl
/-- The library's Lexeme at a text that was put together. -/
theorem lexeme_at (x : ByteArray) (l : List UInt8) (m : Nat) (hx : x = ⟨l.toArray⟩) (hl : l.length ≤ 1000000000) (hm : lexP l = m) (w : World) (hL : Laid w) :
    Calls Tryd.prog 12 #[.string x] w fun e w' => e = .returned (.int .i64 (m : Int)) ∧ Below w.heap.size w w' := by
  subst hx hm
  exact lexeme_any l hl w hL

set_option maxHeartbeats 1000000 in
theorem goes_any (s : List UInt8) (n : Nat) (hn : n ≤ most64) (sg : Int) (w : World) (hL : Laid w) :
    Calls Tryd.prog 6 #[.string ⟨s.toArray⟩, .int .u64 (n : Int), .int .i64 sg] w fun x w' => x = .returned (.bool true) ∧ Below w.heap.size w w' := by
  have cA := Lib.hid (awake_any w hL)
  by_cases hl : 200 < s.length
  · have d1 : decide (200 < (s.length : Int)) = true := by simp; omega
    have d1n : decide (200 < s.length) = true := by simpa using hl
    clear hl
    go_enter Tryd.func6, Tryd.ntmps6
    go_wp2_with (go_at_call 7; with_reducible refine (cA.out).mono ?_; rintro e w1 ⟨rfl, b1⟩; refine Hid.out ?_)
    refine Lib.hid ?_
    go_wp2_with fail
    go_ret
    exact ⟨rfl, b1⟩
  by_cases h0 : s = []
  · subst h0
    clear hl
    go_enter Tryd.func6, Tryd.ntmps6
    go_wp2_with (go_at_call 7; with_reducible refine (cA.out).mono ?_; rintro e w1 ⟨rfl, b1⟩; refine Hid.out ?_)
    refine Lib.hid ?_
    go_wp2_with fail
    go_ret
    exact ⟨rfl, b1⟩
  have d1 : decide (200 < (s.length : Int)) = false := by simp; omega
  have d1n : decide (200 < s.length) = false := by simpa using hl
  have e0 : (s == []) = false := by simpa using h0
  have hdl : (decDigits n).length ≤ 20 := dec_length (by unfold most64 at hn; omega)
  have hdd := dec_digs n
  have c1 := Lib.hid (fun w hw => lexeme_any s (by omega) w hw)
  have c2 := Lib.hid (fun w => refDigits_any n hn w)
  generalize decDigits n = d at hdl hdd c2
  obtain ⟨k, hk⟩ : ∃ k, k = lexP s := ⟨_, rfl⟩
  rw [← hk] at c1
  have HK := Lib.hid hk
  clear hk
  have hpos : 0 < s.length := List.length_pos_iff.2 h0
  have x0 := fun (w : World) => at_txt s .i64 0 0 rfl hpos w
  obtain ⟨i1, hi1, y1⟩ := and_one sg
  obtain ⟨i2, hi2, y2⟩ := and_one (sg / 2)
  obtain ⟨i, hi⟩ : ∃ i, i = i1 + i2 := ⟨_, rfl⟩
  have hi3 : i < 3 := by omega
  have y3 : wrap64 ((i1 : Int) + (i2 : Int)) = (i : Int) := by rw [hi, ← Int.natCast_add]; exact wr64 (by omega)
  have hpc := plus_cases i
  have hcell := fun w => plus_cell w hi3
  generalize plusAt i = p at hpc hcell
  have hpl := plus_le hpc
  clear hi hi1 hi2
  have cC := Lib.hid hcell
  clear hcell
  have hcs : k = 0 ∨ k = 1 ∨ k = 2 := by
    rw [HK.out, lexP_trim]
    exact lexU_cases _
  have hminus : s.getD 0 0 ≠ 45 → lexP (45 :: s) = k := fun h => by rw [lexP_minus h0 h]; exact HK.out.symm
  have hslen : s.length ≤ 200 := by omega
  generalize s.getD 0 0 = c0 at x0 hminus
  have e45 : (45 : UInt8).toNat = 45 := rfl
  have hc0 : (((c0.toNat : Int) != 45) = false) ∨ ((((c0.toNat : Int) != 45) = true) ∧ lexP (45 :: s) = k) := by
    by_cases h : c0 = 45
    · left; rw [h]; rfl
    · right
      have h1 : c0.toNat ≠ 45 := fun e => h (UInt8.toNat_inj.1 (e.trans e45.symm))
      exact ⟨bne_iff_ne.2 (by omega), hminus h⟩
  clear hminus e45
  rcases hcs with rfl | rfl | rfl
  · rcases hc0 with g0 | ⟨g0, hm0⟩
    · clear hpc hdd h0 hn
      go_enter Tryd.func6, Tryd.ntmps6
      go_wp2_with (go_at_call 7; with_reducible refine (cA.out).mono ?_; rintro e w1 ⟨rfl, b1⟩; refine Hid.out ?_)
      have l1 := hL.after b1
      refine Lib.hid ?_
      go_wp2_with (go_at_call 12; with_reducible refine (c1.out _ l1).mono ?_; rintro e w2 ⟨rfl, b2⟩; refine Hid.out ?_)
      have k2 : Below w.heap.size w w2 := b1.trans (b2.mono b1.size)
      have l2 := l1.after b2
      refine Lib.hid ?_
      go_wp2_with (go_at_call 14; with_reducible refine (c2.out _).mono ?_; rintro e w3 ⟨rfl, b3⟩; refine Hid.out ?_)
      have k3 : Below w.heap.size w w3 := k2.trans (b3.mono k2.size)
      have l3 := l2.after b3
      refine Lib.hid ?_
      have hk1 := cC.out w3
      have b4 : Below w3.heap.size w3 (w3.alloc (.cells #[.string ⟨#[]⟩, .string ⟨#[43]⟩, .string ⟨#[45]⟩] 9)) := (Below.refl _ _).alloc (Nat.le_refl _) _
      have kw4 : Below w.heap.size w (w3.alloc (.cells #[.string ⟨#[]⟩, .string ⟨#[43]⟩, .string ⟨#[45]⟩] 9)) := k3.trans (b4.mono k3.size)
      have lw4 := l3.after b4
      clear b4
      go_wp2_with fail
      go_ret
      exact ⟨rfl, kw4⟩
    · have m0 : Hid (∀ w, Laid w → Calls Tryd.prog 12 #[.string ((⟨#[45]⟩ : ByteArray) ++ (⟨s.toArray⟩ : ByteArray))] w fun e w' => e = .returned (.int .i64 (0 : Int)) ∧ Below w.heap.size w w') := fun w hw =>
        lexeme_at _ (45 :: s) 0 (by
          show ((⟨([45]).toArray⟩ : ByteArray) ++ (⟨(s : List UInt8).toArray⟩ : ByteArray)) = _
          rw [cat_str]
          try simp) (by simp; omega) (hm0) w hw
      clear hm0 hpc hdd h0 hn
      go_enter Tryd.func6, Tryd.ntmps6
      go_wp2_with (go_at_call 7; with_reducible refine (cA.out).mono ?_; rintro e w1 ⟨rfl, b1⟩; refine Hid.out ?_)
      have l1 := hL.after b1
      refine Lib.hid ?_
      go_wp2_with (go_at_call 12; with_reducible refine (c1.out _ l1).mono ?_; rintro e w2 ⟨rfl, b2⟩; refine Hid.out ?_)
      have k2 : Below w.heap.size w w2 := b1.trans (b2.mono b1.size)
      have l2 := l1.after b2
      refine Lib.hid ?_
      go_wp2_with (go_at_call 14; with_reducible refine (c2.out _).mono ?_; rintro e w3 ⟨rfl, b3⟩; refine Hid.out ?_)
      have k3 : Below w.heap.size w w3 := k2.trans (b3.mono k2.size)
      have l3 := l2.after b3
      refine Lib.hid ?_
      have hk1 := cC.out w3
      have b4 : Below w3.heap.size w3 (w3.alloc (.cells #[.string ⟨#[]⟩, .string ⟨#[43]⟩, .string ⟨#[45]⟩] 9)) := (Below.refl _ _).alloc (Nat.le_refl _) _
      have kw4 : Below w.heap.size w (w3.alloc (.cells #[.string ⟨#[]⟩, .string ⟨#[43]⟩, .string ⟨#[45]⟩] 9)) := k3.trans (b4.mono k3.size)
      have lw4 := l3.after b4
      clear b4
      go_wp2_with (go_at_call 12; with_reducible refine (m0.out _ lw4).mono ?_; rintro e w5 ⟨rfl, bw5⟩; refine Hid.out ?_)
      have kw5 : Below w.heap.size w w5 := kw4.trans (bw5.mono kw4.size)
      have lw5 := lw4.after bw5
      clear bw5
      refine Lib.hid ?_
      go_wp2_with fail
      go_ret
      exact ⟨rfl, kw5⟩
  · have m1 : Hid (∀ w, Laid w → Calls Tryd.prog 12 #[.string (((⟨s.toArray⟩ : ByteArray) ++ (⟨#[46]⟩ : ByteArray)) ++ (⟨d.toArray⟩ : ByteArray))] w fun e w' => e = .returned (.int .i64 (2 : Int)) ∧ Below w.heap.size w w') := fun w hw =>
      lexeme_at _ (s ++ 46 :: d) 2 (by
        show (((⟨(s).toArray⟩ : ByteArray) ++ (⟨([46] : List UInt8).toArray⟩ : ByteArray)) ++ (⟨(d : List UInt8).toArray⟩ : ByteArray)) = _
        rw [cat_str, cat_str]
        try simp) (by simp; omega) (goes_frac h0 HK.out.symm hdd) w hw
    have m2 : Hid (∀ w, Laid w → Calls Tryd.prog 12 #[.string ((((⟨s.toArray⟩ : ByteArray) ++ (⟨#[101]⟩ : ByteArray)) ++ (⟨p.toArray⟩ : ByteArray)) ++ (⟨d.toArray⟩ : ByteArray))] w fun e w' => e = .returned (.int .i64 (2 : Int)) ∧ Below w.heap.size w w') := fun w hw =>
      lexeme_at _ (s ++ 101 :: (p ++ d)) 2 (by
        show ((((⟨(s).toArray⟩ : ByteArray) ++ (⟨([101] : List UInt8).toArray⟩ : ByteArray)) ++ (⟨(p : List UInt8).toArray⟩ : ByteArray)) ++ (⟨(d : List UInt8).toArray⟩ : ByteArray)) = _
        rw [cat_str, cat_str, cat_str]
        try simp) (by simp; omega) (goes_exp h0 HK.out.symm hdd hpc) w hw
    have m3 : Hid (∀ w, Laid w → Calls Tryd.prog 12 #[.string ((((((⟨s.toArray⟩ : ByteArray) ++ (⟨#[46]⟩ : ByteArray)) ++ (⟨d.toArray⟩ : ByteArray)) ++ (⟨#[69]⟩ : ByteArray)) ++ (⟨p.toArray⟩ : ByteArray)) ++ (⟨d.toArray⟩ : ByteArray))] w fun e w' => e = .returned (.int .i64 (2 : Int)) ∧ Below w.heap.size w w') := fun w hw =>
      lexeme_at _ (s ++ (46 :: d ++ 69 :: (p ++ d))) 2 (by
        show ((((((⟨(s).toArray⟩ : ByteArray) ++ (⟨([46] : List UInt8).toArray⟩ : ByteArray)) ++ (⟨(d : List UInt8).toArray⟩ : ByteArray)) ++ (⟨([69] : List UInt8).toArray⟩ : ByteArray)) ++ (⟨(p : List UInt8).toArray⟩ : ByteArray)) ++ (⟨(d : List UInt8).toArray⟩ : ByteArray)) = _
        rw [cat_str, cat_str, cat_str, cat_str, cat_str]
        try simp) (by simp; omega) (goes_both h0 HK.out.symm hdd hpc) w hw
    have m4 : Hid (∀ w, Laid w → Calls Tryd.prog 12 #[.string ((⟨s.toArray⟩ : ByteArray) ++ (⟨#[46]⟩ : ByteArray))] w fun e w' => e = .returned (.int .i64 (0 : Int)) ∧ Below w.heap.size w w') := fun w hw =>
      lexeme_at _ (s ++ [46]) 0 (by
        show ((⟨(s).toArray⟩ : ByteArray) ++ (⟨([46] : List UInt8).toArray⟩ : ByteArray)) = _
        rw [cat_str]
        try simp) (by simp; omega) (goes_dot h0 HK.out.symm) w hw
    rcases hc0 with g0 | ⟨g0, hm0⟩
    · clear hpc hdd h0 hn
      go_enter Tryd.func6, Tryd.ntmps6
      go_wp2_with (go_at_call 7; with_reducible refine (cA.out).mono ?_; rintro e w1 ⟨rfl, b1⟩; refine Hid.out ?_)
      have l1 := hL.after b1
      refine Lib.hid ?_
      go_wp2_with (go_at_call 12; with_reducible refine (c1.out _ l1).mono ?_; rintro e w2 ⟨rfl, b2⟩; refine Hid.out ?_)
      have k2 : Below w.heap.size w w2 := b1.trans (b2.mono b1.size)
      have l2 := l1.after b2
      refine Lib.hid ?_
      go_wp2_with (go_at_call 14; with_reducible refine (c2.out _).mono ?_; rintro e w3 ⟨rfl, b3⟩; refine Hid.out ?_)
      have k3 : Below w.heap.size w w3 := k2.trans (b3.mono k2.size)
      have l3 := l2.after b3
      refine Lib.hid ?_
      have hk1 := cC.out w3
      have b4 : Below w3.heap.size w3 (w3.alloc (.cells #[.string ⟨#[]⟩, .string ⟨#[43]⟩, .string ⟨#[45]⟩] 9)) := (Below.refl _ _).alloc (Nat.le_refl _) _
      have kw4 : Below w.heap.size w (w3.alloc (.cells #[.string ⟨#[]⟩, .string ⟨#[43]⟩, .string ⟨#[45]⟩] 9)) := k3.trans (b4.mono k3.size)
      have lw4 := l3.after b4
      clear b4
      go_wp2_with (go_at_call 12; with_reducible refine (m1.out _ lw4).mono ?_; rintro e w5 ⟨rfl, bw5⟩; refine Hid.out ?_)
      have kw5 : Below w.heap.size w w5 := kw4.trans (bw5.mono kw4.size)
      have lw5 := lw4.after bw5
      clear bw5
      refine Lib.hid ?_
      go_wp2_with (go_at_call 12; with_reducible refine (m2.out _ lw5).mono ?_; rintro e w6 ⟨rfl, bw6⟩; refine Hid.out ?_)
      have kw6 : Below w.heap.size w w6 := kw5.trans (bw6.mono kw5.size)
      have lw6 := lw5.after bw6
      clear bw6
      refine Lib.hid ?_
      go_wp2_with (go_at_call 12; with_reducible refine (m3.out _ lw6).mono ?_; rintro e w7 ⟨rfl, bw7⟩; refine Hid.out ?_)
      have kw7 : Below w.heap.size w w7 := kw6.trans (bw7.mono kw6.size)
      have lw7 := lw6.after bw7
      clear bw7
      refine Lib.hid ?_
      go_wp2_with (go_at_call 12; with_reducible refine (m4.out _ lw7).mono ?_; rintro e w8 ⟨rfl, bw8⟩; refine Hid.out ?_)
      have kw8 : Below w.heap.size w w8 := kw7.trans (bw8.mono kw7.size)
      have lw8 := lw7.after bw8
      clear bw8
      refine Lib.hid ?_
      go_wp2_with fail
      go_ret
      exact ⟨rfl, kw8⟩
    · have m0 : Hid (∀ w, Laid w → Calls Tryd.prog 12 #[.string ((⟨#[45]⟩ : ByteArray) ++ (⟨s.toArray⟩ : ByteArray))] w fun e w' => e = .returned (.int .i64 (1 : Int)) ∧ Below w.heap.size w w') := fun w hw =>
        lexeme_at _ (45 :: s) 1 (by
          show ((⟨([45]).toArray⟩ : ByteArray) ++ (⟨(s : List UInt8).toArray⟩ : ByteArray)) = _
          rw [cat_str]
          try simp) (by simp; omega) (hm0) w hw
      clear hm0 hpc hdd h0 hn
      go_enter Tryd.func6, Tryd.ntmps6
      go_wp2_with (go_at_call 7; with_reducible refine (cA.out).mono ?_; rintro e w1 ⟨rfl, b1⟩; refine Hid.out ?_)
      have l1 := hL.after b1
      refine Lib.hid ?_
      go_wp2_with (go_at_call 12; with_reducible refine (c1.out _ l1).mono ?_; rintro e w2 ⟨rfl, b2⟩; refine Hid.out ?_)
      have k2 : Below w.heap.size w w2 := b1.trans (b2.mono b1.size)
      have l2 := l1.after b2
      refine Lib.hid ?_
      go_wp2_with (go_at_call 14; with_reducible refine (c2.out _).mono ?_; rintro e w3 ⟨rfl, b3⟩; refine Hid.out ?_)
      have k3 : Below w.heap.size w w3 := k2.trans (b3.mono k2.size)
      have l3 := l2.after b3
      refine Lib.hid ?_
      have hk1 := cC.out w3
      have b4 : Below w3.heap.size w3 (w3.alloc (.cells #[.string ⟨#[]⟩, .string ⟨#[43]⟩, .string ⟨#[45]⟩] 9)) := (Below.refl _ _).alloc (Nat.le_refl _) _
      have kw4 : Below w.heap.size w (w3.alloc (.cells #[.string ⟨#[]⟩, .string ⟨#[43]⟩, .string ⟨#[45]⟩] 9)) := k3.trans (b4.mono k3.size)
      have lw4 := l3.after b4
      clear b4
      go_wp2_with (go_at_call 12; with_reducible refine (m0.out _ lw4).mono ?_; rintro e w5 ⟨rfl, bw5⟩; refine Hid.out ?_)
      have kw5 : Below w.heap.size w w5 := kw4.trans (bw5.mono kw4.size)
      have lw5 := lw4.after bw5
      clear bw5
      refine Lib.hid ?_
      go_wp2_with (go_at_call 12; with_reducible refine (m1.out _ lw5).mono ?_; rintro e w6 ⟨rfl, bw6⟩; refine Hid.out ?_)
      have kw6 : Below w.heap.size w w6 := kw5.trans (bw6.mono kw5.size)
      have lw6 := lw5.after bw6
      clear bw6
      refine Lib.hid ?_
      go_wp2_with (go_at_call 12; with_reducible refine (m2.out _ lw6).mono ?_; rintro e w7 ⟨rfl, bw7⟩; refine Hid.out ?_)
      have kw7 : Below w.heap.size w w7 := kw6.trans (bw7.mono kw6.size)
      have lw7 := lw6.after bw7
      clear bw7
      refine Lib.hid ?_
      go_wp2_with (go_at_call 12; with_reducible refine (m3.out _ lw7).mono ?_; rintro e w8 ⟨rfl, bw8⟩; refine Hid.out ?_)
      have kw8 : Below w.heap.size w w8 := kw7.trans (bw8.mono kw7.size)
      have lw8 := lw7.after bw8
      clear bw8
      refine Lib.hid ?_
      go_wp2_with (go_at_call 12; with_reducible refine (m4.out _ lw8).mono ?_; rintro e w9 ⟨rfl, bw9⟩; refine Hid.out ?_)
      have kw9 : Below w.heap.size w w9 := kw8.trans (bw9.mono kw8.size)
      have lw9 := lw8.after bw9
      clear bw9
      refine Lib.hid ?_
      go_wp2_with fail
      go_ret
      exact ⟨rfl, kw9⟩
  · have m1 : Hid (∀ w, Laid w → Calls Tryd.prog 12 #[.string ((⟨s.toArray⟩ : ByteArray) ++ (⟨d.toArray⟩ : ByteArray))] w fun e w' => e = .returned (.int .i64 (2 : Int)) ∧ Below w.heap.size w w') := fun w hw =>
      lexeme_at _ (s ++ d) 2 (by
        show ((⟨(s).toArray⟩ : ByteArray) ++ (⟨(d : List UInt8).toArray⟩ : ByteArray)) = _
        rw [cat_str]
        try simp) (by simp; omega) (goes_more h0 HK.out.symm hdd) w hw
    have m2 : Hid (∀ w, Laid w → Calls Tryd.prog 12 #[.string ((⟨#[48]⟩ : ByteArray) ++ (⟨s.toArray⟩ : ByteArray))] w fun e w' => e = .returned (.int .i64 (0 : Int)) ∧ Below w.heap.size w w') := fun w hw =>
      lexeme_at _ (48 :: s) 0 (by
        show ((⟨([48]).toArray⟩ : ByteArray) ++ (⟨(s : List UInt8).toArray⟩ : ByteArray)) = _
        rw [cat_str]
        try simp) (by simp; omega) (lexP_nought HK.out.symm) w hw
    have m3 : Hid (∀ w, Laid w → Calls Tryd.prog 12 #[.string ((⟨s.toArray⟩ : ByteArray) ++ (⟨#[32]⟩ : ByteArray))] w fun e w' => e = .returned (.int .i64 (0 : Int)) ∧ Below w.heap.size w w') := fun w hw =>
      lexeme_at _ (s ++ [32]) 0 (by
        show ((⟨(s).toArray⟩ : ByteArray) ++ (⟨([32] : List UInt8).toArray⟩ : ByteArray)) = _
        rw [cat_str]
        try simp) (by simp; omega) (goes_blank h0 HK.out.symm) w hw
    rcases hc0 with g0 | ⟨g0, hm0⟩
    · clear hpc hdd h0 hn
      go_enter Tryd.func6, Tryd.ntmps6
      go_wp2_with (go_at_call 7; with_reducible refine (cA.out).mono ?_; rintro e w1 ⟨rfl, b1⟩; refine Hid.out ?_)
      have l1 := hL.after b1
      refine Lib.hid ?_
      go_wp2_with (go_at_call 12; with_reducible refine (c1.out _ l1).mono ?_; rintro e w2 ⟨rfl, b2⟩; refine Hid.out ?_)
      have k2 : Below w.heap.size w w2 := b1.trans (b2.mono b1.size)
      have l2 := l1.after b2
      refine Lib.hid ?_
      go_wp2_with (go_at_call 14; with_reducible refine (c2.out _).mono ?_; rintro e w3 ⟨rfl, b3⟩; refine Hid.out ?_)
      have k3 : Below w.heap.size w w3 := k2.trans (b3.mono k2.size)
      have l3 := l2.after b3
      refine Lib.hid ?_
      have hk1 := cC.out w3
      have b4 : Below w3.heap.size w3 (w3.alloc (.cells #[.string ⟨#[]⟩, .string ⟨#[43]⟩, .string ⟨#[45]⟩] 9)) := (Below.refl _ _).alloc (Nat.le_refl _) _
      have kw4 : Below w.heap.size w (w3.alloc (.cells #[.string ⟨#[]⟩, .string ⟨#[43]⟩, .string ⟨#[45]⟩] 9)) := k3.trans (b4.mono k3.size)
      have lw4 := l3.after b4
      clear b4
      go_wp2_with (go_at_call 12; with_reducible refine (m1.out _ lw4).mono ?_; rintro e w5 ⟨rfl, bw5⟩; refine Hid.out ?_)
      have kw5 : Below w.heap.size w w5 := kw4.trans (bw5.mono kw4.size)
      have lw5 := lw4.after bw5
      clear bw5
      refine Lib.hid ?_
      go_wp2_with (go_at_call 12; with_reducible refine (m2.out _ lw5).mono ?_; rintro e w6 ⟨rfl, bw6⟩; refine Hid.out ?_)
      have kw6 : Below w.heap.size w w6 := kw5.trans (bw6.mono kw5.size)
      have lw6 := lw5.after bw6
      clear bw6
      refine Lib.hid ?_
      go_wp2_with (go_at_call 12; with_reducible refine (m3.out _ lw6).mono ?_; rintro e w7 ⟨rfl, bw7⟩; refine Hid.out ?_)
      have kw7 : Below w.heap.size w w7 := kw6.trans (bw7.mono kw6.size)
      have lw7 := lw6.after bw7
      clear bw7
      refine Lib.hid ?_
      go_wp2_with fail
      go_ret
      exact ⟨rfl, kw7⟩
    · have m0 : Hid (∀ w, Laid w → Calls Tryd.prog 12 #[.string ((⟨#[45]⟩ : ByteArray) ++ (⟨s.toArray⟩ : ByteArray))] w fun e w' => e = .returned (.int .i64 (2 : Int)) ∧ Below w.heap.size w w') := fun w hw =>
        lexeme_at _ (45 :: s) 2 (by
          show ((⟨([45]).toArray⟩ : ByteArray) ++ (⟨(s : List UInt8).toArray⟩ : ByteArray)) = _
          rw [cat_str]
          try simp) (by simp; omega) (hm0) w hw
      clear hm0 hpc hdd h0 hn
      go_enter Tryd.func6, Tryd.ntmps6
      go_wp2_with (go_at_call 7; with_reducible refine (cA.out).mono ?_; rintro e w1 ⟨rfl, b1⟩; refine Hid.out ?_)
      have l1 := hL.after b1
      refine Lib.hid ?_
      go_wp2_with (go_at_call 12; with_reducible refine (c1.out _ l1).mono ?_; rintro e w2 ⟨rfl, b2⟩; refine Hid.out ?_)
      have k2 : Below w.heap.size w w2 := b1.trans (b2.mono b1.size)
      have l2 := l1.after b2
      refine Lib.hid ?_
      go_wp2_with (go_at_call 14; with_reducible refine (c2.out _).mono ?_; rintro e w3 ⟨rfl, b3⟩; refine Hid.out ?_)
      have k3 : Below w.heap.size w w3 := k2.trans (b3.mono k2.size)
      have l3 := l2.after b3
      refine Lib.hid ?_
      have hk1 := cC.out w3
      have b4 : Below w3.heap.size w3 (w3.alloc (.cells #[.string ⟨#[]⟩, .string ⟨#[43]⟩, .string ⟨#[45]⟩] 9)) := (Below.refl _ _).alloc (Nat.le_refl _) _
      have kw4 : Below w.heap.size w (w3.alloc (.cells #[.string ⟨#[]⟩, .string ⟨#[43]⟩, .string ⟨#[45]⟩] 9)) := k3.trans (b4.mono k3.size)
      have lw4 := l3.after b4
      clear b4
      go_wp2_with (go_at_call 12; with_reducible refine (m0.out _ lw4).mono ?_; rintro e w5 ⟨rfl, bw5⟩; refine Hid.out ?_)
      have kw5 : Below w.heap.size w w5 := kw4.trans (bw5.mono kw4.size)
      have lw5 := lw4.after bw5
      clear bw5
      refine Lib.hid ?_
      go_wp2_with (go_at_call 12; with_reducible refine (m1.out _ lw5).mono ?_; rintro e w6 ⟨rfl, bw6⟩; refine Hid.out ?_)
      have kw6 : Below w.heap.size w w6 := kw5.trans (bw6.mono kw5.size)
      have lw6 := lw5.after bw6
      clear bw6
      refine Lib.hid ?_
      go_wp2_with (go_at_call 12; with_reducible refine (m2.out _ lw6).mono ?_; rintro e w7 ⟨rfl, bw7⟩; refine Hid.out ?_)
      have kw7 : Below w.heap.size w w7 := kw6.trans (bw7.mono kw6.size)
      have lw7 := lw6.after bw7
      clear bw7
      refine Lib.hid ?_
      go_wp2_with (go_at_call 12; with_reducible refine (m3.out _ lw7).mono ?_; rintro e w8 ⟨rfl, bw8⟩; refine Hid.out ?_)
      have kw8 : Below w.heap.size w w8 := kw7.trans (bw8.mono kw7.size)
      have lw8 := lw7.after bw8
      clear bw8
      refine Lib.hid ?_
      go_wp2_with fail
      go_ret
      exact ⟨rfl, kw8⟩

theorem goes_nat (s : List UInt8) {n : Int} (hn : 0 ≤ n ∧ n ≤ 18446744073709551615) (sg : Int) (w : World) (hL : Laid w) :
    Calls Tryd.prog 6 #[.string ⟨s.toArray⟩, .int .u64 n, .int .i64 sg] w fun x w' => x = .returned (.bool true) ∧ Below w.heap.size w w' := by
  obtain ⟨m, rfl⟩ : ∃ m : Nat, n = (m : Int) := ⟨n.toNat, by omega⟩
  exact goes_any s m (by unfold most64; omega) sg w hL

end Go.Proofs.YtbdkkkcpoaeojaaDoor
