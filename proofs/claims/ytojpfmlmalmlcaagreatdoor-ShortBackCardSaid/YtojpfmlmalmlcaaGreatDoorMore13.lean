/-
  What the document's within and more do. No condition beyond what each contract says.
-/
import Derived.Test.YtojpfmlmalmlcaaGreatDoorShortPure
import Derived.Test.YtojpfmlmalmlcaaGreatDoorOfStr
import Derived.Test.YtojpfmlmalmlcaaGreatDoorNMem
import Derived.Deep.DeepCutAuto
namespace Go.Proofs.YtojpfmlmalmlcaaGreatDoor
open Go.RowKit
set_option maxHeartbeats 1000000 in
theorem within_any (p : Nat) (b a : Int) (w : World) : Calls Tryz.prog 25 #[.int .u64 (p : Int), .int .i64 b, .int .i64 a] w fun e w' => e = .returned (.bool (withinB p b a)) ∧ w' = w := by
  obtain ⟨r, hr⟩ : ∃ r, r = withinB p b a := ⟨_, rfl⟩
  rw [← hr]
  unfold withinB at hr
  obtain ⟨t, ht⟩ : ∃ t : Int, t = (p : Int).tmod 2 := ⟨_, rfl⟩
  have htm : t = (p : Int) % 2 := by rw [ht]; exact Int.tmod_eq_emod_of_nonneg (by omega)
  have ht2 : (p : Int).tmod 2 = t := ht.symm
  have ht3 : (p : Int) % 2 = t := htm.symm
  by_cases h2 : p % 2 = 0
  · rw [if_pos h2] at hr
    have d1 : (t == 0) = true := by simp; omega
    obtain ⟨x, hx⟩ : ∃ x, x = decide (0 ≤ b) := ⟨_, rfl⟩
    obtain ⟨y, hy⟩ : ∃ y, y = decide (a ≤ 0) := ⟨_, rfl⟩
    have HR : Hid (r = (x && y)) := show _ = _ by rw [hr, hx, hy]; simp
    have hx' := hx.symm
    have hy' := hy.symm
    clear hr h2 ht htm hx hy
    cases x <;> cases y
    all_goals
      go_enter Tryz.func25, Tryz.ntmps25
      go_wp2_with fail
      go_ret
      exact ⟨by rw [HR.out]; first | rfl | (simp [hx', hy']; done) | (simp at hx' hy' ⊢; omega), rfl⟩
  · rw [if_neg h2] at hr
    have d1 : (t == 0) = false := by simp; omega
    obtain ⟨x, hx⟩ : ∃ x, x = decide (0 < b) := ⟨_, rfl⟩
    obtain ⟨y, hy⟩ : ∃ y, y = decide (a < 0) := ⟨_, rfl⟩
    have HR : Hid (r = (x && y)) := show _ = _ by rw [hr, hx, hy]; simp
    have hx' := hx.symm
    have hy' := hy.symm
    clear hr h2 ht htm hx hy
    cases x <;> cases y
    all_goals
      go_enter Tryz.func25, Tryz.ntmps25
      go_wp2_with fail
      go_ret
      exact ⟨by rw [HR.out]; first | rfl | (simp [hx', hy']; done) | (simp at hx' hy' ⊢; omega), rfl⟩
/-- []byte(s), with its capacity. -/
theorem bytes_of_str_cap (u : List UInt8) (w : World) : ∃ c w', (convert 9 75 (.string ⟨u.toArray⟩)).run Tryz.prog w = .ok (.slice (some ⟨w.heap.size, 0, none⟩) u.length c) w' ∧ u.length ≤ c ∧ RowAt w' w.heap.size u ∧ Below w.heap.size w w' := by
  refine ⟨_, _, run_bytes_of_string w 9 75 5 ⟨u.toArray⟩ Tryz.underlying9 Tryz.underlying75 Tryz.underlying5, ?_, ?_, ?_⟩
  · exact grownCap_ge w (⟨u.toArray⟩ : ByteArray).size 0 5
  · obtain ⟨m, hm⟩ : ∃ m, m = grownCap w (⟨u.toArray⟩ : ByteArray).size 0 5 := ⟨_, rfl⟩
    rw [← hm]
    have e : bytesRow ⟨u.toArray⟩ m = (cellsOf u ++ List.replicate (m - u.length) (Value.int .u8 0)).toArray := by
      unfold bytesRow
      simp [cellsOf, ByteArray.size]
    rw [e]
    exact ⟨List.replicate (m - u.length) (Value.int .u8 0), _, heap_alloc_new w.drew _, by simp [cellsOf_length]⟩
  · exact (Below.refl _ _).drew.alloc (Nat.le_refl _) _
theorem str_of13 {w : World} {A : Option Addr} {n : Nat} {bs : List UInt8} (h : Held w (· < w.heap.size) A n bs) (c : Nat) :
    (convert 75 9 (.slice A n c)).run Tryz.prog w = .ok (.string ⟨bs.toArray⟩) w :=
  run_string (P := Tryz.prog) 75 9 5 Tryz.underlying75 Tryz.underlying5 Tryz.underlying9 h c
/-- The row while nines are passed. -/
def MrAt (w : World) (g : Nat) (l : List UInt8) (v : Value) (wr : World) : Prop :=
  ∃ (n k : Nat) (I : Int), n + k = l.length ∧ I = (n : Int) - 1 ∧ v = .int .i64 I ∧ l = l.take n ++ List.replicate k 57 ∧ RowAt wr g (l.take n ++ List.replicate k 48) ∧ Below w.heap.size w wr
theorem take_last {l : List UInt8} {m : Nat} (h : m < l.length) : l.take (m + 1) = l.take m ++ [l.getD m 0] := by
  rw [List.take_add_one]; simp [List.getD, h]
theorem mid_set (a : List UInt8) (c d : UInt8) (r : List UInt8) (m : Nat) (h : a.length = m) : (a ++ [c] ++ r).set m d = a ++ d :: r := by
  subst h
  simp
theorem mid_get (a : List UInt8) (c : UInt8) (r : List UInt8) (m : Nat) (h : a.length = m) : (a ++ [c] ++ r).getD m 0 = c := by
  subst h
  simp [List.getD]
set_option maxHeartbeats 2000000 in
set_option maxRecDepth 100000 in
theorem more_any (l : List UInt8) (x : Int) (w : World) (hl : l.length ≤ 100000) (hx : -1000000 ≤ x ∧ x ≤ 1000000) :
    Calls Tryz.prog 24 #[.string ⟨l.toArray⟩, .int .i64 x] w fun e w' => (∃ c carry y, e = .returned (.tuple #[.string ⟨c.toArray⟩, .int .i64 y]) ∧ y = (if carry then x + 1 else x) ∧ MoreR l c carry) ∧ Below w.heap.size w w' := by
  obtain ⟨cc, w1, hcv, hcap, hrow, B1⟩ := bytes_of_str_cap l w
  obtain ⟨g, hg⟩ : ∃ g, g = w.heap.size := ⟨_, rfl⟩
  rw [← hg] at hcv hrow
  have HG := Lib.hid hg
  obtain ⟨L, hL⟩ : ∃ L, L = l.length := ⟨_, rfl⟩
  rw [← hL] at hcv hcap
  have HL := Lib.hid hL; have HROW := Lib.hid hrow; have HB := Lib.hid B1; have HCAP := Lib.hid hcap
  have HLB : Hid (L ≤ 100000) := show _ ≤ _ by rw [hL]; exact hl
  have hw1 : wrap64 ((L : Int) - 1) = (L : Int) - 1 := by unfold wrap64; omega
  have hwx : wrap64 (x + 1) = x + 1 := by unfold wrap64; omega
  have HX := Lib.hid hwx
  clear hl hx hg hL hrow B1 hcap hwx
  go_enter Tryz.func24, Tryz.ntmps24
  go_wp2_with fail
  go_loopw [7] (fun v wr => MrAt w g l v wr) (fun v _ => (intOf v + 1).toNat)
  case atStart => exact ⟨L, 0, (L : Int) - 1, by rw [HL.out]; rfl, rfl, by first | rfl | rw [hw1], by rw [HL.out]; simp, by rw [HL.out]; simpa using HROW.out, HB.out⟩
  case round =>
    clear HROW HB hw1 hcv
    obtain ⟨n, k, I, hn, hI, rfl, hlk, hR, hB⟩ := hrel
    have HN := Lib.hid hn; have HLK := Lib.hid hlk; have HBW := Lib.hid hB
    cases n with
    | zero =>
      have hI1 : I = -1 := by omega
      subst hI1
      have hx := HX.out
      clear hn hI hlk hR hB
      go_wp2_with fail
      go_ret2
      refine ⟨⟨[49], true, x + 1, ?_, rfl, .inr ⟨rfl, ?_, rfl⟩⟩, HBW.out⟩
      · first | rfl | (simp [hx]; done) | trace_state
      · have h1 := HLK.out
        have h2 := HN.out
        rw [List.take_zero, List.nil_append] at h1
        rw [Nat.zero_add] at h2
        rw [← h2]
        exact h1
    | succ m =>
      have hI1 : I = (m : Int) := by omega
      subst hI1
      have hml : m < l.length := by omega
      have hmL : m < L := by rw [HL.out]; exact hml
      have htk := take_last hml
      have htl : (l.take m).length = m := by rw [List.length_take]; omega
      rw [htk] at hR
      have hgl := hR.lt
      have hcell := hR.cell (i := m) (by simp; omega)
      rw [mid_get _ _ _ _ htl] at hcell
      have hfr := hR.frozen (i := m) (by simp; omega)
      have hset := fun d => hR.set (i := m) (by simp; omega) d
      obtain ⟨c, hc⟩ : ∃ c, c = l.getD m 0 := ⟨_, rfl⟩
      rw [← hc] at hcell hset htk
      have i1 : (m : Int) < (L : Int) := by omega
      have i0 : (0 : Int) ≤ (m : Int) := by omega
      by_cases h9 : c = 57
      · have d1 : ((c.toNat : Int) == 57) = true := by rw [h9]; rfl
        have hs := hset 48
        rw [mid_set _ _ _ _ _ htl, show l.take m ++ 48 :: List.replicate k 48 = l.take m ++ List.replicate (k + 1) 48 by rw [List.replicate_succ]] at hs
        have hBs : Below w.heap.size w (wr.setCell ⟨g, m, none⟩ (.int .u8 48)) := hB.setCell (p := ⟨g, m, none⟩) (by rw [HG.out]; exact Nat.le_refl _) _
        have HS := Lib.hid hs; have HBS := Lib.hid hBs
        have HT : Hid (l = l.take m ++ List.replicate (k + 1) 57) := show _ = _ by
          rw [List.replicate_succ]
          have := HLK.out
          rw [htk, h9] at this
          simpa using this
        have hw2 : wrap64 ((m : Int) - 1) = (m : Int) - 1 := by have := HLB.out; unfold wrap64; omega
        have HN2 : Hid (m + (k + 1) = l.length) := show _ = _ by omega
        clear hset hs hBs hc h9 htk htl hml hmL hn hI hlk hR hB HLK HN HBW hgl
        generalize c.toNat = cn at *
        go_wp2_with fail
        go_roundw
        case rel => exact ⟨m, k + 1, _, HN2.out, by rw [hw2], rfl, HT.out, HS.out, HBS.out⟩
        case measure => rw [hw2]; simp [intOf]
      · have d1 : ((c.toNat : Int) == 57) = false := by
          simp only [beq_eq_false_iff_ne]
          exact fun e => h9 (UInt8.toNat_inj.1 (by show c.toNat = 57; omega))
        have hs := hset (c + 1)
        rw [mid_set _ _ _ _ _ htl] at hs
        have hw2 : wrap64 ((m : Int) + 1) = ((m + 1 : Nat) : Int) := by have := HLB.out; unfold wrap64; omega
        obtain ⟨cn, hcn⟩ : ∃ cn : Int, cn = (c.toNat : Int) := ⟨_, rfl⟩
        obtain ⟨dn, hdn⟩ : ∃ dn : Int, dn = ((c + 1).toNat : Int) := ⟨_, rfl⟩
        have e1 : IntKind.u8.wrap (cn + 1) = dn := by
          rw [hcn, hdn, UInt8.toNat_add, IntKind.wrap_u8]
          have : (1 : UInt8).toNat = 1 := rfl
          omega
        rw [← hdn] at hs
        rw [← hcn] at hcell d1
        obtain ⟨W2, hW2⟩ : ∃ W2, W2 = wr.setCell ⟨g, m, none⟩ (.int .u8 dn) := ⟨_, rfl⟩
        have hBs : Below w.heap.size w W2 := by rw [hW2]; exact hB.setCell (p := ⟨g, m, none⟩) (by rw [HG.out]; exact Nat.le_refl _) _
        rw [← hW2] at hs
        have hHeld : Held W2 (· < W2.heap.size) (some ⟨g, 0, none⟩) (m + 1) (l.take m ++ [c + 1]) := by
          have h1 := (hs.held (n := (l.take m ++ (c + 1) :: List.replicate k 48).length) rfl).part (k := 0) (l := m + 1) (by simp; omega) (some ⟨g, 0, none⟩) (fun _ b o e => by cases e; rfl)
          rw [List.drop_zero] at h1
          have e : (l.take m ++ (c + 1) :: List.replicate k 48).take (m + 1) = l.take m ++ [c + 1] := by
            rw [List.take_append, htl, show m + 1 - m = 1 by omega, List.take_of_length_le (by omega)]
            rfl
          rwa [e] at h1
        have hconv := str_of13 hHeld cc
        have HBS := Lib.hid hBs
        have HM : Hid (MoreR l (l.take m ++ [c + 1]) false) := .inl ⟨rfl, l.take m, c, k, by have := HLK.out; rw [htk] at this; simpa using this, h9, rfl⟩
        have icc : ((m + 1 : Nat) : Int) ≤ (cc : Int) := by have := HCAP.out; omega
        generalize l.take m ++ [c + 1] = v at *
        clear hset hs hBs hc h9 htk htl hml hn hI hlk hR hB HLK HN HBW hgl hHeld hcn hdn
        subst hW2
        go_wp2_with fail
        go_ret2
        exact ⟨⟨v, false, x, rfl, rfl, HM.out⟩, HBS.out⟩
end Go.Proofs.YtojpfmlmalmlcaaGreatDoor
