/-
  What PutLow and PutHigh of package propylonref1 do, one contract each; no condition beyond what each contract asks.
-/
import Derived.Test.YtfmkccimpmjmiaaRefA
namespace Go.Proofs.Ytfmkccimpmjmiaa
open Go.RowKit

/-- A new row of bytes is told. -/
def RowPost (bs : List UInt8) (w : World) (e : Ending) (w' : World) : Prop :=
  ∃ A c, e = .returned (.slice A bs.length c) ∧ w'.ownsRow w.heap.size 5 1 (.slice A bs.length c) bs.length (cellsOf bs) ∧ Below w.heap.size w w'

theorem putLow_no (x : Value) (n : Int) (w : World) (h : n < 1 ∨ 8 < n) :
    Calls Try.prog 22 #[x, .int .i64 n] w (RowPost [] w) := by
  by_cases h1 : n < 1
  · have d1 : decide (0 < n) = false := by simp; omega
    clear h
    go_enter Try.func22, Try.ntmps22
    go_wp2_with fail
    refine wp_loop_rounds 1 ?_
    rw [rounds_succ]
    go_wp2_with fail
    go_ret
    exact ⟨none, 0, rfl, World.ownsRow_nil _ _ _ _, Below.refl _ _⟩
  · have d1 : decide (0 < n) = true := by simp; omega
    have d2 : decide (n ≤ 8) = false := by simp; omega
    clear h
    go_enter Try.func22, Try.ntmps22
    go_wp2_with fail
    refine wp_loop_rounds 1 ?_
    rw [rounds_succ]
    go_wp2_with fail
    go_ret
    exact ⟨none, 0, rfl, World.ownsRow_nil _ _ _ _, Below.refl _ _⟩

def PutRel (x n : Nat) (w : World) (y out i : Value) (wr : World) : Prop :=
  ∃ (j : Nat) (A : Option Addr) (c : Nat), j ≤ n ∧ i = .int .i64 (j : Int) ∧ y = .int .u64 ((x / 256 ^ j : Nat) : Int) ∧ out = .slice A j c ∧ wr.ownsRow w.heap.size 5 1 (.slice A j c) j (cellsOf (leBytes x j)) ∧ Below w.heap.size w wr

set_option maxHeartbeats 1000000 in
theorem putLow_ok (x n : Nat) (w : World) (hx : x < 18446744073709551616) (h1 : 1 ≤ n) (h8 : n ≤ 8) :
    Calls Try.prog 22 #[.int .u64 (x : Int), .int .i64 (n : Int)] w (RowPost (leBytes x n) w) := by
  obtain ⟨i0, hi0, hz0, hz1, hz2⟩ := info_parts info_u8
  have HZ := Lib.hid hz0; have HI := Lib.hid hi0; have H1 := Lib.hid hz1; have H2 := Lib.hid hz2
  clear hz0 hi0 hz1 hz2
  have d8 : decide ((n : Int) ≤ 8) = true := by simp; omega
  go_enter Try.func22, Try.ntmps22
  go_wp2_with fail
  go_loopw [0, 5, 6] (fun y out i wr => PutRel x n w y out i wr) (fun _ _ i _ => n - (intOf i).toNat)
  case atStart => exact ⟨0, none, 0, Nat.zero_le _, rfl, by simp, rfl, World.ownsRow_nil _ _ _ _, Below.refl _ _⟩
  case round =>
    obtain ⟨j, A, c, hj, rfl, rfl, rfl, ho, Br⟩ := hrel
    have HO := Lib.hid ho
    clear ho
    by_cases hlt : j < n
    · have d9 : decide ((j : Int) < (n : Int)) = true := by simp; omega
      have d9' : decide (j < n) = true := by simp; omega
      have hy : x / 256 ^ j < 18446744073709551616 := Nat.lt_of_le_of_lt (Nat.div_le_self _ _) hx
      obtain ⟨y, ey⟩ : ∃ y, y = x / 256 ^ j := ⟨_, rfl⟩
      rw [← ey] at hy ⊢
      have HY := Lib.hid ey
      clear ey
      have L2 : j + 1 ≤ maxLen := by simp only [maxLen]; omega
      have L3 : (j + 1) * 1 ≤ 140737488355328 := by omega
      have HOA : Hid (∀ o : Obj, (wr.alloc o).ownsRow w.heap.size 5 1 (.slice A j c) j (cellsOf (leBytes x j))) := fun o => HO.out.alloc o
      have hbs := Br.size
      go_wp2_with (first | (at_builtin; refine wpList_append_held _ rfl (.tmp 16) (.tmp 19) 22 rfl w.heap.size 5 i0 _ 1 Try.underlying22 HI.out HZ.out H1.out H2.out rfl _ j (cellsOf (leBytes x j)) rfl (HOA.out _) (some ⟨wr.heap.size, 0, none⟩) 1 1 [.int .u8 ((y : Int) % 256)] rfl rfl (fun _ => ⟨_, rfl, cell_one_new _ _ _⟩) (by simp [Value.oneCell']) L2 L3 (by simp; omega) ?_))
      intro A1 c1 w1 ho1 hg1 ha1
      have hb1 : Below w.heap.size w w1 := (Br.alloc hbs _).grown hg1 (by simp; omega) (fun k hk => (HO.out.lt k hk).1)
      have ho2 : w1.ownsRow w.heap.size 5 1 (.slice A1 (j + 1) c1) (j + 1) (cellsOf (leBytes x (j + 1))) := by
        have h := ho1.out
        rw [HY.out] at h
        rw [leBytes, cellsOf_append]
        have e : (cellsOf [byteAt x j]) = [Value.int .u8 (((x / 256 ^ j : Nat) : Int) % 256)] := by
          simp [cellsOf, byteAt_toNat]
        rw [e]
        exact h
      have HO2 := Lib.hid ho2
      clear ho1 hg1 ha1 ho2 HOA
      go_wp2_with fail
      go_roundw
      case rel => exact ⟨j + 1, A1, c1, by omega, by go_num, by rw [HY.out, Nat.pow_succ, ← Nat.div_div_eq_div_mul]; rfl, rfl, HO2.out, hb1⟩
      case measure => simp [intOf]; omega
    · have hjn : j = n := by omega
      have HF : Hid (wr.ownsRow w.heap.size 5 1 (.slice A (leBytes x n).length c) (leBytes x n).length (cellsOf (leBytes x n))) := by rw [leBytes_length, ← hjn]; exact HO.out
      have HE : Hid (Value.slice A j c = .slice A (leBytes x n).length c) := show _ = _ by rw [leBytes_length, hjn]
      have d9 : decide ((j : Int) < (n : Int)) = false := by simp; omega
      have d9' : decide (j < n) = false := by simp; omega
      clear hjn
      go_wp2_with fail
      go_ret
      exact ⟨A, c, congrArg Ending.returned HE.out, HF.out, Br⟩

set_option maxHeartbeats 1000000 in
theorem putHigh_no (x : Value) (n : Int) (w : World) (h : n < 1 ∨ 8 < n) :
    Calls Try.prog 24 #[x, .int .i64 n] w (RowPost [] w) := by
  have H := Lib.hid h
  clear h
  go_enter Try.func24, Try.ntmps24
  go_wp2_with fail
  refine (putLow_no x n w H.out).mono ?_
  rintro e w1 ⟨A, c, rfl, _, hb⟩
  rw [List.length_nil]
  go_wp2_with fail
  refine wp_loop_rounds 1 ?_
  rw [rounds_succ]
  go_wp2_with fail
  go_ret
  exact ⟨none, 0, rfl, World.ownsRow_nil _ _ _ _, hb⟩

def PutHRel (x n : Nat) (w1 : World) (out i : Value) (wr : World) : Prop :=
  ∃ (m : Nat) (A : Option Addr) (c : Nat), m ≤ n ∧ i = .int .i64 ((m : Int) - 1) ∧ out = .slice A (n - m) c ∧ wr.ownsRow w1.heap.size 5 1 (.slice A (n - m) c) (n - m) (cellsOf (beTo x n (n - m))) ∧ Below w1.heap.size w1 wr

set_option maxHeartbeats 1000000 in
theorem putHigh_ok (x n : Nat) (w : World) (hx : x < 18446744073709551616) (h1 : 1 ≤ n) (h8 : n ≤ 8) :
    Calls Try.prog 24 #[.int .u64 (x : Int), .int .i64 (n : Int)] w (RowPost (beTo x n n) w) := by
  obtain ⟨i0, hi0, hz0, hz1, hz2⟩ := info_parts info_u8
  have HZ := Lib.hid hz0; have HI := Lib.hid hi0; have H1 := Lib.hid hz1; have H2 := Lib.hid hz2
  clear hz0 hi0 hz1 hz2
  go_enter Try.func24, Try.ntmps24
  go_wp2_with fail
  refine (putLow_ok x n w hx h1 h8).mono ?_
  rintro e w1 ⟨A0, cp0, rfl, hown0, hb1⟩
  rw [leBytes_length] at hown0 ⊢
  obtain ⟨gl, rfl⟩ : ∃ gl, A0 = some ⟨gl, 0, none⟩ := by
    rcases hown0.2 with ⟨_, e⟩ | ⟨g, cap', cur, e, _⟩
    · omega
    · injection e with e1
      exact ⟨g, e1⟩
  have hgl : gl < w1.heap.size := (hown0.lt gl rfl).2
  have HL : Hid (Held w1 (· = gl) (some ⟨gl, 0, none⟩) n (leBytes x n)) := by
    have h := World.ownsRow.cells hown0 (g := gl) rfl
    refine ⟨leBytes_length _ _, fun _ => ⟨gl, 0, rfl, rfl, fun i hi => ?_⟩⟩
    have h2 := h i _ (cellsOf_get (leBytes x n) i (by rw [leBytes_length]; exact hi))
    rw [Addr.add_lit] at h2
    exact h2
  clear hown0
  go_wp2_with fail
  go_loopw [6, 7] (fun out i wr => PutHRel x n w1 out i wr) (fun _ i _ => (intOf i + 1).toNat)
  case atStart => exact ⟨n, none, 0, Nat.le_refl _, rfl, by rw [Nat.sub_self], by rw [Nat.sub_self]; exact World.ownsRow_nil _ _ _ _, Below.refl _ _⟩
  case round =>
    obtain ⟨m, A, c, hm, rfl, rfl, ho, Br⟩ := hrel
    have HO := Lib.hid ho
    clear ho
    have hbs := Br.size
    rcases m with _ | p
    · have HF : Hid (wr.ownsRow w.heap.size 5 1 (.slice A (beTo x n n).length c) (beTo x n n).length (cellsOf (beTo x n n))) := by
        rw [beTo_length]
        obtain ⟨hh1, hh2⟩ := HO.out
        refine ⟨hh1, ?_⟩
        rcases hh2 with h | ⟨g, cap', cur, e, hbg, r⟩
        · exact .inl h
        · exact .inr ⟨g, cap', cur, e, Nat.le_trans hb1.size hbg, r⟩
      have HE : Hid (Value.slice A (n - 0) c = .slice A (beTo x n n).length c) := show _ = _ by rw [beTo_length, Nat.sub_zero]
      go_wp2_with fail
      go_ret
      exact ⟨A, c, congrArg Ending.returned HE.out, HF.out, hb1.trans (Br.mono hb1.size)⟩
    · rw [show ((p + 1 : Nat) : Int) - 1 = (p : Int) by omega]
      have hcell := (HL.out.keep (w' := wr) (by rintro k rfl; exact Br.block _ hgl)).2 (by omega)
      obtain ⟨b', o', e', rfl, hcc⟩ := hcell
      injection e' with e'
      injection e' with e1 e2
      have hcp := hcc p (by omega)
      rw [← e2, leBytes_getD x n p (by omega)] at hcp
      obtain ⟨y, ey⟩ : ∃ y, y = (byteAt x p).toNat := ⟨_, rfl⟩
      rw [← ey, Nat.zero_add] at hcp
      have hy8 : y < 256 := by rw [ey]; exact (byteAt x p).toNat_lt
      have HY := Lib.hid ey
      clear ey hcc e2
      obtain ⟨j, hj⟩ : ∃ j, j = n - (p + 1) := ⟨_, rfl⟩
      rw [← hj] at HO ⊢
      have HJ := Lib.hid hj
      have hjb : j ≤ 8 := by omega
      clear hj
      have L2 : j + 1 ≤ maxLen := by simp only [maxLen]; omega
      have L3 : (j + 1) * 1 ≤ 140737488355328 := by omega
      have HOA : Hid (∀ o : Obj, (wr.alloc o).ownsRow w1.heap.size 5 1 (.slice A j c) j (cellsOf (beTo x n j))) := fun o => HO.out.alloc o
      have hpn : (p : Int) < (n : Int) := by omega
      go_wp2_with (first | (at_builtin; refine wpList_append_held _ rfl (.tmp 18) (.tmp 23) 22 rfl w1.heap.size 5 i0 _ 1 Try.underlying22 HI.out HZ.out H1.out H2.out rfl _ j (cellsOf (beTo x n j)) rfl (HOA.out _) (some ⟨wr.heap.size, 0, none⟩) 1 1 [.int .u8 (y : Int)] rfl rfl (fun _ => ⟨_, rfl, cell_one_new _ _ _⟩) (by simp [Value.oneCell']) L2 L3 (by simp; omega) ?_))
      intro A1 c1 w2 ho1 hg1 ha1
      have hb2 : Below w1.heap.size w1 w2 := (Br.alloc hbs _).grown hg1 (by simp; omega) (fun k hk => (HO.out.lt k hk).1)
      have ho2 : w2.ownsRow w1.heap.size 5 1 (.slice A1 (j + 1) c1) (j + 1) (cellsOf (beTo x n (j + 1))) := by
        have h := ho1.out
        rw [beTo, cellsOf_append, show n - 1 - j = p by have := HJ.out; omega]
        rw [HY.out] at h
        exact h
      have hjp : j + 1 = n - p := by have := HJ.out; omega
      rw [hjp] at ho2 ⊢
      have HO2 := Lib.hid ho2
      clear ho1 hg1 ha1 ho2 HOA hjp
      go_wp2_with fail
      go_roundw
      case rel => exact ⟨p, A1, c1, by omega, rfl, rfl, HO2.out, hb2⟩
      case measure => simp [intOf]

end Go.Proofs.Ytfmkccimpmjmiaa
