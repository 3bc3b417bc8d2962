/-
  What the document's Unhex does; no condition beyond what the contract asks.
-/
import Derived.Test.YtkdbonghmjejcaaHexaC
namespace Go.Proofs.Ytkdbonghmjejcaa
open Go.RowKit

set_option maxHeartbeats 2000000 in
theorem refUnhex_odd (l : List UInt8) (h : l.length % 2 = 1) (w : World) :
    Calls Try.prog 9 #[.string ⟨l.toArray⟩] w (Got (unhex l) w) := by
  have HR : Hid (unhex l = none) := unhex_odd l (by omega)
  have d : ((l.length : Int) % 2 != 0) = true := by simp; omega
  go_enter Try.func9, Try.ntmps9
  go_wp2_with fail
  go_ret2
  exact got_none HR.out (Below.refl _ _)

theorem ret_val {k : IntKind} {a b : Int} (h : a = b) : Value.int k a = .int k b := by rw [h]
theorem digit_same (c : UInt8) (w : World) :
    Calls Try.prog 13 #[.int .u8 (c.toNat : Int)] w fun e w' => e = .returned (.int .i64 (digI c)) ∧ w' = w :=
  (digit_any c w).mono fun _ _ ⟨he, hw⟩ => ⟨he, hw.symm⟩

def UnhexRel (w : World) (l : List UInt8) (v i : Value) (wr : World) : Prop :=
  ∃ (k : Nat) (pre : List UInt8) (A : Option Addr) (c : Nat), 2 * k ≤ l.length ∧ i = .int .i64 (2 * (k : Int)) ∧ v = .slice A k c ∧
    wr.ownsRow w.heap.size 5 1 (.slice A k c) k (cellsOf pre) ∧ unhex l = (unhex (l.drop (2 * k))).map (pre ++ ·) ∧ Below w.heap.size w wr

set_option maxHeartbeats 4000000 in
theorem refUnhex_even (l : List UInt8) (h : Nat) (hl : l.length = 2 * h) (hm : h ≤ 1000000) (w : World) :
    Calls Try.prog 9 #[.string ⟨l.toArray⟩] w (Got (unhex l) w) := by
  obtain ⟨i0, hi0, hz0, hz1, hz2⟩ := info_parts info_u8
  have HZ := Lib.hid hz0; have HI := Lib.hid hi0; have H1 := Lib.hid hz1; have H2 := Lib.hid hz2
  clear hz0 hi0 hz1 hz2
  have d : ((l.length : Int) % 2 != 0) = false := by simp; omega
  have HLen := Lib.hid hl
  obtain ⟨n, hn⟩ : ∃ n, n = l.length := ⟨_, rfl⟩
  have hnh : n = 2 * h := by omega
  have HN := Lib.hid hn
  clear hl
  obtain ⟨r, hr⟩ : ∃ r, r = unhex l := ⟨_, rfl⟩
  rw [← hr]
  have HR := Lib.hid hr
  clear hr
  go_enter Try.func9, Try.ntmps9
  go_wp2_with fail
  go_loopw [4, 5] (fun v i wr => UnhexRel w l v i wr) (fun _ i _ => n - (intOf i).toNat)
  case atStart => exact ⟨0, [], none, 0, by omega, rfl, rfl, World.ownsRow_nil _ _ _ _, by simp, Below.refl _ _⟩
  case round =>
    obtain ⟨k, pre, A, c, hk, rfl, rfl, hown, hun, Br⟩ := hrel
    rw [HLen.out] at hk
    have HO := Lib.hid hown; have HU := Lib.hid hun
    clear hown hun
    by_cases hlt : k < h
    · have d1 : decide (2 * (k : Int) < (l.length : Int)) = true := by simp; omega
      have i1 := at_str l (2 * (k : Int)) (2 * k) (by omega) (by rw [HLen.out]; omega)
      have i2 := at_str l (2 * (k : Int) + 1) (2 * k + 1) (by omega) (by rw [HLen.out]; omega)
      have hat := unhex_at l k (by rw [HLen.out]; omega)
      obtain ⟨a, ha⟩ : ∃ a, a = l.getD (2 * k) 0 := ⟨_, rfl⟩
      obtain ⟨b, hb⟩ : ∃ b, b = l.getD (2 * k + 1) 0 := ⟨_, rfl⟩
      rw [← ha] at i1 hat
      rw [← hb] at i2 hat
      have HAT := Lib.hid hat
      clear ha hb hat
      go_wp2_with fail
      go_quiet (first | (go_at_call 13; exact Calls.quiet_of_same (digit_same _ _)))
      have BD : Below w.heap.size w (wr.drewN nq) := ⟨Br.os, Br.tape, Br.output, Br.size, Br.block⟩
      have HOD : Hid ((wr.drewN nq).ownsRow w.heap.size 5 1 (.slice A k c) k (cellsOf pre)) := HO.out
      clear Br HO
      generalize wr.drewN nq = wd at *
      by_cases v1 : val a < 16
      · rw [digI_some v1]
        have d2 : decide ((val a : Int) < 0) = false := by simp
        by_cases v2 : val b < 16
        · rw [digI_some v2]
          have d3 : decide ((val b : Int) < 0) = false := by simp
          obtain ⟨x, hx⟩ : ∃ x, x = val a := ⟨_, rfl⟩
          obtain ⟨y, hy⟩ : ∃ y, y = val b := ⟨_, rfl⟩
          have HN' : Hid (unhex l = (unhex (l.drop (2 * (k + 1)))).map ((pre ++ [UInt8.ofNat (x * 16 + y)]) ++ ·)) := show _ = _ by
            rw [HU.out, HAT.out, if_pos ⟨v1, v2⟩, hx, hy]
            simp [Function.comp_def]
          rw [← hx] at d2 v1 ⊢
          rw [← hy] at d3 v2 ⊢
          have HZ' : Hid ((x : Int) * 16 + (y : Int) = ((UInt8.ofNat (x * 16 + y)).toNat : Int)) := show _ = _ by
            rw [UInt8.toNat_ofNat', Nat.mod_eq_of_lt (by omega)]; omega
          clear hx hy HAT HU
          generalize UInt8.ofNat (x * 16 + y) = z at HN' HZ'
          have HC : Hid (cellsOf [z] = [.int .u8 ((x : Int) * 16 + (y : Int))]) := show _ = _ by rw [HZ'.out]; rfl
          have hgn := heap_alloc_new wd (.cells #[.int .u8 ((x : Int) * 16 + (y : Int))] 5)
          have HOA : Hid ((wd.alloc (.cells #[.int .u8 ((x : Int) * 16 + (y : Int))] 5)).ownsRow w.heap.size 5 1 (.slice A k c) k (cellsOf pre)) := HOD.out.alloc _
          have BA : Below w.heap.size w (wd.alloc (.cells #[.int .u8 ((x : Int) * 16 + (y : Int))] 5)) := BD.alloc BD.size _
          have HS : Hid (0 < 1 → ∃ ad, some (⟨wd.heap.size, 0, none⟩ : Addr) = some ad ∧ ∀ j u, ([.int .u8 ((x : Int) * 16 + (y : Int))] : List Value)[j]? = some u → (wd.alloc (.cells #[.int .u8 ((x : Int) * 16 + (y : Int))] 5)).cell? (ad.add j) = some u) := fun _ =>
            ⟨_, rfl, World.news_of_block (cs := #[.int .u8 ((x : Int) * 16 + (y : Int))]) (t := 5) (fr := (0, 0)) hgn⟩
          have L2 : k + 1 ≤ maxLen := by simp only [maxLen]; omega
          have L3 : (k + 1) * 1 ≤ 140737488355328 := by omega
          have hsz := BA.size
          have L4 : ∀ u ∈ ([.int .u8 ((x : Int) * 16 + (y : Int))] : List Value), u.oneCell' = true := by simp [Value.oneCell']
          clear hgn HOD BD
          go_wp2_with (first | (at_builtin; refine wpList_append_held _ rfl (.tmp 33) (.tmp 39) 22 rfl w.heap.size 5 i0 _ 1 Try.underlying22 HI.out HZ.out H1.out H2.out rfl _ k _ rfl HOA.out (some ⟨wd.heap.size, 0, none⟩) 1 1 [.int .u8 ((x : Int) * 16 + (y : Int))] rfl rfl HS.out L4 L2 L3 hsz ?_))
          intro A5 c5 w5 ho5 hg5 _
          have B5 : Below w.heap.size w w5 := BA.grown hg5 hsz (fun k hk => (HOA.out.lt k hk).1)
          have HO5 : Hid (w5.ownsRow w.heap.size 5 1 (.slice A5 (k + 1) c5) (k + 1) (cellsOf (pre ++ [z]))) := by
            rw [cellsOf_append, HC.out]
            exact ho5
          clear ho5 hg5 HOA BA hsz HS L4
          go_wp2_with fail
          go_roundw
          case rel => exact ⟨k + 1, pre ++ [z], A5, c5, by rw [HLen.out]; omega, ret_val (by omega), rfl, HO5.out, HN'.out, B5⟩
          case measure => simp [intOf]; omega
        · have HN : Hid (r = none) := show _ = _ by
            rw [HR.out, HU.out, HAT.out, if_neg (by omega)]
            rfl
          rw [digI_none (by have := val_le b; omega)]
          go_wp2_with fail
          go_ret2
          exact got_none HN.out BD
      · have HN : Hid (r = none) := show _ = _ by
          rw [HR.out, HU.out, HAT.out, if_neg (by omega)]
          rfl
        rw [digI_none (by have := val_le a; omega)]
        go_wp2_with fail
        go_ret2
        exact got_none HN.out BD
    · have hkh : k = h := by omega
      subst hkh
      have d1 : decide (2 * (k : Int) < (l.length : Int)) = false := by simp; omega
      have HF : Hid (r = some pre) := show _ = _ by
        rw [HR.out, HU.out, List.drop_eq_nil_of_le (by rw [HLen.out]; omega)]
        simp [unhex]
      go_wp2_with fail
      go_ret2
      exact got_some HF.out (own_bytes HO.out) Br

theorem refUnhex_any (l : List UInt8) (hl : l.length ≤ 2000000) (w : World) : Calls Try.prog 9 #[.string ⟨l.toArray⟩] w (Got (unhex l) w) := by
  rcases Nat.mod_two_eq_zero_or_one l.length with h | h
  · exact refUnhex_even l (l.length / 2) (by omega) (by omega) w
  · exact refUnhex_odd l h w

end Go.Proofs.Ytkdbonghmjejcaa
