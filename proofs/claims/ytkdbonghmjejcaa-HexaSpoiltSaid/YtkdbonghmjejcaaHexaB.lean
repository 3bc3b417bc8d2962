/-
  What hexa.Text and the document's Hex do, one contract each; no condition beyond what each contract asks.
-/
import Derived.Test.YtkdbonghmjejcaaHexaA
import Derived.StillTailTactics
namespace Go.Proofs.Ytkdbonghmjejcaa
open Go.RowKit

theorem digs (n : Nat) (h : n < 16) (w : World) :
    (Instr.index 9 (.string ⟨#[48, 49, 50, 51, 52, 53, 54, 55, 56, 57, 97, 98, 99, 100, 101, 102]⟩) (.int .u8 (n : Int))).run Try.prog w = .ok (.int .u8 ((dig n).toNat : Int)) w := by
  have h' : n = 0 ∨ n = 1 ∨ n = 2 ∨ n = 3 ∨ n = 4 ∨ n = 5 ∨ n = 6 ∨ n = 7 ∨ n = 8 ∨ n = 9 ∨ n = 10 ∨ n = 11 ∨ n = 12 ∨ n = 13 ∨ n = 14 ∨ n = 15 := by omega
  rcases h' with rfl | rfl | rfl | rfl | rfl | rfl | rfl | rfl | rfl | rfl | rfl | rfl | rfl | rfl | rfl | rfl <;> (show _ = _; kernel_rfl)

def TextRel (w : World) (bs : List UInt8) (i : Value) (wr : World) : Prop :=
  ∃ k : Nat, k ≤ bs.length ∧ i = .int .i64 (k : Int) ∧ Bld w.heap.size w.heap.size (hex (bs.take k)) wr ∧ Below w.heap.size w wr

set_option maxHeartbeats 2000000 in
theorem text_any (A : Option Addr) (n c : Nat) (bs : List UInt8) (w : World) (hh : Held w (· < w.heap.size) A n bs) (hn : n ≤ 1000000) :
    Calls Try.prog 10 #[.slice A n c] w fun e w' => e = .returned (.string ⟨(hex bs).toArray⟩) ∧ Below w.heap.size w w' := by
  have HH := Lib.hid hh
  have HLen := Lib.hid hh.1
  clear hh
  obtain ⟨l, hl⟩ : ∃ l, l = hex bs := ⟨_, rfl⟩
  rw [← hl]
  have HL := Lib.hid hl
  clear hl
  go_enter Try.func10, Try.ntmps10
  go_wp2_with fail
  refine (grow_any w.heap.size w.heap.size (2 * n) _ (Nat.le_refl _) (heap_alloc_new w _) (by simp) (by omega)).mono ?_
  rintro e w1 ⟨rfl, hb1, B1⟩
  have B1' : Below w.heap.size w w1 := ((Below.refl _ _).alloc (Nat.le_refl _) _).trans B1
  have HB1 := Lib.hid hb1
  clear hb1 B1
  go_wp2_with fail
  go_loopw [12] (fun i wr => TextRel w bs i wr) (fun i _ => n - (intOf i).toNat)
  case atStart => exact ⟨0, Nat.zero_le _, rfl, HB1.out, B1'⟩
  case round =>
    obtain ⟨k, hk, rfl, hbk, Br⟩ := hrel
    rw [HLen.out] at hk
    have HK := Lib.hid hbk
    clear hbk
    by_cases hlt : k < n
    · have d1 : decide ((k : Int) < (n : Int)) = true := by simp; omega
      have d1n : decide (k < n) = true := by simp; omega
      obtain ⟨b, o, rfl, hblk, hc⟩ := (HH.out.keep (fun k hk => Br.block k hk)).2 (by omega)
      have hck := hc k hlt
      clear hblk hc
      obtain ⟨y, hy⟩ : ∃ y, y = bs.getD k 0 := ⟨_, rfl⟩
      rw [← hy] at hck
      have HY := Lib.hid hy
      clear hy
      have hx : y.toNat < 256 := y.toNat_lt
      obtain ⟨x, hxe⟩ : ∃ x, x = y.toNat := ⟨_, rfl⟩
      have HX := Lib.hid hxe
      rw [← hxe] at hck hx
      clear hxe
      have g1 := fun w => digs (x / 16) (by omega) w
      have g2 := fun w => digs (x % 16) (by omega) w
      rw [Int.natCast_ediv] at g1
      rw [Int.natCast_emod] at g2
      simp only [Int.cast_ofNat_Int] at g1 g2
      have hlen : (hex (bs.take k)).length ≤ 2000000 := by rw [hex_length, List.length_take]; omega
      have HE : Hid (hex (bs.take (k + 1)) = hex (bs.take k) ++ [dig (x / 16)] ++ [dig (x % 16)]) := show _ = _ by
        rw [List.take_add_one, List.getElem?_eq_getElem (show k < bs.length by rw [HLen.out]; exact hlt), Option.toList_some, hex_snoc, HX.out, HY.out]
        simp [List.getD, show k < bs.length by rw [HLen.out]; exact hlt]
      obtain ⟨t, ht⟩ : ∃ t, t = hex (bs.take k) := ⟨_, rfl⟩
      rw [← ht] at HK hlen HE
      clear ht
      go_wp2_with fail
      refine (writeByte_any w.heap.size w.heap.size t (dig (x / 16)) wr HK.out (by omega) Br.size).mono ?_
      rintro e w2 ⟨rfl, hb2, B2⟩
      have B2' : Below w.heap.size w w2 := Br.trans B2
      have HB2 := Lib.hid hb2
      have hl2 : (t ++ [dig (x / 16)]).length ≤ 2000001 := by simp; omega
      clear hb2 B2 HK
      go_wp2_with fail
      refine (writeByte_any w.heap.size w.heap.size (t ++ [dig (x / 16)]) (dig (x % 16)) w2 HB2.out (by omega) B2'.size).mono ?_
      rintro e w3 ⟨rfl, hb3, B3⟩
      have B3' : Below w.heap.size w w3 := B2'.trans B3
      have HB3 := Lib.hid hb3
      clear hb3 B3
      rw [← HE.out] at HB3
      go_wp2_with fail
      go_roundw
      case rel => exact ⟨k + 1, by rw [HLen.out]; omega, by go_num, HB3.out, B3'⟩
      case measure => simp [intOf]; omega
    · obtain rfl : k = n := by omega
      have d1 : decide ((k : Int) < (k : Int)) = false := by simp
      rw [show bs.take k = bs by rw [← HLen.out]; exact List.take_length, ← HL.out] at HK
      go_wp2_with fail
      refine (builderString_any w.heap.size w.heap.size l wr HK.out Br.size).mono ?_
      rintro e w2 ⟨rfl, B2⟩
      have B2' : Below w.heap.size w w2 := Br.trans B2
      clear B2
      go_wp2_with fail
      go_ret
      exact ⟨rfl, B2'⟩

theorem info_u8 : (Try.prog.info? 5).map (fun i => (i.zero, i.size, i.bytes)) = some (some (.int .u8 0), 1, 1) := by kernel_rfl

def HexRel (w : World) (bs : List UInt8) (v i : Value) (wr : World) : Prop :=
  ∃ (k : Nat) (A : Option Addr) (c : Nat), k ≤ bs.length ∧ i = .int .i64 (k : Int) ∧ v = .slice A (2 * k) c ∧ wr.ownsRow w.heap.size 5 1 (.slice A (2 * k) c) (2 * k) (cellsOf (hex (bs.take k))) ∧ Below w.heap.size w wr

set_option maxHeartbeats 2000000 in
theorem refHex_any (A : Option Addr) (n c : Nat) (bs : List UInt8) (w : World) (hh : Held w (· < w.heap.size) A n bs) (hn : n ≤ 1000000) :
    Calls Try.prog 11 #[.slice A n c] w fun e w' => e = .returned (.string ⟨(hex bs).toArray⟩) ∧ Below w.heap.size w w' := by
  obtain ⟨i0, hi0, hz0, hz1, hz2⟩ := info_parts info_u8
  have HZ := Lib.hid hz0; have HI := Lib.hid hi0; have H1 := Lib.hid hz1; have H2 := Lib.hid hz2
  have HH := Lib.hid hh
  have HLen := Lib.hid hh.1
  clear hh hz0 hi0 hz1 hz2
  obtain ⟨l, hl⟩ : ∃ l, l = hex bs := ⟨_, rfl⟩
  rw [← hl]
  have HL := Lib.hid hl
  clear hl
  go_enter Try.func11, Try.ntmps11
  go_wp2_with fail
  go_loopw [3, 4] (fun v i wr => HexRel w bs v i wr) (fun _ i _ => n - (intOf i).toNat)
  case atStart => exact ⟨0, none, 0, Nat.zero_le _, rfl, rfl, World.ownsRow_nil _ _ _ _, Below.refl _ _⟩
  case round =>
    obtain ⟨k, A', c', hk, rfl, rfl, hown, Br⟩ := hrel
    rw [HLen.out] at hk
    have HO := Lib.hid hown
    clear hown
    by_cases hlt : k < n
    · have d1 : decide ((k : Int) < (n : Int)) = true := by simp; omega
      have d1n : decide (k < n) = true := by simp; omega
      obtain ⟨b, o, rfl, hblk, hc⟩ := (HH.out.keep (fun k hk => Br.block k hk)).2 (by omega)
      have hck := hc k hlt
      clear hblk hc
      obtain ⟨y, hy⟩ : ∃ y, y = bs.getD k 0 := ⟨_, rfl⟩
      rw [← hy] at hck
      have HY := Lib.hid hy
      clear hy
      have hx : y.toNat < 256 := y.toNat_lt
      obtain ⟨x, hxe⟩ : ∃ x, x = y.toNat := ⟨_, rfl⟩
      have HX := Lib.hid hxe
      rw [← hxe] at hck hx
      clear hxe
      have g1 := fun w => digs (x / 16) (by omega) w
      have g2 := fun w => digs (x % 16) (by omega) w
      rw [Int.natCast_ediv] at g1
      rw [Int.natCast_emod] at g2
      simp only [Int.cast_ofNat_Int] at g1 g2
      have HE : Hid (hex (bs.take (k + 1)) = hex (bs.take k) ++ [dig (x / 16), dig (x % 16)]) := show _ = _ by
        rw [List.take_add_one, List.getElem?_eq_getElem (show k < bs.length by rw [HLen.out]; exact hlt), Option.toList_some, hex_snoc, HX.out, HY.out]
        simp [List.getD, show k < bs.length by rw [HLen.out]; exact hlt]
      have s1 : (0 : Int) ≤ (k : Int) := by omega
      have s2 : (k : Int) < (n : Int) := by omega
      have s3 : IntKind.u8.wrap ((x : Int) / 16) = (x : Int) / 16 := by rw [IntKind.wrap_u8]; omega
      have s4 : (x : Int).tmod 16 = (x : Int) % 16 := Int.tmod_eq_emod_of_nonneg (by omega)
      go_wp2_with fail
      have L2 : 2 * k + 2 ≤ maxLen := by simp only [maxLen]; omega
      have L3 : (2 * k + 2) * 1 ≤ 140737488355328 := by omega
      have hsz := Br.size
      go_region_law
        (first
          | (refine step_append_lies _ (by rfl) _ _ _ (by rfl) w.heap.size 5 i0 _ 1 1 Try.underlying22 HI.out HZ.out H1.out H2.out rfl (by omega) (.slice A' (2 * k) c') (2 * k) _ (by rfl) ((HO.out.alloc _).drew)
              ⟨wr.heap.size, 0, none⟩ 2 2 [.int .u8 ((dig (x / 16)).toNat : Int), .int .u8 ((dig (x % 16)).toNat : Int)] (by rfl) (by rfl) (World.news_of_block (cs := #[.int .u8 ((dig (x / 16)).toNat : Int), .int .u8 ((dig (x % 16)).toNat : Int)]) (t := 5) (fr := (0, 0)) (heap_alloc_new wr _)) (by simp [Value.oneCell'])
              (by omega) L2 L3 (by simp; omega) (wr.heap.size + 1) (by simp) ?_; intro gg cap w5 hown1 hgrow hat hlt))
      all_goals
        have B5 : Below w.heap.size w w5 := (Br.alloc hsz _).drew.grown hgrow (by simp; omega) (fun k hk => (HO.out.lt k hk).1)
        have HO5 : Hid (w5.ownsRow w.heap.size 5 1 (.slice (some ⟨gg, 0, none⟩) (2 * (k + 1)) cap) (2 * (k + 1)) (cellsOf (hex (bs.take (k + 1))))) := by
          rw [HE.out, cellsOf_append]
          exact hown1
        clear hown1 hgrow hat hlt
        go_wp2_with fail
        go_roundw
        case rel => exact ⟨k + 1, _, cap, by rw [HLen.out]; omega, by go_num, rfl, HO5.out, B5⟩
        case measure => simp [intOf]; omega
    · obtain rfl : k = n := by omega
      have d1 : decide ((k : Int) < (k : Int)) = false := by simp
      rw [show bs.take k = bs by rw [← HLen.out]; exact List.take_length, ← HL.out] at HO
      have hs := fun c => run_string (P := Try.prog) 22 9 5 Try.underlying22 Try.underlying5 Try.underlying9 (own_bytes HO.out) c
      go_wp2_with fail
      go_ret
      exact ⟨rfl, Br⟩

end Go.Proofs.Ytkdbonghmjejcaa
