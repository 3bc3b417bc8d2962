/-
  What Of does, of the program and of the document. No condition beyond what each contract says.
-/
import Derived.Test.YtcejbkmmiklhbaaRefM9
namespace Go.Proofs.Ytcejbkmmiklhbaa
open Go.RowKit

/-- What is left of v. -/
def OfI (w : World) (t : Nat) (v0 v3 : Value) (wr : World) : Prop :=
  ∃ (i k q : Nat) (R : Option Addr) (zs : List Nat), i + (dg q).length ≤ 4 ∧ v0 = .int .u64 (q : Int) ∧ v3 = .slice R i k ∧ q < 18446744073709551616 ∧ wr.ownsRow w.heap.size 45 1 (.slice R i k) i (dc zs) ∧ Dg zs ∧ dg t = zs ++ dg q ∧ Below w.heap.size w wr

set_option maxHeartbeats 4000000 in
theorem of_any9 (t : Nat) (ht : t < 18446744073709551616) (w : World) :
    Calls Try.prog 33 #[.int .u64 (t : Int)] w fun e w' => ∃ R k, e = .returned (.slice R (dg t).length k) ∧ Digs w' R (dg t).length (dg t) ∧ Below w.heap.size w w' := by
  have HL4 : Hid ((dg t).length ≤ 4) := (dg_len t 4).2 (Nat.lt_of_lt_of_le ht (by decide))
  have HT := Lib.hid ht
  obtain ⟨i0', hi0, hz0, hz1, hz2⟩ := info_parts info_u16
  have HZ0 := Lib.hid hz0; have HI0 := Lib.hid hi0; have HZ1 := Lib.hid hz1; have HZ2 := Lib.hid hz2
  clear hz0 hi0 hz1 hz2 ht
  go_enter Try.func33, Try.ntmps33
  go_wp2_with fail
  go_loopw [0, 3] (fun v0 v3 wr => OfI w t v0 v3 wr) (fun v _ _ => (intOf v).toNat)
  case atStart => exact ⟨0, 0, t, none, [], by have := HL4.out; omega, rfl, rfl, HT.out, World.ownsRow_nil _ _ _ _, Dg.nil, rfl, Below.refl _ _⟩
  case round =>
    obtain ⟨i, k, q, R, zs, hl, rfl, rfl, hq, hO, hz, hv, B1⟩ := hrel
    have HO := Lib.hid hO; have HZ := Lib.hid hz; have HV := Lib.hid hv; have HB := Lib.hid B1
    clear hO hz hv B1
    by_cases hq0 : q = 0
    · subst hq0
      have hVV := HV.out
      rw [dg_zero, List.append_nil] at hVV
      have hD := own_digs HO.out HZ.out
      have hlz : zs.length = i := hD.1
      have HD := Lib.hid hD; have HE := Lib.hid hVV; have HLZ := Lib.hid hlz
      clear hVV hD hlz HV HO HZ hl hq
      go_wp2_with fail
      go_ret
      rw [HE.out, HLZ.out]
      exact ⟨_, _, rfl, HD.out, HB.out⟩
    · obtain ⟨d, hd⟩ : ∃ d : Nat, d = q % 65536 := ⟨_, rfl⟩
      obtain ⟨p, hp⟩ : ∃ p : Nat, p = q / 65536 := ⟨_, rfl⟩
      have HD : Hid (d < 65536) := show _ < _ by omega
      have hdq := dg_pos hq0
      rw [← hd, ← hp] at hdq
      have HN : Hid (dg t = (zs ++ [d]) ++ dg p) := show _ = _ by rw [HV.out, hdq]; simp
      have HJ : Hid (i + 1 + (dg p).length ≤ 4) := show _ ≤ _ by
        rw [hdq, List.length_cons] at hl
        omega
      have HP : Hid (p < 18446744073709551616) := show _ < _ by omega
      have HPq : Hid (p < q) := show _ < _ by omega
      have hi4 : i ≤ 4 := by omega
      have l2 : i + 1 ≤ maxLen := by simp only [maxLen]; omega
      have l3 : (i + 1) * 2 ≤ 140737488355328 := by omega
      have hgn := heap_alloc_new wr (.cells #[.int .u16 (d : Int)] 45)
      have HOA : Hid ((wr.alloc (.cells #[.int .u16 (d : Int)] 45)).ownsRow w.heap.size 45 1 (.slice R i k) i (dc zs)) := HO.out.alloc _
      have BA : Below w.heap.size w (wr.alloc (.cells #[.int .u16 (d : Int)] 45)) := HB.out.alloc HB.out.size _
      have HSr : Hid (0 < 1 → ∃ ad, some (⟨wr.heap.size, 0, none⟩ : Addr) = some ad ∧ ∀ j u, ([.int .u16 (d : Int)] : List Value)[j]? = some u → (wr.alloc (.cells #[.int .u16 (d : Int)] 45)).cell? (ad.add j) = some u) := fun _ =>
        ⟨_, rfl, World.news_of_block (cs := #[.int .u16 (d : Int)]) (t := 45) (fr := (0, 0)) hgn⟩
      have hsz : w.heap.size ≤ (wr.alloc (.cells #[.int .u16 (d : Int)] 45)).heap.size := Nat.le_trans HB.out.size (by simp)
      have l4 : ∀ u ∈ ([.int .u16 (d : Int)] : List Value), u.oneCell' = true := by simp [Value.oneCell']
      have d2 : ((q : Int) != 0) = true := bne0_t hq0
      have z1 : IntKind.u16.wrap (q : Int) = (d : Int) := by rw [IntKind.wrap_u16]; omega
      have z2 : (q : Int) / 65536 = (p : Int) := by omega
      have Z1 := Lib.hid z1
      clear z1
      have z3 := quoB hp
      have z4 := remB hd
      have z5 := wr16 HD.out
      have z1 := Z1.out
      have z6 := wru64 HP.out
      have HBA := Lib.hid BA
      clear hgn HO BA hl hq hd hp hdq hq0 hi4 HV
      go_wp2_with (first | (at_builtin; refine wpList_append_held _ rfl (.tmp 8) (.tmp 11) 23 rfl w.heap.size 45 i0' _ 2 Try.underlying23 HI0.out HZ0.out HZ1.out HZ2.out rfl _ i _ rfl HOA.out (some ⟨wr.heap.size, 0, none⟩) 1 1 [.int .u16 (d : Int)] rfl rfl HSr.out l4 l2 l3 hsz ?_))
      intro A5 c5 w9 ho9 hg9 _
      have B9 : Below w.heap.size w w9 := HBA.out.grown hg9 HBA.out.size (fun k hk => (HOA.out.lt k hk).1)
      have HO9 : Hid (w9.ownsRow w.heap.size 45 1 (.slice A5 (i + 1) c5) (i + 1) (dc (zs ++ [d]))) := by
        rw [dc_append]
        exact ho9.out
      have HB9 := Lib.hid B9
      clear ho9 hg9 HOA HBA HSr hsz l4 l2 l3 B9
      go_wp2_with fail
      go_roundw
      case rel => exact ⟨i + 1, c5, p, A5, zs ++ [d], HJ.out, by first | rfl | exact ret_val z6, rfl, HP.out, HO9.out, HZ.out.append (Dg.one HD.out), HN.out, HB9.out⟩
      case measure => simp [intOf]; exact HPq.out

set_option maxHeartbeats 4000000 in
theorem refOf_any (t : Nat) (ht : t < 18446744073709551616) (w : World) :
    Calls Try.prog 29 #[.int .u64 (t : Int)] w fun e w' => ∃ R k, e = .returned (.slice R (dg t).length k) ∧ Digs w' R (dg t).length (dg t) ∧ Below w.heap.size w w' := by
  have HL4 : Hid ((dg t).length ≤ 4) := (dg_len t 4).2 (Nat.lt_of_lt_of_le ht (by decide))
  have HT := Lib.hid ht
  obtain ⟨i0', hi0, hz0, hz1, hz2⟩ := info_parts info_u16
  have HZ0 := Lib.hid hz0; have HI0 := Lib.hid hi0; have HZ1 := Lib.hid hz1; have HZ2 := Lib.hid hz2
  clear hz0 hi0 hz1 hz2 ht
  go_enter Try.func29, Try.ntmps29
  go_wp2_with fail
  go_loopw [0, 3] (fun v0 v3 wr => OfI w t v0 v3 wr) (fun v _ _ => (intOf v).toNat)
  case atStart => exact ⟨0, 0, t, none, [], by have := HL4.out; omega, rfl, rfl, HT.out, World.ownsRow_nil _ _ _ _, Dg.nil, rfl, Below.refl _ _⟩
  case round =>
    obtain ⟨i, k, q, R, zs, hl, rfl, rfl, hq, hO, hz, hv, B1⟩ := hrel
    have HO := Lib.hid hO; have HZ := Lib.hid hz; have HV := Lib.hid hv; have HB := Lib.hid B1
    clear hO hz hv B1
    by_cases hq0 : q = 0
    · subst hq0
      have hVV := HV.out
      rw [dg_zero, List.append_nil] at hVV
      have hD := own_digs HO.out HZ.out
      have hlz : zs.length = i := hD.1
      have HD := Lib.hid hD; have HE := Lib.hid hVV; have HLZ := Lib.hid hlz
      clear hVV hD hlz HV HO HZ hl hq
      go_wp2_with fail
      go_ret
      rw [HE.out, HLZ.out]
      exact ⟨_, _, rfl, HD.out, HB.out⟩
    · obtain ⟨d, hd⟩ : ∃ d : Nat, d = q % 65536 := ⟨_, rfl⟩
      obtain ⟨p, hp⟩ : ∃ p : Nat, p = q / 65536 := ⟨_, rfl⟩
      have HD : Hid (d < 65536) := show _ < _ by omega
      have hdq := dg_pos hq0
      rw [← hd, ← hp] at hdq
      have HN : Hid (dg t = (zs ++ [d]) ++ dg p) := show _ = _ by rw [HV.out, hdq]; simp
      have HJ : Hid (i + 1 + (dg p).length ≤ 4) := show _ ≤ _ by
        rw [hdq, List.length_cons] at hl
        omega
      have HP : Hid (p < 18446744073709551616) := show _ < _ by omega
      have HPq : Hid (p < q) := show _ < _ by omega
      have hi4 : i ≤ 4 := by omega
      have l2 : i + 1 ≤ maxLen := by simp only [maxLen]; omega
      have l3 : (i + 1) * 2 ≤ 140737488355328 := by omega
      have hgn := heap_alloc_new wr (.cells #[.int .u16 (d : Int)] 45)
      have HOA : Hid ((wr.alloc (.cells #[.int .u16 (d : Int)] 45)).ownsRow w.heap.size 45 1 (.slice R i k) i (dc zs)) := HO.out.alloc _
      have BA : Below w.heap.size w (wr.alloc (.cells #[.int .u16 (d : Int)] 45)) := HB.out.alloc HB.out.size _
      have HSr : Hid (0 < 1 → ∃ ad, some (⟨wr.heap.size, 0, none⟩ : Addr) = some ad ∧ ∀ j u, ([.int .u16 (d : Int)] : List Value)[j]? = some u → (wr.alloc (.cells #[.int .u16 (d : Int)] 45)).cell? (ad.add j) = some u) := fun _ =>
        ⟨_, rfl, World.news_of_block (cs := #[.int .u16 (d : Int)]) (t := 45) (fr := (0, 0)) hgn⟩
      have hsz : w.heap.size ≤ (wr.alloc (.cells #[.int .u16 (d : Int)] 45)).heap.size := Nat.le_trans HB.out.size (by simp)
      have l4 : ∀ u ∈ ([.int .u16 (d : Int)] : List Value), u.oneCell' = true := by simp [Value.oneCell']
      have d2 : decide ((0 : Int) < (q : Int)) = true := gt0_t (Nat.pos_of_ne_zero hq0)
      have d2n : decide (0 < q) = true := by simp; omega
      have z1 : IntKind.u16.wrap (q : Int) = (d : Int) := by rw [IntKind.wrap_u16]; omega
      have z2 : (q : Int) / 65536 = (p : Int) := by omega
      have Z1 := Lib.hid z1
      clear z1
      have z3 := quoB hp
      have z4 := remB hd
      have z5 := wr16 HD.out
      have z1 := Z1.out
      have z6 := wru64 HP.out
      have HBA := Lib.hid BA
      clear hgn HO BA hl hq hd hp hdq hq0 hi4 HV
      go_wp2_with (first | (at_builtin; refine wpList_append_held _ rfl (.tmp 6) (.tmp 10) 22 rfl w.heap.size 45 i0' _ 2 Try.underlying22 HI0.out HZ0.out HZ1.out HZ2.out rfl _ i _ rfl HOA.out (some ⟨wr.heap.size, 0, none⟩) 1 1 [.int .u16 (d : Int)] rfl rfl HSr.out l4 l2 l3 hsz ?_))
      intro A5 c5 w9 ho9 hg9 _
      have B9 : Below w.heap.size w w9 := HBA.out.grown hg9 HBA.out.size (fun k hk => (HOA.out.lt k hk).1)
      have HO9 : Hid (w9.ownsRow w.heap.size 45 1 (.slice A5 (i + 1) c5) (i + 1) (dc (zs ++ [d]))) := by
        rw [dc_append]
        exact ho9.out
      have HB9 := Lib.hid B9
      clear ho9 hg9 HOA HBA HSr hsz l4 l2 l3 B9
      go_wp2_with fail
      go_roundw
      case rel => exact ⟨i + 1, c5, p, A5, zs ++ [d], HJ.out, by first | rfl | exact ret_val z6, rfl, HP.out, HO9.out, HZ.out.append (Dg.one HD.out), HN.out, HB9.out⟩
      case measure => simp [intOf]; exact HPq.out

end Go.Proofs.Ytcejbkmmiklhbaa
