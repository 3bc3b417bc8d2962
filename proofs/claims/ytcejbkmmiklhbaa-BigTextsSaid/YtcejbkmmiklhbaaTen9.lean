/-
  Rows of digits that may be appended to and written; what tenfold does. No condition beyond what each contract says.
-/
import Derived.Test.YtcejbkmmiklhbaaOf9
namespace Go.Proofs.Ytcejbkmmiklhbaa
open Go.RowKit

/-- A row of the call's own, as a block; and back. -/
theorem own_row {w : World} {base n c : Nat} {A : Option Addr} {xs : List Nat} (h : w.ownsRow base 45 1 (.slice A n c) n (dc xs)) (h0 : 0 < n) :
    ∃ g post, A = some ⟨g, 0, none⟩ ∧ base ≤ g ∧ Row w g 45 (dc xs ++ post) ∧ ∀ (w' : World) (ys : List Nat), ys.length = n → Row w' g 45 (dc ys ++ post) → w'.ownsRow base 45 1 (.slice A n c) n (dc ys) := by
  rcases h.2 with ⟨_, e⟩ | ⟨g, cap, cur, e, hb, hg, hnc, hm, hs, ht⟩
  · omega
  · injection e with e1 e2 e3
    subst e1 e3
    have ht' : cur.toList.take n = dc xs := by simpa using ht
    have hp : dc xs ++ cur.toList.drop n = cur.toList := by rw [← ht', List.take_append_drop]
    have hl : xs.length = n := by have := h.1; rw [dc_length] at this; omega
    refine ⟨g, cur.toList.drop n, rfl, hb, ?_, fun w' ys hy hr => ⟨by rw [dc_length, hy, Nat.mul_one], .inr ⟨g, c, _, rfl, hb, hr, hnc, hm, ?_, ?_⟩⟩⟩
    · unfold Row
      rw [hp]
      exact hg
    · have h1 : (cur.toList.drop n).length = c - n := by rw [List.length_drop]; simp; omega
      simp [dc_length, hy]
      have : cur.size = c := by omega
      omega
    · simp [dc_length, hy]

/-- Behind i digits. -/
def TfAt (w : World) (base g n k : Nat) (post : List Value) (xs : List Nat) (v5 v12 : Value) (wr : World) : Prop :=
  ∃ (i cy : Nat) (zs : List Nat), i ≤ n ∧ v12 = .int .i64 (i : Int) ∧ v5 = .int .i64 (cy : Int) ∧ cy < 10 ∧ zs.length = i ∧ Dg zs ∧ nv zs + 65536 ^ i * cy = 10 * nv (xs.take i) + k ∧
    Row wr g 45 (dc (zs ++ xs.drop i) ++ post) ∧ Below base w wr

set_option maxHeartbeats 400000 in
theorem tenfold_any (A : Option Addr) (n c base : Nat) (xs : List Nat) (k : Nat) (w : World) (h : w.ownsRow base 45 1 (.slice A n c) n (dc xs)) (hx : Dg xs) (hn : n ≤ 100000) (hb : base ≤ w.heap.size) (hk : k < 10) :
    Calls Try.prog 48 #[.slice A n c, .int .u8 (k : Int)] w fun e w' => ∃ (ys : List Nat) (q : Nat), e = .returned (.int .u16 (q : Int)) ∧ q < 10 ∧ Dg ys ∧ nv ys + 65536 ^ n * q = 10 * nv xs + k ∧ ys.length = n ∧ w'.ownsRow base 45 1 (.slice A n c) n (dc ys) ∧ Below base w w' := by
  have hl : xs.length = n := by have := h.1; rw [dc_length] at this; omega
  have zk : wrap64 (k : Int) = (k : Int) := wr64 (by omega)
  by_cases h0 : n = 0
  · subst h0
    have HO := Lib.hid h
    obtain rfl : xs = [] := List.eq_nil_of_length_eq_zero hl
    have zq := wr16 (x := k) (by omega)
    have HK := Lib.hid hk
    clear h hk
    go_enter Try.func48, Try.ntmps48
    go_wp2_with fail
    go_loopw [5, 12] (fun v5 v12 wr => v5 = .int .i64 (k : Int) ∧ v12 = .int .i64 0 ∧ wr = w) (fun _ _ _ => 0)
    case atStart => exact ⟨by first | rfl | exact ret_val zk, rfl, rfl⟩
    case round =>
      obtain ⟨rfl, rfl, rfl⟩ := hrel
      go_wp2_with fail
      go_ret
      exact ⟨[], k, by first | rfl | exact ret_num zq, HK.out, Dg.nil, by simp [nv], rfl, HO.out, Below.refl _ _⟩
  · obtain ⟨g, post, rfl, hg, hr, hback⟩ := own_row h (by omega)
    have HG := Lib.hid hg; have HL := Lib.hid hl; have HD := Lib.hid hx; have HR := Lib.hid hr; have HB := Lib.hid hback; have HK := Lib.hid hk
    clear h hr hg h0 hback hl hx hk hb
    go_enter Try.func48, Try.ntmps48
    go_wp2_with fail
    go_loopw [5, 12] (fun v5 v12 wr => TfAt w base g n k post xs v5 v12 wr) (fun _ v _ => n - (intOf v).toNat)
    case atStart => exact ⟨0, k, [], by omega, rfl, by first | rfl | exact ret_val zk, HK.out, rfl, Dg.nil, by simp [nv], by simpa using HR.out, Below.refl _ _⟩
    case round =>
      clear HR
      obtain ⟨i, cy, zs, hi, rfl, rfl, hcy, hz, dz, hv, R1, B1⟩ := hrel
      by_cases hlt : i < n
      · have d1 := lt_t hlt
        have d1n := ltn_t hlt
        have i0 : (0 : Int) ≤ (i : Int) := by omega
        have iN : (i : Int) < (n : Int) := by omega
        have hix : i < xs.length := by rw [HL.out]; exact hlt
        have hx := HD.out.get i
        have htk := take_nv xs i hix
        have hdr : xs.drop i = xs.getD i 0 :: xs.drop (i + 1) := by rw [List.drop_eq_getElem_cons hix]; simp [List.getD, hix]
        rw [hdr] at R1
        have x1 : wr.cell? ⟨g, i, none⟩ = some (.int .u16 ((xs.getD i 0 : Nat) : Int)) := by
          rw [R1.cell i, List.getElem?_append_left (by rw [dc_length]; simp; omega), dc_get _ i (by simp; omega)]
          congr 3
          simp [List.getD, hz]
        have fl := R1.frozen i
        generalize xs.getD i 0 = x at *
        obtain ⟨y, hy⟩ : ∃ y, y = 10 * x := ⟨_, rfl⟩
        obtain ⟨v, hvv⟩ : ∃ v, v = cy + y := ⟨_, rfl⟩
        obtain ⟨d, hd⟩ : ∃ d, d = v % 65536 := ⟨_, rfl⟩
        obtain ⟨p, hp⟩ : ∃ p, p = v / 65536 := ⟨_, rfl⟩
        have hdb : d < 65536 := by omega
        have hpb : p < 10 := by omega
        have HS : Hid (nv (zs ++ [d]) + 65536 ^ (i + 1) * p = 10 * nv (xs.take (i + 1)) + k) := show _ = _ by
          rw [nv_snoc, hz, htk, Nat.pow_succ, hd, hp]
          exact ten_step hv (by omega)
        have R2 := R1.set i (.int .u16 (d : Int))
        rw [set_at _ x d _ post i hz] at R2
        have hrw : zs ++ d :: xs.drop (i + 1) = (zs ++ [d]) ++ xs.drop (i + 1) := by simp
        rw [hrw] at R2
        have B2 := B1.setCell (p := ⟨g, i, none⟩) HG.out (.int .u16 (d : Int))
        have HP := Lib.hid hpb
        have HDZ := Lib.hid (dz.append (Dg.one hdb))
        have HLZ : Hid ((zs ++ [d]).length = i + 1) := show _ = _ by rw [List.length_append, hz]; rfl
        have e1 : 10 * (x : Int) = (y : Int) := by omega
        have e2 : (cy : Int) + (y : Int) = (v : Int) := by omega
        have e3 : (v : Int) / 65536 = (p : Int) := by omega
        have z1 := wr64 (x := y) (by omega)
        have z2 := wr64 (x := v) (by omega)
        have z3 := wr64 (x := p) (by omega)
        have z4 : IntKind.u16.wrap (v : Int) = (d : Int) := by rw [IntKind.wrap_u16]; omega
        have z5 := wr64 (x := x) (by omega)
        have HRR := Lib.hid R2; have HBB := Lib.hid B2; have HI := Lib.hid hlt
        clear R1 B1 R2 B2 hv hz dz htk hdr hrw hix hy hvv hd hp hdb hpb hcy hi
        clear hx zk d1n
        go_wp2_with fail
        go_roundw
        case rel => exact ⟨i + 1, p, zs ++ [d], HI.out, by first | rfl | exact ret_val (by omega), by first | rfl | exact ret_val e3, HP.out, HLZ.out, HDZ.out, HS.out, HRR.out, HBB.out⟩
        case measure => simp [intOf]; have := HI.out; omega
      · obtain rfl : i = n := by omega
        have d1 := lt_f (Nat.le_refl i)
        have d1n := ltn_f (Nat.le_refl i)
        rw [List.take_of_length_le (by rw [HL.out]; exact Nat.le_refl _)] at hv
        rw [List.drop_eq_nil_of_le (by rw [HL.out]; exact Nat.le_refl _), List.append_nil] at R1
        have HO := Lib.hid (HB.out wr zs hz R1)
        have zq := wr16 (x := cy) (by omega)
        have HV := Lib.hid hv; have HBB := Lib.hid B1; have HC := Lib.hid hcy; have HDZ := Lib.hid dz; have HZ := Lib.hid hz
        clear hv R1 B1 hcy dz hz hi hlt
        go_wp2_with fail
        go_ret
        exact ⟨zs, cy, by first | rfl | exact ret_num zq, HC.out, HDZ.out, HV.out, HZ.out, HO.out, HBB.out⟩

end Go.Proofs.Ytcejbkmmiklhbaa
