/-
  Rows of digits that the call itself may write; what tenth does, and a copy of a row. No condition beyond what each contract says.
-/
import Derived.Test.YtcejbkmmiklhbaaBigF
import Derived.Laws.BitsLemmas
namespace Go.Proofs.Ytcejbkmmiklhbaa
open Go.RowKit

/-- A slice of digits over a row of the call's own. -/
def Own (w : World) (base : Nat) (A : Option Addr) (n c : Nat) (xs : List Nat) : Prop :=
  xs.length = n ∧ Dg xs ∧ n ≤ c ∧ c ≤ 9223372036854775807 ∧ (0 < n → ∃ g post, A = some ⟨g, 0, none⟩ ∧ base ≤ g ∧ Row w g 45 (dc xs ++ post))
theorem Own.digs {w : World} {base : Nat} {A : Option Addr} {n c : Nat} {xs : List Nat} (h : Own w base A n c xs) : Digs w A n xs :=
  ⟨h.1, h.2.1, fun hn => by
    obtain ⟨g, post, e, hb, hr⟩ := h.2.2.2.2 hn
    refine ⟨g, 0, e, hr.lt, fun i hi => ?_⟩
    rw [Nat.zero_add, hr.cell i, List.getElem?_append_left (by rw [dc_length, h.1]; exact hi)]
    exact dc_get xs i (by rw [h.1]; exact hi)⟩
theorem Own.take {w : World} {base : Nat} {A : Option Addr} {n c : Nat} {xs : List Nat} (h : Own w base A n c xs) {k : Nat} (hk : k ≤ n) : Own w base A k c (xs.take k) :=
  ⟨by rw [List.length_take, h.1]; omega, h.2.1.take k, by have := h.2.2.1; omega, h.2.2.2.1, fun hn => by
    obtain ⟨g, post, e, hb, hr⟩ := h.2.2.2.2 (by omega)
    refine ⟨g, dc (xs.drop k) ++ post, e, hb, ?_⟩
    rw [← List.append_assoc, ← dc_append, List.take_append_drop]
    exact hr⟩
theorem Own.keep {w w' : World} {base : Nat} {A : Option Addr} {n c : Nat} {xs : List Nat} (h : Own w base A n c xs) (B : Below w.heap.size w w') : Own w' base A n c xs :=
  ⟨h.1, h.2.1, h.2.2.1, h.2.2.2.1, fun hn => by
    obtain ⟨g, post, e, hb, hr⟩ := h.2.2.2.2 hn
    exact ⟨g, post, e, hb, hr.keep B⟩⟩
theorem own_own {w : World} {base n c : Nat} {A : Option Addr} {xs : List Nat} (h : w.ownsRow base 45 1 (.slice A n c) n (dc xs)) (hx : Dg xs) : Own w base A n c xs := by
  have hl : xs.length = n := by have := h.1; rw [dc_length] at this; omega
  have hcp := own_cap h
  refine ⟨hl, hx, hcp.1, hcp.2, fun hn => ?_⟩
  rcases h.2 with ⟨_, e⟩ | ⟨g, cap, cur, e, hb, hg, hnc, hm, hs, ht⟩
  · omega
  · injection e with e1 e2 e3
    refine ⟨g, cur.toList.drop n, e1, hb, ?_⟩
    have ht' : dc xs = cur.toList.take n := by simpa using ht.symm
    rw [ht', List.take_append_drop]
    exact hg

theorem wr64 {x : Nat} (h : x < 4611686018427387904) : wrap64 (x : Int) = (x : Int) := by unfold wrap64; omega
theorem wr16 {x : Nat} (h : x < 65536) : IntKind.u16.wrap (x : Int) = (x : Int) := by rw [IntKind.wrap_u16]; omega
theorem wr8 {x : Nat} (h : x < 256) : IntKind.u8.wrap (x : Int) = (x : Int) := by rw [IntKind.wrap_u8]; omega
theorem wr_up16 {x : Nat} (h : x < 70368744177664) : wrap64 ((x : Int) * 65536) = (x : Int) * 65536 := by unfold wrap64; omega
theorem quo10 {t q : Nat} (h : q = t / 10) : (t : Int).tdiv 10 = (q : Int) := by rw [h]; simp
theorem rem10 {t r : Nat} (h : r = t % 10) : (t : Int).tmod 10 = (r : Int) := by rw [Int.tmod_eq_emod_of_nonneg (by omega)]; omega
theorem i64_join (p x : Nat) (hp : p < 140737488355328) (hx : x < 65536) : bits .or .i64 ((p : Int) * 65536) (x : Int) = ((p * 65536 + x : Nat) : Int) := by
  rw [bits_join .i64 63 (by decide) (fun n h0 h1 => by rw [IntKind.wrap_i64]; omega) 16 ((p : Int) * 65536) (x : Int) (by omega) (by omega) (by omega) (by omega) (by omega) (by omega)]
  omega

theorem split_at (xs : List Nat) (k : Nat) (h : k < xs.length) : xs = xs.take k ++ xs.getD k 0 :: xs.drop (k + 1) := by
  have e : xs.getD k 0 :: xs.drop (k + 1) = xs.drop k := by rw [List.drop_eq_getElem_cons h]; simp [List.getD, h]
  rw [e, List.take_append_drop]
theorem set_at (pre : List Nat) (x d : Nat) (post : List Nat) (rest : List Value) (k : Nat) (h : pre.length = k) : (dc (pre ++ x :: post) ++ rest).set k (.int .u16 (d : Int)) = dc (pre ++ d :: post) ++ rest := by
  subst h
  rw [List.set_append_left _ _ (by rw [dc_length]; simp), dc_set]
  rw [List.set_append_right _ _ (Nat.le_refl _), Nat.sub_self, List.set_cons_zero]

/-- Divided from the highest digit on: k digits are left. -/
def TenAt (w : World) (base g n : Nat) (post : List Value) (xs : List Nat) (v3 v4 : Value) (wr : World) : Prop :=
  ∃ (k r : Nat) (qs : List Nat), k ≤ n ∧ v4 = .int .i64 ((k : Int) - 1) ∧ v3 = .int .i64 (r : Int) ∧ r < 10 ∧ k + qs.length = n ∧ Dg qs ∧ nv (xs.drop k) = 10 * nv qs + r ∧
    Row wr g 45 (dc (xs.take k ++ qs) ++ post) ∧ Below base w wr

set_option maxHeartbeats 4000000 in
theorem tenth_any (A : Option Addr) (n c base : Nat) (xs : List Nat) (w : World) (h : Own w base A n c xs) (hn : n ≤ 1000000) (hb : base ≤ w.heap.size) :
    Calls Try.prog 47 #[.slice A n c] w fun e w' => e = .returned (.int .u8 ((nv xs % 10 : Nat) : Int)) ∧ (∃ ys, nv ys = nv xs / 10 ∧ Own w' base A n c ys) ∧ Below base w w' := by
  obtain ⟨T, hT⟩ : ∃ T, T = nv xs := ⟨_, rfl⟩
  rw [← hT]
  have HT := Lib.hid hT
  clear hT
  by_cases h0 : n = 0
  · subst h0
    have HO := Lib.hid h
    have HE : Hid (T = 0) := show _ = _ by rw [HT.out, List.eq_nil_of_length_eq_zero h.1]; rfl
    clear h
    go_enter Try.func47, Try.ntmps47
    go_wp2_with fail
    go_loopw [3, 4] (fun v3 v4 wr => v3 = .int .i64 0 ∧ v4 = .int .i64 (-1) ∧ wr = w) (fun _ _ _ => 0)
    case atStart => exact ⟨rfl, rfl, rfl⟩
    case round =>
      obtain ⟨rfl, rfl, rfl⟩ := hrel
      go_wp2_with fail
      go_ret
      exact ⟨by rw [HE.out]; rfl, ⟨xs, by rw [HE.out, ← HT.out, HE.out], HO.out⟩, Below.refl _ _⟩
  · obtain ⟨g, post, rfl, hg, hr⟩ := h.2.2.2.2 (by omega)
    have HG := Lib.hid hg
    have HL := Lib.hid h.1
    have HD := Lib.hid h.2.1
    have HC : Hid (n ≤ c ∧ c ≤ 9223372036854775807) := ⟨h.2.2.1, h.2.2.2.1⟩
    have HR := Lib.hid hr
    clear h hr hg h0
    go_enter Try.func47, Try.ntmps47
    go_wp2_with fail
    go_loopw [3, 4] (fun v3 v4 wr => TenAt w base g n post xs v3 v4 wr) (fun _ v _ => (intOf v + 1).toNat)
    case atStart =>
      refine ⟨n, 0, [], Nat.le_refl _, rfl, rfl, by omega, by simp, Dg.nil, ?_, ?_, Below.refl _ _⟩
      · rw [List.drop_eq_nil_of_le (by rw [HL.out]; exact Nat.le_refl _)]; rfl
      · rw [List.take_of_length_le (by rw [HL.out]; exact Nat.le_refl _), List.append_nil]; exact HR.out
    case round =>
      obtain ⟨i, l, qs, hi, rfl, rfl, hl, hq, dq, hv, R1, B1⟩ := hrel
      cases i with
      | zero =>
        have e0 : (((0 : Nat) : Int) - 1) = -1 := by decide
        rw [List.drop_zero, ← HT.out] at hv
        have HV := Lib.hid hv
        rw [List.take_zero, List.nil_append] at R1
        have HR1 := Lib.hid R1; have HB1 := Lib.hid B1; have HDQ := Lib.hid dq; have HQ := Lib.hid hq
        rw [e0]
        clear hv R1 B1 dq hq HR
        go_wp2_with fail
        go_ret
        refine ⟨?_, ⟨qs, by have := HV.out; omega, by have := HQ.out; omega, HDQ.out, HC.out.1, HC.out.2, fun _ => ⟨g, post, rfl, HG.out, HR1.out⟩⟩, HB1.out⟩
        have e : T % 10 = l := by have := HV.out; omega
        rw [e]
        first | rfl | exact ret_num (by rw [IntKind.wrap_u8]; omega)
      | succ k =>
        have e0 : (((k + 1 : Nat) : Int) - 1) = (k : Int) := by omega
        rw [e0]
        have hkn : k < n := by omega
        have d1 : decide ((0 : Int) ≤ (k : Int)) = true := by simp
        have k0 : (0 : Int) ≤ (k : Int) := by omega
        have kn : (k : Int) < (n : Int) := by omega
        have hkx : k < xs.length := by rw [HL.out]; exact hkn
        have hx := HD.out.get k
        have hdr := drop_nv xs k hkx
        have hrow : xs.take (k + 1) ++ qs = xs.take k ++ xs.getD k 0 :: qs := by rw [take_next xs k hkx]; simp
        rw [hrow] at R1
        have hlt : (xs.take k).length = k := by rw [List.length_take]; omega
        have x1 : wr.cell? ⟨g, k, none⟩ = some (.int .u16 ((xs.getD k 0 : Nat) : Int)) := by
          rw [R1.cell k, List.getElem?_append_left (by rw [dc_length]; simp; omega), dc_get _ k (by simp; omega)]
          congr 3
          simp [List.getD, hlt]
        have fl := R1.frozen k
        generalize xs.getD k 0 = x at *
        obtain ⟨t, ht⟩ : ∃ t, t = l * 65536 + x := ⟨_, rfl⟩
        obtain ⟨q, hq2⟩ : ∃ q, q = t / 10 := ⟨_, rfl⟩
        obtain ⟨r, hr2⟩ : ∃ r, r = t % 10 := ⟨_, rfl⟩
        have HS : Hid (nv (xs.drop k) = 10 * nv (q :: qs) + r) := show _ = _ by
          rw [hdr, nv_cons]
          exact tenth_step hv ht hq2 hr2
        have R2 := R1.set k (.int .u16 (q : Int))
        rw [set_at _ x q qs post k hlt] at R2
        have B2 := B1.setCell (p := ⟨g, k, none⟩) HG.out (.int .u16 (q : Int))
        have HQ2 : Hid (q < 65536) := show _ < _ by omega
        have HR2 : Hid (r < 10) := show _ < _ by omega
        have z1 := wr_up16 (x := l) (by omega)
        have z2 : bits .or .i64 ((l : Int) * 65536) (x : Int) = (t : Int) := by rw [i64_join l x (Nat.lt_trans hl (by decide)) hx, ht]
        have z3 := quo10 hq2
        have z4 := rem10 hr2
        have z5 := wr16 HQ2.out
        have z6 := wr64 (Nat.lt_trans HQ2.out (by decide))
        have HDQ := Lib.hid (Dg.cons HQ2.out dq)
        have HLQ : Hid (k + (q :: qs).length = n) := show _ = _ by clear z1 z2 z3 z4 z5 z6 ht hq2 hr2; rw [List.length_cons]; omega
        have HRR := Lib.hid R2; have HBB := Lib.hid B2
        have HKN := Lib.hid hkn
        clear R1 B1 R2 B2 hq dq hv hdr hrow hlt ht hq2 hr2 HR hi hl e0
        go_wp2_with fail
        go_roundw
        case rel => exact ⟨k, r, q :: qs, by have := HKN.out; omega, by first | rfl | exact ret_val (by omega), rfl, HR2.out, HLQ.out, HDQ.out, HS.out, HRR.out, HBB.out⟩
        case measure => simp [intOf]

end Go.Proofs.Ytcejbkmmiklhbaa
