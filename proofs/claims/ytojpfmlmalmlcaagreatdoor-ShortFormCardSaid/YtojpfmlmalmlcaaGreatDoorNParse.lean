/-
  Rows of digits that may be appended to and written; what tenfold does. No condition beyond what each contract says.
  What number a text tells (P9.2): pure. No condition beyond what each lemma asks.
  What big's Parse does. No condition beyond what each contract says.
-/
import Derived.Test.YtojpfmlmalmlcaaGreatDoorNUp
namespace Go.Proofs.YtojpfmlmalmlcaaGreatDoor.G
open Go.RowKit
/-- A row of the call's own, as a block; and back. -/
theorem own_row {w : World} {base n c : Nat} {A : Option Addr} {xs : List Nat} (h : w.ownsRow base 95 1 (.slice A n c) n (dc xs)) (h0 : 0 < n) :
    ∃ g post, A = some ⟨g, 0, none⟩ ∧ base ≤ g ∧ Row w g 95 (dc xs ++ post) ∧ ∀ (w' : World) (ys : List Nat), ys.length = n → Row w' g 95 (dc ys ++ post) → w'.ownsRow base 95 1 (.slice A n c) n (dc ys) := by
  rcases h.2 with ⟨_, e⟩ | ⟨g, cap, cur, e, hb, hg, hnc, hm, hs, ht⟩
  · omega
  · injection e with e1 e2 e3
    subst e1 e3
    have ht' : cur.toList.take n = dc xs := by simpa using ht
    have hp : dc xs ++ cur.toList.drop n = cur.toList := by rw [← ht', List.take_append_drop]
    have hl : xs.length = n := by have := h.1; rw [dc_length] at this; omega
    refine ⟨g, cur.toList.drop n, rfl, hb, ?_, fun w' ys hy hr => ⟨by rw [dc_length, hy, Nat.mul_one], .inr ⟨g, c, _, rfl, hb, hr, hnc, hm, ?_, ?_⟩⟩⟩
    · unfold Row
      rw [hp]
      exact hg
    · have h1 : (cur.toList.drop n).length = c - n := by rw [List.length_drop]; simp; omega
      simp [dc_length, hy]
      have : cur.size = c := by omega
      omega
    · simp [dc_length, hy]
/-- Behind i digits. -/
def TfAt (w : World) (base g n k : Nat) (post : List Value) (xs : List Nat) (v5 v12 : Value) (wr : World) : Prop :=
  ∃ (i cy : Nat) (zs : List Nat), i ≤ n ∧ v12 = .int .i64 (i : Int) ∧ v5 = .int .i64 (cy : Int) ∧ cy < 10 ∧ zs.length = i ∧ Dg zs ∧ nv zs + 65536 ^ i * cy = 10 * nv (xs.take i) + k ∧
    Row wr g 95 (dc (zs ++ xs.drop i) ++ post) ∧ Below base w wr
set_option maxRecDepth 100000 in
set_option maxHeartbeats 400000 in
theorem tenfold_any (A : Option Addr) (n c base : Nat) (xs : List Nat) (k : Nat) (w : World) (h : w.ownsRow base 95 1 (.slice A n c) n (dc xs)) (hx : Dg xs) (hn : n ≤ 100000) (hb : base ≤ w.heap.size) (hk : k < 10) :
    Calls Tryz.prog 100 #[.slice A n c, .int .u8 (k : Int)] w fun e w' => ∃ (ys : List Nat) (q : Nat), e = .returned (.int .u16 (q : Int)) ∧ q < 10 ∧ Dg ys ∧ nv ys + 65536 ^ n * q = 10 * nv xs + k ∧ ys.length = n ∧ w'.ownsRow base 95 1 (.slice A n c) n (dc ys) ∧ Below base w w' := by
  have hl : xs.length = n := by have := h.1; rw [dc_length] at this; omega
  have zk : wrap64 (k : Int) = (k : Int) := wr64 (by omega)
  by_cases h0 : n = 0
  · subst h0
    have HO := Lib.hid h
    obtain rfl : xs = [] := List.eq_nil_of_length_eq_zero hl
    have zq := wr16 (x := k) (by omega)
    have HK := Lib.hid hk
    clear h hk
    go_enter Tryz.func100, Tryz.ntmps100
    go_wp2_with fail
    go_loopw [5, 12] (fun v5 v12 wr => v5 = .int .i64 (k : Int) ∧ v12 = .int .i64 0 ∧ wr = w) (fun _ _ _ => 0)
    case atStart => exact ⟨by first | rfl | exact ret_val zk, rfl, rfl⟩
    case round =>
      obtain ⟨rfl, rfl, rfl⟩ := hrel
      go_wp2_with fail
      go_ret
      exact ⟨[], k, by first | rfl | exact ret_num zq, HK.out, Dg.nil, by simp [nv], rfl, HO.out, Below.refl _ _⟩
  · obtain ⟨g, post, rfl, hg, hr, hback⟩ := own_row h (by omega)
    have HG := Lib.hid hg; have HL := Lib.hid hl; have HD := Lib.hid hx; have HR := Lib.hid hr; have HB := Lib.hid hback; have HK := Lib.hid hk
    clear h hr hg h0 hback hl hx hk hb
    go_enter Tryz.func100, Tryz.ntmps100
    go_wp2_with fail
    go_loopw [5, 12] (fun v5 v12 wr => TfAt w base g n k post xs v5 v12 wr) (fun _ v _ => n - (intOf v).toNat)
    case atStart => exact ⟨0, k, [], by omega, rfl, by first | rfl | exact ret_val zk, HK.out, rfl, Dg.nil, by simp [nv], by simpa using HR.out, Below.refl _ _⟩
    case round =>
      clear HR
      obtain ⟨i, cy, zs, hi, rfl, rfl, hcy, hz, dz, hv, R1, B1⟩ := hrel
      by_cases hlt : i < n
      · have d1 := lt_t hlt
        have d1n := ltn_t hlt
        have i0 : (0 : Int) ≤ (i : Int) := by omega
        have iN : (i : Int) < (n : Int) := by omega
        have hix : i < xs.length := by rw [HL.out]; exact hlt
        have hx := HD.out.get i
        have htk := take_nv xs i hix
        have hdr : xs.drop i = xs.getD i 0 :: xs.drop (i + 1) := by rw [List.drop_eq_getElem_cons hix]; simp [List.getD, hix]
        rw [hdr] at R1
        have x1 : wr.cell? ⟨g, i, none⟩ = some (.int .u16 ((xs.getD i 0 : Nat) : Int)) := by
          rw [R1.cell i, List.getElem?_append_left (by rw [dc_length]; simp; omega), dc_get _ i (by simp; omega)]
          congr 3
          simp [List.getD, hz]
        have fl := R1.frozen i
        generalize xs.getD i 0 = x at *
        obtain ⟨y, hy⟩ : ∃ y, y = 10 * x := ⟨_, rfl⟩
        obtain ⟨v, hvv⟩ : ∃ v, v = cy + y := ⟨_, rfl⟩
        obtain ⟨d, hd⟩ : ∃ d, d = v % 65536 := ⟨_, rfl⟩
        obtain ⟨p, hp⟩ : ∃ p, p = v / 65536 := ⟨_, rfl⟩
        have hdb : d < 65536 := by omega
        have hpb : p < 10 := by omega
        have HS : Hid (nv (zs ++ [d]) + 65536 ^ (i + 1) * p = 10 * nv (xs.take (i + 1)) + k) := show _ = _ by
          rw [nv_snoc, hz, htk, Nat.pow_succ, hd, hp]
          exact ten_step hv (by omega)
        have R2 := R1.set i (.int .u16 (d : Int))
        rw [set_at _ x d _ post i hz] at R2
        have hrw : zs ++ d :: xs.drop (i + 1) = (zs ++ [d]) ++ xs.drop (i + 1) := by simp
        rw [hrw] at R2
        have B2 := B1.setCell (p := ⟨g, i, none⟩) HG.out (.int .u16 (d : Int))
        have HP := Lib.hid hpb
        have HDZ := Lib.hid (dz.append (Dg.one hdb))
        have HLZ : Hid ((zs ++ [d]).length = i + 1) := show _ = _ by rw [List.length_append, hz]; rfl
        have e1 : 10 * (x : Int) = (y : Int) := by omega
        have e2 : (cy : Int) + (y : Int) = (v : Int) := by omega
        have e3 : (v : Int) / 65536 = (p : Int) := by omega
        have z1 := wr64 (x := y) (by omega)
        have z2 := wr64 (x := v) (by omega)
        have z3 := wr64 (x := p) (by omega)
        have z4 : IntKind.u16.wrap (v : Int) = (d : Int) := by rw [IntKind.wrap_u16]; omega
        have z5 := wr64 (x := x) (by omega)
        have HRR := Lib.hid R2; have HBB := Lib.hid B2; have HI := Lib.hid hlt
        clear R1 B1 R2 B2 hv hz dz htk hdr hrw hix hy hvv hd hp hdb hpb hcy hi
        clear hx zk d1n
        go_wp2_with fail
        go_roundw
        case rel => exact ⟨i + 1, p, zs ++ [d], HI.out, by first | rfl | exact ret_val (by omega), by first | rfl | exact ret_val e3, HP.out, HLZ.out, HDZ.out, HS.out, HRR.out, HBB.out⟩
        case measure => simp [intOf]; have := HI.out; omega
      · obtain rfl : i = n := by omega
        have d1 := lt_f (Nat.le_refl i)
        have d1n := ltn_f (Nat.le_refl i)
        rw [List.take_of_length_le (by rw [HL.out]; exact Nat.le_refl _)] at hv
        rw [List.drop_eq_nil_of_le (by rw [HL.out]; exact Nat.le_refl _), List.append_nil] at R1
        have HO := Lib.hid (HB.out wr zs hz R1)
        have zq := wr16 (x := cy) (by omega)
        have HV := Lib.hid hv; have HBB := Lib.hid B1; have HC := Lib.hid hcy; have HDZ := Lib.hid dz; have HZ := Lib.hid hz
        clear hv R1 B1 hcy dz hz hi hlt
        go_wp2_with fail
        go_ret
        exact ⟨zs, cy, by first | rfl | exact ret_num zq, HC.out, HDZ.out, HV.out, HZ.out, HO.out, HBB.out⟩
end Go.Proofs.YtojpfmlmalmlcaaGreatDoor.G
namespace Go.Proofs.YtojpfmlmalmlcaaGreatDoor.G
/-- What Parse answers. -/
def pv (L : List UInt8) : Option Nat := if L = [] ∨ 1234 < L.length ∨ ((L.getD 0 0).toNat = 48 ∧ 1 < L.length) then none else (rd 0 L).bind fun x => if x < top then some x else none
theorem rd_lt (l : List UInt8) : ∀ v x, rd v l = some x → x < (v + 1) * 10 ^ l.length := by
  induction l with
  | nil => intro v x h; simp only [rd, Option.some.injEq] at h; simp; omega
  | cons c l ih =>
    intro v x h
    simp only [rd] at h
    split at h
    · cases h
    · next hc =>
      have h1 := ih _ x h
      rw [List.length_cons, Nat.pow_succ]
      refine Nat.lt_of_lt_of_le h1 ?_
      rw [Nat.mul_comm (10 ^ l.length) 10, ← Nat.mul_assoc]
      exact Nat.mul_le_mul_right _ (by omega)
theorem pow_room (k : Nat) : 10 ^ k ≤ 65536 ^ k := Nat.pow_le_pow_left (by omega) k
theorem rd_len {l : List UInt8} {x : Nat} (h : rd 0 l = some x) : (dg x).length ≤ l.length := by
  have h1 := rd_lt l 0 x h
  rw [Nat.zero_add, Nat.one_mul] at h1
  exact (dg_len x _).2 (Nat.lt_of_lt_of_le h1 (pow_room _))
theorem rd_take {L : List UInt8} {i x : Nat} (h : i < L.length) (hx : rd 0 (L.take i) = some x) : rd 0 (L.take (i + 1)) = if (L.getD i 0).toNat < 48 ∨ 57 < (L.getD i 0).toNat then none else some (x * 10 + ((L.getD i 0).toNat - 48)) := by
  have e : L.take (i + 1) = L.take i ++ [L.getD i 0] := by
    rw [List.take_add_one]
    simp [List.getD, h]
  rw [e, rd_append, hx]
  rfl
theorem rd_cut {L : List UInt8} {i : Nat} (h : rd 0 (L.take i) = none) : rd 0 L = none := by
  have e : L = L.take i ++ L.drop i := (List.take_append_drop i L).symm
  rw [e, rd_append, h]
  rfl
theorem pow_ten {a b : Nat} (h : a ≤ b) : 10 ^ a ≤ 10 ^ b := Nat.pow_le_pow_right (by omega) h
theorem rd_great {L : List UInt8} {x : Nat} (hl : 1234 < L.length) (h0 : (L.getD 0 0).toNat ≠ 48) (h : rd 0 L = some x) : top ≤ x := by
  cases L with
  | nil => simp at hl
  | cons c l =>
    simp only [rd] at h
    split at h
    · cases h
    · next hc =>
      have h1 := rd_ge l _ x h
      have h2 : (c.toNat ≠ 48) := h0
      have h3 : 1 ≤ 0 * 10 + (c.toNat - 48) := by omega
      have hl2 : 1234 ≤ l.length := by rw [List.length_cons] at hl; omega
      have h4 := pow_ten hl2
      refine Nat.le_trans top_ten (Nat.le_trans h4 (Nat.le_trans ?_ h1))
      exact Nat.le_mul_of_pos_left _ h3
/-- With 1300 in place of 1234 it is the same. -/
theorem pv_more (L : List UInt8) : pv L = if L = [] ∨ 1300 < L.length ∨ ((L.getD 0 0).toNat = 48 ∧ 1 < L.length) then none else (rd 0 L).bind fun x => if x < top then some x else none := by
  unfold pv
  by_cases h1 : L = [] ∨ 1300 < L.length ∨ ((L.getD 0 0).toNat = 48 ∧ 1 < L.length)
  · rw [if_pos h1, if_pos]
    rcases h1 with h | h | h
    · exact .inl h
    · exact .inr (.inl (by omega))
    · exact .inr (.inr h)
  · rw [if_neg h1]
    by_cases h2 : 1234 < L.length
    · rw [if_pos (.inr (.inl h2))]
      cases hr : rd 0 L with
      | none => rfl
      | some x =>
        have h3 := rd_great h2 (fun h => h1 (.inr (.inr ⟨h, by omega⟩))) hr
        show none = if x < top then some x else none
        rw [if_neg (by omega)]
    · rw [if_neg]
      intro h
      rcases h with h | h | h
      · exact h1 (.inl h)
      · exact h2 h
      · exact h1 (.inr (.inr h))
theorem dec_some (a : Nat) : dec a ≠ [] := by
  by_cases h : a = 0
  · subst h; decide
  · rw [dec_pos h]; exact fun h2 => h (ds_nil h2)
theorem dec_front {a : Nat} (h : a ≠ 0) : ((dec a).getD 0 0).toNat ≠ 48 := by
  rw [dec_pos h]
  have h1 := ds_front a h
  intro h2
  exact h1 (UInt8.toNat_inj.1 h2)
theorem dec_len {a : Nat} (h : a < top) : (dec a).length ≤ 1234 := by
  by_cases h0 : a = 0
  · subst h0; decide
  · rcases Nat.lt_or_ge 1234 (dec a).length with h1 | h1
    · exact absurd h (Nat.not_lt.2 (rd_great h1 (dec_front h0) (rd_dec a)))
    · exact h1
theorem pv_dec {a : Nat} (h : a < top) : pv (dec a) = some a := by
  unfold pv
  rw [if_neg, rd_dec]
  · show (if a < top then some a else none) = some a
    rw [if_pos h]
  · intro h1
    rcases h1 with h1 | h1 | ⟨h1, h2⟩
    · exact dec_some a h1
    · exact absurd (dec_len h) (by omega)
    · by_cases h0 : a = 0
      · subst h0
        rw [dec_zero] at h2
        simp at h2
      · exact dec_front h0 h1
/-- The digits of ten times a number and one more, where there is no carry. -/
theorem ten_low {x v n : Nat} {ys : List Nat} (hy : Dg ys) (hl : ys.length = n) (hx : (dg x).length = n) (hv : nv ys = v) (hle : x ≤ v) : dg v = ys := by
  rw [← hv]
  refine dg_ge hy ?_
  rcases Nat.eq_zero_or_pos ys.length with h | h
  · exact .inl h
  · right
    rw [hv]
    exact Nat.le_trans (nv_dg_ge (by omega)) hle
theorem ten_high {v n q : Nat} {ys : List Nat} (hy : Dg ys) (hl : ys.length = n) (hq : q < 65536) (h0 : q ≠ 0) (hv : nv ys + 65536 ^ n * q = v) : dg v = ys ++ [q] := by
  have e : nv (ys ++ [q]) = v := by rw [nv_snoc, hl]; exact hv
  rw [← e]
  refine dg_nv (hy.append (Dg.one hq)) (.inr ?_)
  simpa [List.getD] using h0
end Go.Proofs.YtojpfmlmalmlcaaGreatDoor.G
namespace Go.Proofs.YtojpfmlmalmlcaaGreatDoor.G
open Go.RowKit
theorem at_txt (l : List UInt8) (kd : IntKind) (i : Int) (j : Nat) (hi : i = (j : Int)) (hj : j < l.length) (w : World) :
    (Instr.index 9 (.string ⟨l.toArray⟩) (.int kd i)).run Tryz.prog w = .ok (.int .u8 ((l.getD j 0).toNat : Int)) w := by
  subst hi
  rw [run_index_string w _ _ _ _ Tryz.underlying9, dif_pos ⟨by omega, by simp [ByteArray.size]; omega⟩]
  have e : (⟨l.toArray⟩ : ByteArray)[((j : Int)).toNat]'(by simp [ByteArray.size]; omega) = l.getD j 0 := by
    show l.toArray[((j : Int)).toNat]'(by simp; omega) = l.getD j 0
    simp [List.getD, hj]
  rw [e]
/-- What Parse answers, in memory. -/
def ParR (L : List UInt8) (w : World) (e : Ending) (w' : World) : Prop :=
  Below w.heap.size w w' ∧ ((∃ x R k, pv L = some x ∧ e = .returned (.tuple #[.slice R (dg x).length k, .bool true]) ∧ Digs w' R (dg x).length (dg x)) ∨ (pv L = none ∧ e = .returned (.tuple #[.slice none 0 0, .bool false])))
/-- Behind i characters. -/
def PrsI (w : World) (L : List UInt8) (v4 v26 : Value) (wr : World) : Prop :=
  ∃ (i x l k : Nat) (R : Option Addr), i ≤ L.length ∧ v26 = .int .i64 (i : Int) ∧ v4 = .slice R l k ∧ rd 0 (L.take i) = some x ∧ wr.ownsRow w.heap.size 95 1 (.slice R l k) l (dc (dg x)) ∧ Below w.heap.size w wr
theorem up_one {i e : Nat} (h : i < e) (he : e ≤ 1000000) : wrap64 ((i : Int) + 1) = (i : Int) + 1 := by unfold wrap64; omega
theorem meas_one {i e : Nat} (h : i < e) : e - ((i : Int) + 1).toNat < e - ((i : Int)).toNat := by omega
theorem par_some {R : Option Addr} {l k x : Nat} {b : Bool} (h : (dg x).length = l) : Ending.returned (.tuple #[.slice R l k, .bool b]) = .returned (.tuple #[.slice R (dg x).length k, .bool b]) := by rw [h]
theorem ten_more (x d : Nat) : 10 * x + d = x * 10 + d := by omega
set_option maxHeartbeats 4000000 in
theorem parse_core (L : List UInt8) (w : World) (f : Bool) (hne : L ≠ []) (hl : L.length ≤ 1234) (hf : (((L.getD 0 0).toNat : Int) == 48) = f) (hg : f = true → decide ((1 : Int) < (L.length : Int)) = false) :
    Calls Tryz.prog 69 #[.string ⟨L.toArray⟩] w fun e w' => ParR L w e w' := by
  have HPV : Hid (pv L = (rd 0 L).bind fun x => if x < top then some x else none) := show _ = _ by
    unfold pv
    rw [if_neg]
    intro h
    rcases h with h | h | ⟨h1, h2⟩
    · exact hne h
    · omega
    · have h3 : f = true := by rw [← hf, h1]; rfl
      have h4 := hg h3
      simp at h4
      omega
  have HNO : Hid (∀ i, rd 0 (L.take i) = none → pv L = none) := fun i h => by rw [HPV.out, rd_cut h]; rfl
  have dE : (L == []) = false := by simpa using hne
  have d0 : decide ((1234 : Int) < (L.length : Int)) = false := by simp; omega
  have hpos : 0 < L.length := List.length_pos_iff.2 hne
  have x0 := at_txt L .i64 0 0 rfl hpos
  obtain ⟨i0', hi0, hz0, hz1, hz2⟩ := info_parts info_u16
  have HZ0 := Lib.hid hz0; have HI0 := Lib.hid hi0; have HZ1 := Lib.hid hz1; have HZ2 := Lib.hid hz2
  have HLN := Lib.hid hl
  obtain ⟨n, hn⟩ : ∃ n, n = L.length := ⟨_, rfl⟩
  generalize (L.getD 0 0).toNat = c0 at *
  clear hz0 hi0 hz1 hz2 hne hl hpos
  cases f
  all_goals
    first | have hg' := hg rfl | skip
    clear hg
    go_enter Tryz.func69, Tryz.ntmps69
    go_wp2_with fail
    try clear hg'
    clear x0 hf d0 dE
    go_loopw [4, 26] (fun v4 v26 wr => PrsI w L v4 v26 wr) (fun _ v _ => L.length - (intOf v).toNat)
    case atStart => exact ⟨0, 0, 0, 0, none, by omega, rfl, rfl, by rw [List.take_zero]; rfl, by rw [dg_zero]; exact World.ownsRow_nil _ _ _ _, Below.refl _ _⟩
    case round =>
      obtain ⟨i, x, l, k, R, hi, rfl, rfl, hr, hO, hB⟩ := hrel
      have HO := Lib.hid hO; have HB := Lib.hid hB; have HR := Lib.hid hr
      have hlx : (dg x).length = l := by have := hO.1; rw [dc_length] at this; omega
      clear hO hB
      by_cases hlt : i < L.length
      · have d1 := lt_t hlt
        have d1n := ltn_t hlt
        have i0 : (0 : Int) ≤ (i : Int) := by omega
        have x1 := at_txt L .i64 (i : Int) i rfl hlt
        have HIW := Lib.hid (up_one hlt (by have := HLN.out; omega))
        have HT := Lib.hid (rd_take hlt hr)
        have hll : l ≤ 1234 := by have := rd_len hr; rw [List.length_take] at this; have := HLN.out; omega
        clear hr
        generalize (L.getD i 0).toNat = c at *
        by_cases c1 : c < 48
        · have d2 : decide ((c : Int) < 48) = true := by simp; omega
          have HE : Hid (pv L = none) := HNO.out (i + 1) (by rw [HT.out, if_pos (.inl c1)])
          clear c1 HT hll hlx
          go_wp2_with fail
          go_ret2
          exact ⟨HB.out, .inr ⟨HE.out, rfl⟩⟩
        · have d2 : decide ((c : Int) < 48) = false := by simp; omega
          by_cases c2 : 57 < c
          · have d3 : decide ((57 : Int) < (c : Int)) = true := by simp; omega
            have HE : Hid (pv L = none) := HNO.out (i + 1) (by rw [HT.out, if_pos (.inr c2)])
            clear c1 c2 HT hll hlx
            go_wp2_with fail
            go_ret2
            exact ⟨HB.out, .inr ⟨HE.out, rfl⟩⟩
          · have d3 : decide ((57 : Int) < (c : Int)) = false := by simp; omega
            obtain ⟨d, hd⟩ : ∃ d, d = c - 48 := ⟨_, rfl⟩
            have HN : Hid (rd 0 (L.take (i + 1)) = some (10 * x + d)) := show _ = _ by rw [HT.out, if_neg (by omega), hd, ten_more]
            have y1 : IntKind.u8.wrap ((c : Int) - 48) = (d : Int) := by rw [IntKind.wrap_u8]; omega
            have y2 : (c : Int) - 48 = (d : Int) := by omega
            have y3 := wr8 (x := d) (by omega)
            have cT := Lib.hid (tenfold_any R l k w.heap.size (dg x) d wr HO.out (dg_dg x) (by omega) HB.out.size (by omega))
            rw [nv_dg] at cT
            have HI := Lib.hid hlt; have HLX := Lib.hid hlx; have HLL := Lib.hid hll
            clear c1 c2 HT hd hll hlx hlt hi
            go_wp2_with fail
            refine cT.out.mono ?_
            rintro e w1 ⟨ys, q, rfl, hq, dy, hv, hyl, O1, B1⟩
            have HB1 : Hid (Below w.heap.size w w1) := HB.out.trans B1
            by_cases hq0 : q = 0
            · have d4 : ((q : Int) != 0) = false := bne0_f hq0
              have HE : Hid (dg (10 * x + d) = ys) := ten_low dy hyl HLX.out (by subst hq0; simpa using hv) (by omega)
              have HO1 := Lib.hid O1
              clear hq hq0 hv dy hyl O1 B1 cT HB HO
              go_wp2_with fail
              go_roundw
              case rel =>
                rw [HIW.out]
                exact ⟨i + 1, 10 * x + d, l, k, R, HI.out, by first | rfl | exact ret_val (by omega), rfl, HN.out, by rw [HE.out]; exact HO1.out, HB1.out⟩
              case measure =>
                rw [HIW.out]
                exact meas_one HI.out
            · have d4 : ((q : Int) != 0) = true := bne0_t hq0
              have HE : Hid (dg (10 * x + d) = ys ++ [q]) := ten_high dy hyl (by omega) hq0 hv
              have HO1 := Lib.hid O1
              have hll := HLL.out
              have l2 : l + 1 ≤ maxLen := by simp only [maxLen]; omega
              have l3 : (l + 1) * 2 ≤ 140737488355328 := by omega
              have hgn := heap_alloc_new w1 (.cells #[.int .u16 (q : Int)] 95)
              have HOA : Hid ((w1.alloc (.cells #[.int .u16 (q : Int)] 95)).ownsRow w.heap.size 95 1 (.slice R l k) l (dc ys)) := O1.alloc _
              have BA : Below w.heap.size w (w1.alloc (.cells #[.int .u16 (q : Int)] 95)) := HB1.out.alloc HB1.out.size _
              have HSr : Hid (0 < 1 → ∃ ad, some (⟨w1.heap.size, 0, none⟩ : Addr) = some ad ∧ ∀ j u, ([.int .u16 (q : Int)] : List Value)[j]? = some u → (w1.alloc (.cells #[.int .u16 (q : Int)] 95)).cell? (ad.add j) = some u) := fun _ =>
                ⟨_, rfl, World.news_of_block (cs := #[.int .u16 (q : Int)]) (t := 95) (fr := (0, 0)) hgn⟩
              have hsz : w.heap.size ≤ (w1.alloc (.cells #[.int .u16 (q : Int)] 95)).heap.size := Nat.le_trans HB1.out.size (by simp)
              have l4 : ∀ u ∈ ([.int .u16 (q : Int)] : List Value), u.oneCell' = true := by simp [Value.oneCell']
              have HBA := Lib.hid BA
              clear hgn BA hq hq0 hv dy hyl O1 B1 cT HB HO hll HO1 HB1
              go_wp2_with (first | (at_builtin; refine wpList_append_held _ rfl (.tmp 47) (.tmp 49) 58 rfl w.heap.size 95 i0' _ 2 Tryz.underlying58 HI0.out HZ0.out HZ1.out HZ2.out rfl _ l _ rfl HOA.out (some ⟨w1.heap.size, 0, none⟩) 1 1 [.int .u16 (q : Int)] rfl rfl HSr.out l4 l2 l3 hsz ?_))
              intro A5 c5 w9 ho9 hg9 _
              have B9 : Below w.heap.size w w9 := HBA.out.grown hg9 HBA.out.size (fun k hk => (HOA.out.lt k hk).1)
              have HO9 : Hid (w9.ownsRow w.heap.size 95 1 (.slice A5 (l + 1) c5) (l + 1) (dc (ys ++ [q]))) := by
                rw [dc_append]
                exact ho9.out
              have HB9 := Lib.hid B9
              clear ho9 hg9 HOA HBA HSr hsz l4 l2 l3 B9
              go_wp2_with fail
              go_roundw
              case rel =>
                rw [HIW.out]
                exact ⟨i + 1, 10 * x + d, l + 1, c5, A5, HI.out, by first | rfl | exact ret_val (by omega), rfl, HN.out, by rw [HE.out]; exact HO9.out, HB9.out⟩
              case measure =>
                rw [HIW.out]
                exact meas_one HI.out
      · obtain rfl : i = L.length := by omega
        have d1 := lt_f (Nat.le_refl L.length)
        have d1n := ltn_f (Nat.le_refl L.length)
        rw [List.take_length] at hr
        have hD := own_digs HO.out (dg_dg x)
        have hll : l ≤ 1234 := by have := rd_len hr; have := HLN.out; omega
        have cI := Lib.hid (is_val R l k x wr hD (by omega))
        have HD := Lib.hid hD
        by_cases ht : x < top
        · rw [decide_eq_true ht] at cI
          have HE : Hid (pv L = some x) := show _ = _ by rw [HPV.out, hr]; show (if x < top then some x else none) = _; rw [if_pos ht]
          have HLX := Lib.hid hlx
          clear hr hD hll ht hlx hlt hi
          go_wp2_with fail
          refine cI.out.mono ?_
          rintro e v1 ⟨rfl, hw⟩; subst v1
          go_wp2_with fail
          go_ret2
          exact ⟨HB.out, .inl ⟨x, R, k, HE.out, par_some HLX.out, by rw [HLX.out]; exact HD.out⟩⟩
        · rw [decide_eq_false ht] at cI
          have HE : Hid (pv L = none) := show _ = _ by rw [HPV.out, hr]; show (if x < top then some x else none) = _; rw [if_neg ht]
          clear hr hD hll ht hlx hlt hi
          go_wp2_with fail
          refine cI.out.mono ?_
          rintro e v1 ⟨rfl, hw⟩; subst v1
          go_wp2_with fail
          go_ret2
          exact ⟨HB.out, .inr ⟨HE.out, rfl⟩⟩
set_option maxHeartbeats 2000000 in
theorem parse_any (L : List UInt8) (hl : L.length ≤ 1000000) (w : World) :
    Calls Tryz.prog 69 #[.string ⟨L.toArray⟩] w fun e w' => ParR L w e w' := by
  by_cases h0 : L = []
  · have HE : Hid (pv L = none) := show _ = _ by unfold pv; rw [if_pos (.inl h0)]
    have dE : (L == []) = true := by simpa using h0
    clear h0
    go_enter Tryz.func69, Tryz.ntmps69
    go_wp2_with fail
    go_ret2
    exact ⟨Below.refl _ _, .inr ⟨HE.out, rfl⟩⟩
  · have dE : (L == []) = false := by simpa using h0
    by_cases h1 : 1234 < L.length
    · have HE : Hid (pv L = none) := show _ = _ by unfold pv; rw [if_pos (.inr (.inl h1))]
      have d0 : decide ((1234 : Int) < (L.length : Int)) = true := by simp; omega
      clear h0 h1
      go_enter Tryz.func69, Tryz.ntmps69
      go_wp2_with fail
      go_ret2
      exact ⟨Below.refl _ _, .inr ⟨HE.out, rfl⟩⟩
    · by_cases h2 : (L.getD 0 0).toNat = 48 ∧ 1 < L.length
      · have HE : Hid (pv L = none) := show _ = _ by unfold pv; rw [if_pos (.inr (.inr h2))]
        have d0 : decide ((1234 : Int) < (L.length : Int)) = false := by simp; omega
        have d1 : decide ((1 : Int) < (L.length : Int)) = true := by simp; omega
        have d2 : (((L.getD 0 0).toNat : Int) == 48) = true := by rw [h2.1]; rfl
        have x0 := at_txt L .i64 0 0 rfl (List.length_pos_iff.2 h0)
        generalize (L.getD 0 0).toNat = c0 at *
        clear h0 h1 h2
        go_enter Tryz.func69, Tryz.ntmps69
        go_wp2_with fail
        go_ret2
        exact ⟨Below.refl _ _, .inr ⟨HE.out, rfl⟩⟩
      · refine parse_core L w _ h0 (by omega) rfl (fun h => ?_)
        have h3 : (L.getD 0 0).toNat = 48 := by
          have := of_decide_eq_true h
          omega
        simp only [decide_eq_false_iff_not]
        intro h4
        exact h2 ⟨h3, by omega⟩
theorem parse_some {L : List UInt8} {x : Nat} (h : pv L = some x) (hl : L.length ≤ 1000000) (w : World) :
    Calls Tryz.prog 69 #[.string ⟨L.toArray⟩] w fun e w' => ∃ R k, e = .returned (.tuple #[.slice R (dg x).length k, .bool true]) ∧ Digs w' R (dg x).length (dg x) ∧ Below w.heap.size w w' := by
  refine (parse_any L hl w).mono ?_
  rintro e w' ⟨B, ⟨y, R, k, hy, rfl, D⟩ | ⟨hn, _⟩⟩
  · obtain rfl : x = y := Option.some.inj (h.symm.trans hy)
    exact ⟨R, k, rfl, D, B⟩
  · rw [h] at hn; cases hn
theorem parse_none {L : List UInt8} (h : pv L = none) (hl : L.length ≤ 1000000) (w : World) :
    Calls Tryz.prog 69 #[.string ⟨L.toArray⟩] w fun e w' => e = .returned (.tuple #[.slice none 0 0, .bool false]) ∧ Below w.heap.size w w' := by
  refine (parse_any L hl w).mono ?_
  rintro e w' ⟨B, ⟨y, R, k, hy, rfl, D⟩ | ⟨_, rfl⟩⟩
  · rw [h] at hy; cases hy
  · exact ⟨rfl, B⟩
end Go.Proofs.YtojpfmlmalmlcaaGreatDoor.G
