/-
  Numbers in digits of 10^8, the lowest first; the call's own rows of them, and of bytes. No condition beyond what each lemma asks.
  What the document's times does: a number in digits of 10^8 times a small one, in place. No condition beyond what the contract says.
  What Exact's digits tell, the noughts at either end left out: pure. No condition beyond what each lemma asks.
  Decimals so great or so small that the nearest pattern is known; an exponent brought within bounds: pure. No condition beyond what each lemma asks.
  What the document's CmpDec answers. For all arguments; no condition.
-/
import Derived.Test.YtojpfmlmalmlcaaGreatDoorDecMath
import Derived.Test.YtojpfmlmalmlcaaGreatDoorNMem
namespace Go.Proofs.YtojpfmlmalmlcaaGreatDoor
open Go.RowKit
/-- Cells of uint64. -/
def uc (xs : List Nat) : List Value := xs.map fun x : Nat => Value.int .u64 (x : Int)
theorem uc_length (xs : List Nat) : (uc xs).length = xs.length := by simp [uc]
theorem uc_append (a b : List Nat) : uc (a ++ b) = uc a ++ uc b := by simp [uc]
theorem uc_get (xs : List Nat) (i : Nat) (h : i < xs.length) : (uc xs)[i]? = some (.int .u64 ((xs.getD i 0 : Nat) : Int)) := by
  simp [uc, List.getD, h]
theorem uc_one (xs : List Nat) : ∀ u ∈ uc xs, u.oneCell' = true := by
  intro u hu
  obtain ⟨b, _, rfl⟩ := List.mem_map.1 hu
  rfl
theorem uc_take (xs : List Nat) (i : Nat) : uc (xs.take i) = (uc xs).take i := by simp [uc]
/-- The number that a row of digits of 10^8 is. -/
def lv : List Nat → Nat
  | [] => 0
  | x :: l => x + 100000000 * lv l
def Lm (xs : List Nat) : Prop := ∀ x ∈ xs, x < 100000000
theorem lv_snoc (xs : List Nat) (q : Nat) : lv (xs ++ [q]) = lv xs + 100000000 ^ xs.length * q := by
  induction xs with
  | nil => simp [lv]
  | cons x l ih => simp only [List.cons_append, lv, ih, List.length_cons, Nat.pow_succ]; grind
theorem Lm.nil : Lm [] := fun x hx => by cases hx
theorem Lm.one {x : Nat} (h : x < 100000000) : Lm [x] := fun y hy => by
  have : y = x := by simpa using hy
  omega
theorem Lm.append {a b : List Nat} (h : Lm a) (k : Lm b) : Lm (a ++ b) := fun x hx => by
  rcases List.mem_append.1 hx with h1 | h1
  · exact h x h1
  · exact k x h1
theorem Lm.take {a : List Nat} (h : Lm a) (i : Nat) : Lm (a.take i) := fun x hx => h x (List.mem_of_mem_take hx)
theorem Lm.get {a : List Nat} (h : Lm a) (i : Nat) : a.getD i 0 < 100000000 := by
  by_cases hi : i < a.length
  · have : a.getD i 0 = a[i] := by simp [List.getD, hi]
    rw [this]
    exact h _ (List.getElem_mem hi)
  · have : a.getD i 0 = 0 := by simp [List.getD, hi]
    omega
theorem lv_take (xs : List Nat) (i : Nat) (h : i < xs.length) : lv (xs.take (i + 1)) = lv (xs.take i) + 100000000 ^ i * xs.getD i 0 := by
  have e : xs.take (i + 1) = xs.take i ++ [xs.getD i 0] := by
    rw [List.take_add_one]
    simp [List.getD, h]
  rw [e, lv_snoc, List.length_take, Nat.min_eq_left (by omega)]
/-- One digit's step of a product. -/
theorem by_step {P p cy t x v by_ : Nat} (h : p + P * cy = t * by_) (hv : v = cy + x * by_) : p + P * (v % 100000000) + P * 100000000 * (v / 100000000) = (t + P * x) * by_ := by
  have e : v % 100000000 + 100000000 * (v / 100000000) = v := by omega
  calc p + P * (v % 100000000) + P * 100000000 * (v / 100000000) = p + P * (v % 100000000 + 100000000 * (v / 100000000)) := by grind
    _ = p + P * v := by rw [e]
    _ = p + P * cy + P * (x * by_) := by rw [hv, Nat.mul_add, Nat.add_assoc]
    _ = (t + P * x) * by_ := by rw [h]; grind
theorem wr12 {x : Nat} (h : x < 4611686018427387904) : wrap64 (x : Int) = (x : Int) := by unfold wrap64; omega
theorem ur12 {x : Nat} (h : x < 18446744073709551616) : IntKind.u64.wrap (x : Int) = (x : Int) := by rw [IntKind.wrap_u64]; omega
theorem lt_t12 {x y : Nat} (h : x < y) : decide ((x : Int) < (y : Int)) = true := by simp; omega
theorem lt_f12 {x y : Nat} (h : y ≤ x) : decide ((x : Int) < (y : Int)) = false := by simp; omega
theorem ltn_t12 {x y : Nat} (h : x < y) : decide (x < y) = true := by simp; omega
theorem ltn_f12 {x y : Nat} (h : y ≤ x) : decide (x < y) = false := by simp; omega
theorem info_u64 : (Tryz.prog.info? 22).map (fun i => (i.zero, i.size, i.bytes)) = some (some (.int .u64 0), 1, 8) := by kernel_rfl
theorem info_u8' : (Tryz.prog.info? 5).map (fun i => (i.zero, i.size, i.bytes)) = some (some (.int .u8 0), 1, 1) := by kernel_rfl
theorem info_of {o : Option TypeInfo} {v : Value} {k b : Nat} (h : o.map (fun i => (i.zero, i.size, i.bytes)) = some (some v, k, b)) : ∃ i, o = some i ∧ i.zero = some v ∧ i.size = k ∧ i.bytes = b := by
  obtain ⟨i, hi, he⟩ := Option.map_eq_some_iff.1 h
  simp only [Prod.mk.injEq] at he
  exact ⟨i, hi, he.1, he.2.1, he.2.2⟩
section
variable {w : World} {base n c : Nat} {e : TypeId} {A : Option Addr} {L : List Value}
/-- A row of the call's own, as a block, and back. -/
theorem own_back (h : w.ownsRow base e 1 (.slice A n c) n L) (h0 : 0 < n) :
    ∃ g post, A = some ⟨g, 0, none⟩ ∧ base ≤ g ∧ Row w g e (L ++ post) ∧ L.length = n ∧ ∀ (w' : World) (M : List Value), M.length = n → Row w' g e (M ++ post) → w'.ownsRow base e 1 (.slice A n c) n M := by
  rcases h.2 with ⟨_, e⟩ | ⟨g, cap, cur, e, hb, hg, hnc, hm, hs, ht⟩
  · omega
  · injection e with e1 e2 e3
    subst e1 e3
    have ht' : cur.toList.take n = L := by simpa using ht
    have hp : L ++ cur.toList.drop n = cur.toList := by rw [← ht', List.take_append_drop]
    have hl : L.length = n := by have := h.1; omega
    refine ⟨g, cur.toList.drop n, rfl, hb, ?_, hl, fun w' M hy hr => ⟨by rw [hy, Nat.mul_one], .inr ⟨g, c, _, rfl, hb, hr, hnc, hm, ?_, ?_⟩⟩⟩
    · unfold Row
      rw [hp]
      exact hg
    · have h1 : (cur.toList.drop n).length = c - n := by rw [List.length_drop]; simp; omega
      simp [hy]
      have : cur.size = c := by omega
      omega
    · simp [hy]
theorem own_caps (h : w.ownsRow base e 1 (.slice A n c) n L) : n ≤ c ∧ c ≤ maxLen := by
  rcases h.2 with ⟨e, _⟩ | ⟨g, cap, cur, e, hb, hg, hnc, hm, hs, ht⟩
  · injection e with e1 e2 e3
    subst e2 e3
    exact ⟨Nat.le_refl _, Nat.zero_le _⟩
  · injection e with e1 e2 e3
    subst e3
    exact ⟨hnc, hm⟩
/-- Its front. -/
theorem own_cut (h : w.ownsRow base e 1 (.slice A n c) n L) (k : Nat) (h0 : 0 < n) (hk : k ≤ n) : w.ownsRow base e 1 (.slice A k c) k (L.take k) := by
  have hl := h.1
  rcases h.2 with ⟨_, e⟩ | ⟨g, cap, cur, e, hb, hg, hnc, hm, hs, ht⟩
  · omega
  · injection e with e1 e2 e3
    subst e1 e3
    refine ⟨by rw [List.length_take]; omega, .inr ⟨g, c, cur, rfl, hb, hg, Nat.le_trans hk hnc, hm, hs, ?_⟩⟩
    have ht' : cur.toList.take n = L := by simpa using ht
    rw [← ht', List.take_take]
    simp [Nat.min_eq_left hk]
/-- A new block is a row of the call's own. -/
theorem own_new (w : World) (e : TypeId) (L : List Value) (hb : base ≤ w.heap.size) (hm : L.length ≤ maxLen) : (w.alloc (.cells L.toArray e)).ownsRow base e 1 (.slice (some ⟨w.heap.size, 0, none⟩) L.length L.length) L.length L :=
  ⟨by rw [Nat.mul_one], .inr ⟨w.heap.size, L.length, L.toArray, rfl, hb, heap_alloc_new _ _, Nat.le_refl _, hm, by simp, by simp⟩⟩
end
end Go.Proofs.YtojpfmlmalmlcaaGreatDoor

namespace Go.Proofs.YtojpfmlmalmlcaaGreatDoor
open Go.RowKit
/-- Behind i digits. -/
def TmAt (w : World) (base g n k : Nat) (post : List Value) (xs : List Nat) (v5 v6 : Value) (wr : World) : Prop :=
  ∃ (i cy : Nat) (zs : List Nat), i ≤ n ∧ v6 = .int .i64 (i : Int) ∧ v5 = .int .u64 (cy : Int) ∧ cy < k ∧ zs.length = i ∧ Lm zs ∧ lv zs + 100000000 ^ i * cy = lv (xs.take i) * k ∧
    Row wr g 22 (uc (zs ++ xs.drop i) ++ post) ∧ Below base w wr
theorem uc_set (zs : List Nat) (x d : Nat) (r : List Nat) (post : List Value) (i : Nat) (h : zs.length = i) : (uc (zs ++ x :: r) ++ post).set i (.int .u64 (d : Int)) = uc (zs ++ d :: r) ++ post := by
  subst h
  simp [uc, List.map_append, List.append_assoc]
theorem meas12 {i n : Nat} (h : i < n) : n - (intOf (.int .i64 ((i + 1 : Nat) : Int))).toNat < n - (intOf (.int .i64 (i : Int))).toNat := by simp [intOf]; omega
set_option maxHeartbeats 1000000 in
theorem times_any (A : Option Addr) (n c base : Nat) (xs : List Nat) (k : Nat) (w : World) (h : w.ownsRow base 22 1 (.slice A n c) n (uc xs)) (hx : Lm xs) (hn : n ≤ 100000) (hb : base ≤ w.heap.size) (hk0 : 0 < k) (hk : k ≤ 10000000) (h0 : 0 < n) :
    Calls Tryz.prog 47 #[.slice A n c, .int .u64 (k : Int)] w fun e w' => ∃ (A' : Option Addr) (n' c' : Nat) (ys : List Nat), e = .returned (.slice A' n' c') ∧ n ≤ n' ∧ n' ≤ n + 1 ∧ Lm ys ∧ lv ys = lv xs * k ∧ w'.ownsRow base 22 1 (.slice A' n' c') n' (uc ys) ∧ Below base w w' := by
  obtain ⟨i0, hi0, hz0, hz1, hz2⟩ := info_of info_u64
  have HZ0 := Lib.hid hz0; have HI0 := Lib.hid hi0; have H1 := Lib.hid hz1; have H2 := Lib.hid hz2
  clear hz0 hi0 hz1 hz2
  obtain ⟨g, post, rfl, hg, hr, hl0, hback⟩ := own_back h h0
  have hl : xs.length = n := by rw [uc_length] at hl0; exact hl0
  have HG := Lib.hid hg; have HL := Lib.hid hl; have HD := Lib.hid hx; have HR := Lib.hid hr; have HB := Lib.hid hback; have HK := Lib.hid hk; have HK0 := Lib.hid hk0; have HBW := Lib.hid hb; have HN := Lib.hid hn
  clear h hr hg h0 hback hl hl0 hx hk hk0 hb hn
  go_enter Tryz.func47, Tryz.ntmps47
  go_wp2_with fail
  go_loopw [5, 6] (fun v5 v6 wr => TmAt w base g n k post xs v5 v6 wr) (fun _ v _ => n - (intOf v).toNat)
  case atStart => exact ⟨0, 0, [], by omega, rfl, rfl, HK0.out, rfl, Lm.nil, by simp [lv], by simpa using HR.out, Below.refl _ _⟩
  case round =>
    clear HR
    obtain ⟨i, cy, zs, hi, rfl, rfl, hcy, hz, dz, hv, R1, B1⟩ := hrel
    by_cases hlt : i < n
    · have d1 := lt_t12 hlt
      have d1n := ltn_t12 hlt
      have i0 : (0 : Int) ≤ (i : Int) := by omega
      have iN : (i : Int) < (n : Int) := by omega
      have hix : i < xs.length := by rw [HL.out]; exact hlt
      have hx := HD.out.get i
      have htk := lv_take xs i hix
      have hdr : xs.drop i = xs.getD i 0 :: xs.drop (i + 1) := by rw [List.drop_eq_getElem_cons hix]; simp [List.getD, hix]
      rw [hdr] at R1
      have x1 : wr.cell? ⟨g, i, none⟩ = some (.int .u64 ((xs.getD i 0 : Nat) : Int)) := by
        rw [R1.cell i, List.getElem?_append_left (by rw [uc_length]; simp; omega), uc_get _ i (by simp; omega)]
        refine congrArg some (congrArg (Value.int IntKind.u64) (congrArg (fun a : Nat => (a : Int)) ?_))
        simp [List.getD, hz]
      have fl := R1.frozen i
      generalize xs.getD i 0 = x at *
      have hk := HK.out
      have hxk : x * k ≤ 99999999 * k := Nat.mul_le_mul_right k (by omega)
      obtain ⟨y, hy⟩ : ∃ y, y = x * k := ⟨_, rfl⟩
      rw [← hy] at hxk
      obtain ⟨v, hvv⟩ : ∃ v, v = cy + y := ⟨_, rfl⟩
      obtain ⟨d, hd⟩ : ∃ d, d = v % 100000000 := ⟨_, rfl⟩
      obtain ⟨p, hp⟩ : ∃ p, p = v / 100000000 := ⟨_, rfl⟩
      have hdb : d < 100000000 := by omega
      have hpb : p < k := by omega
      have HS : Hid (lv (zs ++ [d]) + 100000000 ^ (i + 1) * p = lv (xs.take (i + 1)) * k) := show _ = _ by
        rw [lv_snoc, hz, htk, Nat.pow_succ, hd, hp]
        exact by_step hv (by rw [hvv, hy])
      have R2 := R1.set i (.int .u64 (d : Int))
      rw [uc_set _ x d _ post i hz] at R2
      have hrw : zs ++ d :: xs.drop (i + 1) = (zs ++ [d]) ++ xs.drop (i + 1) := by simp
      rw [hrw] at R2
      have B2 := B1.setCell (p := ⟨g, i, none⟩) HG.out (.int .u64 (d : Int))
      have HP := Lib.hid hpb
      have HDZ := Lib.hid (dz.append (Lm.one hdb))
      have HLZ : Hid ((zs ++ [d]).length = i + 1) := show _ = _ by rw [List.length_append, hz]; rfl
      have e1 : (x : Int) * (k : Int) = (y : Int) := by rw [hy]; simp
      have e2 : (cy : Int) + (y : Int) = (v : Int) := by omega
      have e3 : (v : Int) / 100000000 = (p : Int) := by omega
      have e4 : (v : Int).tmod 100000000 = (d : Int) := by rw [Int.tmod_eq_emod_of_nonneg (by omega)]; omega
      have e5 : (v : Int) % 100000000 = (d : Int) := by omega
      have e6 : (v : Int).tdiv 100000000 = (p : Int) := by rw [Int.tdiv_eq_ediv_of_nonneg (by omega)]; omega
      have b1 : y < 18446744073709551616 := by omega
      have b2 : v < 18446744073709551616 := by omega
      have b3 : p < 18446744073709551616 := by omega
      have b4 : i + 1 < 4611686018427387904 := by have := HN.out; omega
      have z1 := ur12 b1
      have z2 := ur12 b2
      have z3 := ur12 b3
      have z4 : wrap64 ((i : Int) + 1) = ((i + 1 : Nat) : Int) := by unfold wrap64; omega
      have HRR := Lib.hid R2; have HBB := Lib.hid B2; have HI := Lib.hid hlt
      clear R1 B1 R2 B2 hv hz dz htk hdr hrw hix hy hvv hd hp hdb hpb hcy hi hxk hk b1 b2 b3 b4
      clear hx
      go_wp2_with fail
      go_roundw
      case rel => exact ⟨i + 1, p, zs ++ [d], HI.out, by rw [z4], rfl, HP.out, HLZ.out, HDZ.out, HS.out, HRR.out, HBB.out⟩
      case measure =>
        have hi := HI.out
        rw [z4]
        clear e1 e2 e3 e4 e5 e6 z1 z2 z3 z4 x1 fl d1 d1n i0 iN HRR HBB HS HDZ HLZ HP
        exact meas12 hi
    · obtain rfl : i = n := by omega
      have d1 := lt_f12 (Nat.le_refl i)
      have d1n := ltn_f12 (Nat.le_refl i)
      rw [List.take_of_length_le (by rw [HL.out]; exact Nat.le_refl _)] at hv
      rw [List.drop_eq_nil_of_le (by rw [HL.out]; exact Nat.le_refl _), List.append_nil] at R1
      have hO := HB.out wr (uc zs) (by rw [uc_length]; exact hz) R1
      have hBs : base ≤ wr.heap.size := Nat.le_trans HBW.out B1.size
      by_cases hc : cy = 0
      · subst hc
        have hv2 : lv zs = lv xs * k := by simpa using hv
        have HO := Lib.hid hO; have HV := Lib.hid hv2; have HBB := Lib.hid B1; have HDZ := Lib.hid dz
        clear hv hv2 R1 B1 hcy dz hz hi hlt hO hBs
        go_wp2_with fail
        go_ret
        exact ⟨_, _, _, zs, rfl, Nat.le_refl _, Nat.le_succ _, HDZ.out, HV.out, HO.out, HBB.out⟩
      · have d2 : decide ((0 : Int) < (cy : Int)) = true := by simp; omega
        have d2n : decide (0 < cy) = true := by simp; omega
        have HV : Hid (lv (zs ++ [cy]) = lv xs * k) := show _ = _ by rw [lv_snoc, hz]; exact hv
        have HDZ := Lib.hid (dz.append (Lm.one (x := cy) (by have := HK.out; omega)))
        have hn := HN.out
        have l2 : i + 1 ≤ maxLen := by simp only [maxLen]; omega
        have l3 : (i + 1) * 8 ≤ 140737488355328 := by omega
        have hgn := heap_alloc_new wr (.cells #[.int .u64 (cy : Int)] 22)
        have HOA : Hid ((wr.alloc (.cells #[.int .u64 (cy : Int)] 22)).ownsRow base 22 1 (.slice (some ⟨g, 0, none⟩) i c) i (uc zs)) := hO.alloc _
        have BA : Below base w (wr.alloc (.cells #[.int .u64 (cy : Int)] 22)) := B1.alloc hBs _
        have HSr : Hid (0 < 1 → ∃ ad, some (⟨wr.heap.size, 0, none⟩ : Addr) = some ad ∧ ∀ j u, ([.int .u64 (cy : Int)] : List Value)[j]? = some u → (wr.alloc (.cells #[.int .u64 (cy : Int)] 22)).cell? (ad.add j) = some u) := fun _ =>
          ⟨_, rfl, World.news_of_block (cs := #[.int .u64 (cy : Int)]) (t := 22) (fr := (0, 0)) hgn⟩
        have hsz : base ≤ (wr.alloc (.cells #[.int .u64 (cy : Int)] 22)).heap.size := Nat.le_trans hBs (by simp)
        have l4 : ∀ u ∈ ([.int .u64 (cy : Int)] : List Value), u.oneCell' = true := by simp [Value.oneCell']
        have HBA := Lib.hid BA; have HSZ := Lib.hid hsz
        clear hgn BA hO B1 R1 hBs dz hv hz hcy hi hlt hc hn hsz
        go_wp2_with (first | (at_builtin; refine wpList_append_held _ rfl (.tmp 30) (.tmp 32) 73 rfl base 22 i0 _ 8 Tryz.underlying73 HI0.out HZ0.out H1.out H2.out rfl _ i _ rfl HOA.out (some ⟨wr.heap.size, 0, none⟩) 1 1 [.int .u64 (cy : Int)] rfl rfl HSr.out l4 l2 l3 HSZ.out ?_))
        intro A6 c6 w6 ho6 hg6 _
        have HB6 : Hid (Below base w w6) := HBA.out.grown hg6 HSZ.out (fun k hk => (HOA.out.lt k hk).1)
        have HO6 : Hid (w6.ownsRow base 22 1 (.slice A6 (i + 1) c6) (i + 1) (uc (zs ++ [cy]))) := by
          rw [uc_append]
          exact ho6.out
        clear ho6 hg6 HOA HBA HSr l4 HSZ
        go_wp2_with fail
        go_ret
        exact ⟨_, _, _, zs ++ [cy], rfl, Nat.le_succ _, Nat.le_refl _, HDZ.out, HV.out, HO6.out, HB6.out⟩
end Go.Proofs.YtojpfmlmalmlcaaGreatDoor

namespace Go.Proofs.YtojpfmlmalmlcaaGreatDoor
open Go.RowKit
theorem nd_noughts (d : List UInt8) (z : Nat) : nd (d ++ List.replicate z 48) = nd d * 10 ^ z := by
  have e : ∀ z, nd (List.replicate z (48 : UInt8)) = 0 := by
    intro z
    induction z with
    | zero => rfl
    | succ z ih => simp [List.replicate_succ, nd, ih, dv]
  rw [nd_append, e, List.length_replicate, Nat.add_zero]
theorem unit_up {m a b n : Nat} (h : b = a + 1075) (hn : n = 1074) : m * 2 ^ b = 2 * (m * 2 ^ a * uu n) := by
  have e : 2 ^ b = 2 ^ a * (2 * uu n) := by
    rw [← uu_step]
    unfold uu
    rw [← Nat.pow_add, h, hn]
  rw [e]
  clear e h hn
  generalize 2 ^ a = x
  generalize uu n = y
  grind
theorem unit_dn {m j a b z n c dd : Nat} (hj : j + c = n + 1) (hz : z + b = j + a) (h : dd * 10 ^ z = m * 5 ^ j) : 2 * (dd * 10 ^ a * uu n) = m * 2 ^ c * 10 ^ b := by
  have p := ten_pos z
  apply Nat.eq_of_mul_eq_mul_right p
  have e1 : 2 * (dd * 10 ^ a * uu n) * 10 ^ z = (dd * 10 ^ z) * 10 ^ a * (2 * uu n) := by grind
  have e2 : m * 2 ^ c * 10 ^ b * 10 ^ z = m * 2 ^ c * (10 ^ z * 10 ^ b) := by grind
  have e3 : (10 : Nat) ^ j = 2 ^ j * 5 ^ j := by rw [← Nat.mul_pow]
  have e4 : 2 ^ j * 2 ^ c = 2 * uu n := by
    rw [← uu_step]; unfold uu; rw [← Nat.pow_add, hj]
  rw [e1, e2, ← Nat.pow_add, hz, Nat.pow_add, e3, h, ← e4]
  grind
theorem fine_of {s d : List UInt8} {z T m : Nat} {e Y : Int} (hs : Dgs s) (hlast : Tl s) (hT : nd s.reverse = T) (hT0 : 0 < T) (hd : d ++ List.replicate z 48 = s.reverse) (htl : Tl d)
    (hTv : T = m * 2 ^ e.toNat * 5 ^ (-e).toNat) (he : -1075 ≤ e) (hY : Y = (s.length : Int) + if e < 0 then e else 0) : Fine d Y (m * 2 ^ (e + 1075).toNat) := by
  have hdg : Dgs s.reverse := fun x hx => hs x (by simpa using hx)
  have hdd : Dgs d := by rw [← hd] at hdg; exact hdg.left
  have hv : nd d * 10 ^ z = T := by rw [← nd_noughts, hd, hT]
  have hne : d ≠ [] := by
    intro h
    rw [h] at hv
    simp [nd] at hv
    omega
  have hlen : d.length + z = s.length := by
    have := congrArg List.length hd
    simpa using this
  refine ⟨⟨hdd, hne, ?_, htl⟩, ?_⟩
  · intro h
    apply hlast
    have h1 : s.reverse.getD 0 0 = 48 := by
      rw [← hd]
      cases d with
      | nil => exact absurd rfl hne
      | cons c l => simpa using h
    cases hs0 : s.reverse with
    | nil =>
      rw [hs0] at hd
      simp at hd
      exact absurd hd.1 hne
    | cons c l =>
      rw [hs0] at h1
      have h2 : c = 48 := by simpa using h1
      have h3 : s = l.reverse ++ [c] := by
        have := congrArg List.reverse hs0
        simpa using this
      rw [h3, h2]
      simp
  · unfold dA dB
    by_cases c : e < 0
    · rw [if_pos c] at hY
      obtain ⟨j, hj⟩ : ∃ j : Nat, e = -(j : Int) := ⟨(-e).toNat, by omega⟩
      have e1 : e.toNat = 0 := by omega
      have e2 : (-e).toNat = j := by omega
      rw [e1, e2, Nat.pow_zero, Nat.mul_one] at hTv
      exact unit_dn (z := z) (j := j) (by omega) (by omega) (by rw [hv, hTv])
    · rw [if_neg c] at hY
      have e1 : (-e).toNat = 0 := by omega
      rw [e1, Nat.pow_zero, Nat.mul_one] at hTv
      have e2 : (Y - (d.length : Int)).toNat = z := by omega
      have e3 : ((d.length : Int) - Y).toNat = 0 := by omega
      rw [e2, e3, hv, hTv, Nat.pow_zero, Nat.mul_one]
      exact (unit_up (by omega) rfl).symm
end Go.Proofs.YtojpfmlmalmlcaaGreatDoor

namespace Go.Proofs.YtojpfmlmalmlcaaGreatDoor
open Go.RowKit
theorem two_ten {a b k : Nat} (ha : a ≤ 13 * k) (hb : 4 * k ≤ b) : 2 ^ a ≤ 10 ^ b := by
  have h1 : 2 ^ a ≤ 2 ^ (13 * k) := Nat.pow_le_pow_right (by decide) ha
  have h2 : (2 : Nat) ^ (13 * k) ≤ 10 ^ (4 * k) := by
    rw [Nat.pow_mul, Nat.pow_mul]
    exact Nat.pow_le_pow_left (by decide) k
  have h3 : 10 ^ (4 * k) ≤ 10 ^ b := Nat.pow_le_pow_right (by decide) hb
  exact Nat.le_trans h1 (Nat.le_trans h2 h3)
theorem uu_ten {a b k : Nat} (ha : a ≤ 13 * k) (hb : 4 * k ≤ b) : uu a ≤ 10 ^ b := two_ten ha hb
theorem uu_split {n a b : Nat} (h : n = a + b) : 2 ^ n = 2 ^ a * uu b := by
  rw [h]
  exact Nat.pow_add 2 a b
/-- Beyond all patterns. -/
theorem far_up {l : List UInt8} {x : Int} (h1 : 10 ^ (l.length - 1) ≤ nd l) (hl : 1 ≤ l.length) (hx : 400 < x) : NearIs (dA l x) (dB l x) 9218868437227405312 := by
  obtain ⟨n, hn⟩ : ∃ n, n = 2098 := ⟨_, rfl⟩
  refine near_beyond hn (dB_pos l x) ?_
  unfold dA dB
  obtain ⟨a, ha⟩ : ∃ a, a = 1024 := ⟨_, rfl⟩
  obtain ⟨b, hb⟩ : ∃ b, b = 400 := ⟨_, rfl⟩
  rw [uu_split (n := n) (a := a) (b := 1074) (by omega)]
  clear hn
  have p1 : 2 ^ a ≤ 10 ^ b := two_ten (k := 79) (by omega) (by omega)
  generalize 2 ^ a = P at *
  have s1 : P * uu 1074 * 10 ^ ((l.length : Int) - x).toNat ≤ 10 ^ b * uu 1074 * 10 ^ ((l.length : Int) - x).toNat := Nat.mul_le_mul_right _ (Nat.mul_le_mul_right _ p1)
  have s2 : 10 ^ b * uu 1074 * 10 ^ ((l.length : Int) - x).toNat = 10 ^ (b + ((l.length : Int) - x).toNat) * uu 1074 := by rw [Nat.pow_add]; exact Nat.mul_right_comm _ _ _
  have s3 : 10 ^ (b + ((l.length : Int) - x).toNat) * uu 1074 ≤ 10 ^ (l.length - 1 + (x - (l.length : Int)).toNat) * uu 1074 := Nat.mul_le_mul_right _ (Nat.pow_le_pow_right (by decide) (by omega))
  have s4 : 10 ^ (l.length - 1 + (x - (l.length : Int)).toNat) * uu 1074 ≤ nd l * 10 ^ (x - (l.length : Int)).toNat * uu 1074 := by
    rw [Nat.pow_add]
    exact Nat.mul_le_mul_right _ (Nat.mul_le_mul_right _ h1)
  rw [s2] at s1
  exact Nat.le_trans s1 (Nat.le_trans s3 s4)
/-- Nearer to nought than to any other. -/
theorem far_dn {l : List UInt8} {x : Int} (hd : Dgs l) (hx : x < -400) : NearIs (dA l x) (dB l x) 0 := by
  refine near_none (dB_pos l x) ?_
  unfold dA dB
  have h1 := Nat.le_of_lt (nd_lt hd)
  have e1 : (x - (l.length : Int)).toNat = 0 := by omega
  rw [e1, Nat.pow_zero, Nat.mul_one]
  have s1 : 2 * (nd l * uu 1074) ≤ 2 * (10 ^ l.length * uu 1074) := Nat.mul_le_mul_left 2 (Nat.mul_le_mul_right _ h1)
  have s2 : 2 * (10 ^ l.length * uu 1074) = 10 ^ l.length * uu 1075 := by rw [show uu 1075 = 2 * uu 1074 from uu_step 1074]; exact Nat.mul_left_comm _ _ _
  obtain ⟨b, hb⟩ : ∃ b, b = 400 := ⟨_, rfl⟩
  have s3 : uu 1075 ≤ 10 ^ b := uu_ten (k := 83) (by decide) (by omega)
  have s4 : 10 ^ l.length * uu 1075 ≤ 10 ^ l.length * 10 ^ b := Nat.mul_le_mul_left _ s3
  rw [← Nat.pow_add] at s4
  have s5 : 10 ^ (l.length + b) ≤ 10 ^ ((l.length : Int) - x).toNat := Nat.pow_le_pow_right (by decide) (by omega)
  rw [s2] at s1
  exact Nat.le_trans s1 (Nat.le_trans s4 s5)
/-- The exponent brought within bounds. -/
def clip (x : Int) : Int := if x < -3000 then -3000 else if 3000 < x then 3000 else x
theorem nd_front {l : List UInt8} (hd : Dgs l) (h0 : nd l ≠ 0) : ∃ k : Nat, k < l.length ∧ 10 ^ (l.length - 1 - k) ≤ nd l := by
  induction l with
  | nil => exact absurd rfl h0
  | cons c m ih =>
    have hm : Dgs m := fun x hx => hd x (List.mem_cons_of_mem _ hx)
    by_cases hc : dv c = 0
    · have e : nd (c :: m) = nd m := by simp [nd, hc]
      rw [e] at h0 ⊢
      obtain ⟨k, hk, h⟩ := ih hm h0
      refine ⟨k + 1, by simp only [List.length_cons]; omega, ?_⟩
      rw [List.length_cons, show m.length + 1 - 1 - (k + 1) = m.length - 1 - k by omega]
      exact h
    · refine ⟨0, by simp, ?_⟩
      rw [List.length_cons, Nat.add_sub_cancel, Nat.sub_zero]
      have h1 : 1 ≤ dv c := by omega
      have := Nat.mul_le_mul_right (10 ^ m.length) h1
      simp only [nd]
      omega
theorem big_up {l : List UInt8} {x : Int} (h0 : nd l ≠ 0) (hl : l.length ≤ 300) (hx : 3000 ≤ x) : NearIs (dA l x) (dB l x) 9218868437227405312 := by
  obtain ⟨n, hn⟩ : ∃ n, n = 2098 := ⟨_, rfl⟩
  refine near_beyond hn (dB_pos l x) ?_
  unfold dA dB
  obtain ⟨a, ha⟩ : ∃ a, a = 1024 := ⟨_, rfl⟩
  obtain ⟨b, hb⟩ : ∃ b, b = 400 := ⟨_, rfl⟩
  rw [uu_split (n := n) (a := a) (b := 1074) (by omega)]
  clear hn
  have p1 : 2 ^ a ≤ 10 ^ b := two_ten (k := 79) (by omega) (by omega)
  generalize 2 ^ a = P at *
  have e2 : ((l.length : Int) - x).toNat = 0 := by omega
  rw [e2, Nat.pow_zero, Nat.mul_one]
  have h1 : 1 ≤ nd l := by omega
  have s1 : 10 ^ b ≤ 10 ^ (x - (l.length : Int)).toNat := Nat.pow_le_pow_right (by decide) (by omega)
  have s2 : 1 * 10 ^ (x - (l.length : Int)).toNat ≤ nd l * 10 ^ (x - (l.length : Int)).toNat := Nat.mul_le_mul_right _ h1
  rw [Nat.one_mul] at s2
  exact Nat.mul_le_mul_right _ (Nat.le_trans p1 (Nat.le_trans s1 s2))
theorem dA_zero {l : List UInt8} (h : nd l = 0) (x : Int) : dA l x = 0 := by unfold dA; rw [h, Nat.zero_mul, Nat.zero_mul]
/-- What is nearest with the exponent within bounds is nearest. -/
theorem near_clip {l : List UInt8} {x : Int} {p : Nat} (hd : Dgs l) (hl : l.length ≤ 300) (h : NearIs (dA l (clip x)) (dB l (clip x)) p) : NearIs (dA l x) (dB l x) p := by
  unfold clip at h
  by_cases h1 : x < -3000
  · rw [if_pos h1] at h
    have e := near_one (dB_pos _ _) h (far_dn hd (by decide))
    rw [e]
    exact far_dn hd (by omega)
  · rw [if_neg h1] at h
    by_cases h2 : 3000 < x
    · rw [if_pos h2] at h
      by_cases h0 : nd l = 0
      · rw [dA_zero h0] at h
        rw [dA_zero h0]
        exact near_same (dB_pos _ _) (dB_pos _ _) (by rw [Nat.zero_mul, Nat.zero_mul]) h
      · have e := near_one (dB_pos _ _) h (big_up h0 hl (by decide))
        rw [e]
        exact big_up h0 hl (by omega)
    · rw [if_neg h2] at h
      exact h
end Go.Proofs.YtojpfmlmalmlcaaGreatDoor

namespace Go.Proofs.YtojpfmlmalmlcaaGreatDoor
open Go.RowKit
set_option maxHeartbeats 400000 in
theorem cmpDec_any (a b : List UInt8) (x y : Int) (w : World) :
    Calls Tryz.prog 26 #[.string ⟨a.toArray⟩, .int .i64 x, .string ⟨b.toArray⟩, .int .i64 y] w fun r w' => r = .returned (.int .i64 (cmpD a x b y)) ∧ w' = w := by
  have hc : (decide (x < y) = true ∧ cmpD a x b y = -1) ∨ (decide (x < y) = false ∧ (x == y) = true ∧ Op.bytesLess a b = true ∧ cmpD a x b y = -1) ∨ (decide (x < y) = false ∧ (x == y) = true ∧ Op.bytesLess a b = false ∧ (a == b) = true ∧ cmpD a x b y = 0) ∨
      (decide (x < y) = false ∧ (x == y) = true ∧ Op.bytesLess a b = false ∧ (a == b) = false ∧ cmpD a x b y = 1) ∨ (decide (x < y) = false ∧ (x == y) = false ∧ cmpD a x b y = 1) := by
    unfold cmpD
    by_cases h1 : x < y
    · exact .inl ⟨by simpa using h1, by rw [if_pos (.inl h1)]⟩
    · by_cases h2 : x = y
      · have e2 : (x == y) = true := by simpa using h2
        cases h3 : Op.bytesLess a b with
        | true => exact .inr (.inl ⟨by simpa using h1, e2, rfl, by rw [if_pos (.inr ⟨h2, rfl⟩)]⟩)
        | false =>
          have n1 : ¬ (x < y ∨ (x = y ∧ false = true)) := fun h => h.elim h1 (fun k => by simpa using k.2)
          by_cases h4 : a = b
          · exact .inr (.inr (.inl ⟨by simpa using h1, e2, rfl, by simpa using h4, by rw [if_neg n1, if_pos ⟨h2, h4⟩]⟩))
          · exact .inr (.inr (.inr (.inl ⟨by simpa using h1, e2, rfl, by simpa using h4, by rw [if_neg n1, if_neg (fun h => h4 h.2)]⟩)))
      · exact .inr (.inr (.inr (.inr ⟨by simpa using h1, by simpa using h2, by rw [if_neg (fun h => h.elim h1 (fun k => h2 k.1)), if_neg (fun h => h2 h.1)]⟩)))
  rcases hc with ⟨d1, h⟩ | ⟨d1, d2, d3, h⟩ | ⟨d1, d2, d3, d4, h⟩ | ⟨d1, d2, d3, d4, h⟩ | ⟨d1, d2, h⟩
  all_goals
    rw [h]
    clear h
    go_enter Tryz.func26, Tryz.ntmps26
    go_wp2_with fail
    go_ret
    exact ⟨rfl, rfl⟩
end Go.Proofs.YtojpfmlmalmlcaaGreatDoor
