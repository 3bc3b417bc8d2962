/-
  Numbers in digits of 10^8, the lowest first; the call's own rows of them, and of bytes. No condition beyond what each lemma asks.
  What the document's times does: a number in digits of 10^8 times a small one, in place. No condition beyond what the contract says.
-/
import Derived.Test.YtemkllnnemadeaaDoorRefS12
import Derived.Test.YtemkllnnemadeaaDoorNMem
namespace Go.Proofs.YtemkllnnemadeaaDoor
open Go.RowKit

/-- Cells of uint64. -/
def uc (xs : List Nat) : List Value := xs.map fun x : Nat => Value.int .u64 (x : Int)
theorem uc_length (xs : List Nat) : (uc xs).length = xs.length := by simp [uc]
theorem uc_append (a b : List Nat) : uc (a ++ b) = uc a ++ uc b := by simp [uc]
theorem uc_get (xs : List Nat) (i : Nat) (h : i < xs.length) : (uc xs)[i]? = some (.int .u64 ((xs.getD i 0 : Nat) : Int)) := by
  simp [uc, List.getD, h]
theorem uc_one (xs : List Nat) : ∀ u ∈ uc xs, u.oneCell' = true := by
  intro u hu
  obtain ⟨b, _, rfl⟩ := List.mem_map.1 hu
  rfl
theorem uc_take (xs : List Nat) (i : Nat) : uc (xs.take i) = (uc xs).take i := by simp [uc]

/-- The number that a row of digits of 10^8 is. -/
def lv : List Nat → Nat
  | [] => 0
  | x :: l => x + 100000000 * lv l
def Lm (xs : List Nat) : Prop := ∀ x ∈ xs, x < 100000000
theorem lv_snoc (xs : List Nat) (q : Nat) : lv (xs ++ [q]) = lv xs + 100000000 ^ xs.length * q := by
  induction xs with
  | nil => simp [lv]
  | cons x l ih => simp only [List.cons_append, lv, ih, List.length_cons, Nat.pow_succ]; grind
theorem Lm.nil : Lm [] := fun x hx => by cases hx
theorem Lm.one {x : Nat} (h : x < 100000000) : Lm [x] := fun y hy => by
  have : y = x := by simpa using hy
  omega
theorem Lm.append {a b : List Nat} (h : Lm a) (k : Lm b) : Lm (a ++ b) := fun x hx => by
  rcases List.mem_append.1 hx with h1 | h1
  · exact h x h1
  · exact k x h1
theorem Lm.take {a : List Nat} (h : Lm a) (i : Nat) : Lm (a.take i) := fun x hx => h x (List.mem_of_mem_take hx)
theorem Lm.get {a : List Nat} (h : Lm a) (i : Nat) : a.getD i 0 < 100000000 := by
  by_cases hi : i < a.length
  · have : a.getD i 0 = a[i] := by simp [List.getD, hi]
    rw [this]
    exact h _ (List.getElem_mem hi)
  · have : a.getD i 0 = 0 := by simp [List.getD, hi]
    omega
theorem lv_take (xs : List Nat) (i : Nat) (h : i < xs.length) : lv (xs.take (i + 1)) = lv (xs.take i) + 100000000 ^ i * xs.getD i 0 := by
  have e : xs.take (i + 1) = xs.take i ++ [xs.getD i 0] := by
    rw [List.take_add_one]
    simp [List.getD, h]
  rw [e, lv_snoc, List.length_take, Nat.min_eq_left (by omega)]

/-- One digit's step of a product. -/
theorem by_step {P p cy t x v by_ : Nat} (h : p + P * cy = t * by_) (hv : v = cy + x * by_) : p + P * (v % 100000000) + P * 100000000 * (v / 100000000) = (t + P * x) * by_ := by
  have e : v % 100000000 + 100000000 * (v / 100000000) = v := by omega
  calc p + P * (v % 100000000) + P * 100000000 * (v / 100000000) = p + P * (v % 100000000 + 100000000 * (v / 100000000)) := by grind
    _ = p + P * v := by rw [e]
    _ = p + P * cy + P * (x * by_) := by rw [hv, Nat.mul_add, Nat.add_assoc]
    _ = (t + P * x) * by_ := by rw [h]; grind

theorem wr12 {x : Nat} (h : x < 4611686018427387904) : wrap64 (x : Int) = (x : Int) := by unfold wrap64; omega
theorem ur12 {x : Nat} (h : x < 18446744073709551616) : IntKind.u64.wrap (x : Int) = (x : Int) := by rw [IntKind.wrap_u64]; omega
theorem lt_t12 {x y : Nat} (h : x < y) : decide ((x : Int) < (y : Int)) = true := by simp; omega
theorem lt_f12 {x y : Nat} (h : y ≤ x) : decide ((x : Int) < (y : Int)) = false := by simp; omega
theorem ltn_t12 {x y : Nat} (h : x < y) : decide (x < y) = true := by simp; omega
theorem ltn_f12 {x y : Nat} (h : y ≤ x) : decide (x < y) = false := by simp; omega
theorem info_u64 : (Tryd.prog.info? 23).map (fun i => (i.zero, i.size, i.bytes)) = some (some (.int .u64 0), 1, 8) := by kernel_rfl
theorem info_u8' : (Tryd.prog.info? 5).map (fun i => (i.zero, i.size, i.bytes)) = some (some (.int .u8 0), 1, 1) := by kernel_rfl
theorem info_of {o : Option TypeInfo} {v : Value} {k b : Nat} (h : o.map (fun i => (i.zero, i.size, i.bytes)) = some (some v, k, b)) : ∃ i, o = some i ∧ i.zero = some v ∧ i.size = k ∧ i.bytes = b := by
  obtain ⟨i, hi, he⟩ := Option.map_eq_some_iff.1 h
  simp only [Prod.mk.injEq] at he
  exact ⟨i, hi, he.1, he.2.1, he.2.2⟩

section
variable {w : World} {base n c : Nat} {e : TypeId} {A : Option Addr} {L : List Value}
/-- A row of the call's own, as a block, and back. -/
theorem own_back (h : w.ownsRow base e 1 (.slice A n c) n L) (h0 : 0 < n) :
    ∃ g post, A = some ⟨g, 0, none⟩ ∧ base ≤ g ∧ Row w g e (L ++ post) ∧ L.length = n ∧ ∀ (w' : World) (M : List Value), M.length = n → Row w' g e (M ++ post) → w'.ownsRow base e 1 (.slice A n c) n M := by
  rcases h.2 with ⟨_, e⟩ | ⟨g, cap, cur, e, hb, hg, hnc, hm, hs, ht⟩
  · omega
  · injection e with e1 e2 e3
    subst e1 e3
    have ht' : cur.toList.take n = L := by simpa using ht
    have hp : L ++ cur.toList.drop n = cur.toList := by rw [← ht', List.take_append_drop]
    have hl : L.length = n := by have := h.1; omega
    refine ⟨g, cur.toList.drop n, rfl, hb, ?_, hl, fun w' M hy hr => ⟨by rw [hy, Nat.mul_one], .inr ⟨g, c, _, rfl, hb, hr, hnc, hm, ?_, ?_⟩⟩⟩
    · unfold Row
      rw [hp]
      exact hg
    · have h1 : (cur.toList.drop n).length = c - n := by rw [List.length_drop]; simp; omega
      simp [hy]
      have : cur.size = c := by omega
      omega
    · simp [hy]
theorem own_caps (h : w.ownsRow base e 1 (.slice A n c) n L) : n ≤ c ∧ c ≤ maxLen := by
  rcases h.2 with ⟨e, _⟩ | ⟨g, cap, cur, e, hb, hg, hnc, hm, hs, ht⟩
  · injection e with e1 e2 e3
    subst e2 e3
    exact ⟨Nat.le_refl _, Nat.zero_le _⟩
  · injection e with e1 e2 e3
    subst e3
    exact ⟨hnc, hm⟩
/-- Its front. -/
theorem own_cut (h : w.ownsRow base e 1 (.slice A n c) n L) (k : Nat) (h0 : 0 < n) (hk : k ≤ n) : w.ownsRow base e 1 (.slice A k c) k (L.take k) := by
  have hl := h.1
  rcases h.2 with ⟨_, e⟩ | ⟨g, cap, cur, e, hb, hg, hnc, hm, hs, ht⟩
  · omega
  · injection e with e1 e2 e3
    subst e1 e3
    refine ⟨by rw [List.length_take]; omega, .inr ⟨g, c, cur, rfl, hb, hg, Nat.le_trans hk hnc, hm, hs, ?_⟩⟩
    have ht' : cur.toList.take n = L := by simpa using ht
    rw [← ht', List.take_take]
    simp [Nat.min_eq_left hk]
/-- A new block is a row of the call's own. -/
theorem own_new (w : World) (e : TypeId) (L : List Value) (hb : base ≤ w.heap.size) (hm : L.length ≤ maxLen) : (w.alloc (.cells L.toArray e)).ownsRow base e 1 (.slice (some ⟨w.heap.size, 0, none⟩) L.length L.length) L.length L :=
  ⟨by rw [Nat.mul_one], .inr ⟨w.heap.size, L.length, L.toArray, rfl, hb, heap_alloc_new _ _, Nat.le_refl _, hm, by simp, by simp⟩⟩
end

end Go.Proofs.YtemkllnnemadeaaDoor

namespace Go.Proofs.YtemkllnnemadeaaDoor
open Go.RowKit

/-- Behind i digits. -/
def TmAt (w : World) (base g n k : Nat) (post : List Value) (xs : List Nat) (v5 v6 : Value) (wr : World) : Prop :=
  ∃ (i cy : Nat) (zs : List Nat), i ≤ n ∧ v6 = .int .i64 (i : Int) ∧ v5 = .int .u64 (cy : Int) ∧ cy < k ∧ zs.length = i ∧ Lm zs ∧ lv zs + 100000000 ^ i * cy = lv (xs.take i) * k ∧
    Row wr g 23 (uc (zs ++ xs.drop i) ++ post) ∧ Below base w wr

theorem uc_set (zs : List Nat) (x d : Nat) (r : List Nat) (post : List Value) (i : Nat) (h : zs.length = i) : (uc (zs ++ x :: r) ++ post).set i (.int .u64 (d : Int)) = uc (zs ++ d :: r) ++ post := by
  subst h
  simp [uc, List.map_append, List.append_assoc]

theorem meas12 {i n : Nat} (h : i < n) : n - (intOf (.int .i64 ((i + 1 : Nat) : Int))).toNat < n - (intOf (.int .i64 (i : Int))).toNat := by simp [intOf]; omega

set_option maxHeartbeats 1000000 in
theorem times_any (A : Option Addr) (n c base : Nat) (xs : List Nat) (k : Nat) (w : World) (h : w.ownsRow base 23 1 (.slice A n c) n (uc xs)) (hx : Lm xs) (hn : n ≤ 100000) (hb : base ≤ w.heap.size) (hk0 : 0 < k) (hk : k ≤ 10000000) (h0 : 0 < n) :
    Calls Tryd.prog 43 #[.slice A n c, .int .u64 (k : Int)] w fun e w' => ∃ (A' : Option Addr) (n' c' : Nat) (ys : List Nat), e = .returned (.slice A' n' c') ∧ n ≤ n' ∧ n' ≤ n + 1 ∧ Lm ys ∧ lv ys = lv xs * k ∧ w'.ownsRow base 23 1 (.slice A' n' c') n' (uc ys) ∧ Below base w w' := by
  obtain ⟨i0, hi0, hz0, hz1, hz2⟩ := info_of info_u64
  have HZ0 := Lib.hid hz0; have HI0 := Lib.hid hi0; have H1 := Lib.hid hz1; have H2 := Lib.hid hz2
  clear hz0 hi0 hz1 hz2
  obtain ⟨g, post, rfl, hg, hr, hl0, hback⟩ := own_back h h0
  have hl : xs.length = n := by rw [uc_length] at hl0; exact hl0
  have HG := Lib.hid hg; have HL := Lib.hid hl; have HD := Lib.hid hx; have HR := Lib.hid hr; have HB := Lib.hid hback; have HK := Lib.hid hk; have HK0 := Lib.hid hk0; have HBW := Lib.hid hb; have HN := Lib.hid hn
  clear h hr hg h0 hback hl hl0 hx hk hk0 hb hn
  go_enter Tryd.func43, Tryd.ntmps43
  go_wp2_with fail
  go_loopw [5, 6] (fun v5 v6 wr => TmAt w base g n k post xs v5 v6 wr) (fun _ v _ => n - (intOf v).toNat)
  case atStart => exact ⟨0, 0, [], by omega, rfl, rfl, HK0.out, rfl, Lm.nil, by simp [lv], by simpa using HR.out, Below.refl _ _⟩
  case round =>
    clear HR
    obtain ⟨i, cy, zs, hi, rfl, rfl, hcy, hz, dz, hv, R1, B1⟩ := hrel
    by_cases hlt : i < n
    · have d1 := lt_t12 hlt
      have d1n := ltn_t12 hlt
      have i0 : (0 : Int) ≤ (i : Int) := by omega
      have iN : (i : Int) < (n : Int) := by omega
      have hix : i < xs.length := by rw [HL.out]; exact hlt
      have hx := HD.out.get i
      have htk := lv_take xs i hix
      have hdr : xs.drop i = xs.getD i 0 :: xs.drop (i + 1) := by rw [List.drop_eq_getElem_cons hix]; simp [List.getD, hix]
      rw [hdr] at R1
      have x1 : wr.cell? ⟨g, i, none⟩ = some (.int .u64 ((xs.getD i 0 : Nat) : Int)) := by
        rw [R1.cell i, List.getElem?_append_left (by rw [uc_length]; simp; omega), uc_get _ i (by simp; omega)]
        refine congrArg some (congrArg (Value.int IntKind.u64) (congrArg (fun a : Nat => (a : Int)) ?_))
        simp [List.getD, hz]
      have fl := R1.frozen i
      generalize xs.getD i 0 = x at *
      have hk := HK.out
      have hxk : x * k ≤ 99999999 * k := Nat.mul_le_mul_right k (by omega)
      obtain ⟨y, hy⟩ : ∃ y, y = x * k := ⟨_, rfl⟩
      rw [← hy] at hxk
      obtain ⟨v, hvv⟩ : ∃ v, v = cy + y := ⟨_, rfl⟩
      obtain ⟨d, hd⟩ : ∃ d, d = v % 100000000 := ⟨_, rfl⟩
      obtain ⟨p, hp⟩ : ∃ p, p = v / 100000000 := ⟨_, rfl⟩
      have hdb : d < 100000000 := by omega
      have hpb : p < k := by omega
      have HS : Hid (lv (zs ++ [d]) + 100000000 ^ (i + 1) * p = lv (xs.take (i + 1)) * k) := show _ = _ by
        rw [lv_snoc, hz, htk, Nat.pow_succ, hd, hp]
        exact by_step hv (by rw [hvv, hy])
      have R2 := R1.set i (.int .u64 (d : Int))
      rw [uc_set _ x d _ post i hz] at R2
      have hrw : zs ++ d :: xs.drop (i + 1) = (zs ++ [d]) ++ xs.drop (i + 1) := by simp
      rw [hrw] at R2
      have B2 := B1.setCell (p := ⟨g, i, none⟩) HG.out (.int .u64 (d : Int))
      have HP := Lib.hid hpb
      have HDZ := Lib.hid (dz.append (Lm.one hdb))
      have HLZ : Hid ((zs ++ [d]).length = i + 1) := show _ = _ by rw [List.length_append, hz]; rfl
      have e1 : (x : Int) * (k : Int) = (y : Int) := by rw [hy]; simp
      have e2 : (cy : Int) + (y : Int) = (v : Int) := by omega
      have e3 : (v : Int) / 100000000 = (p : Int) := by omega
      have e4 : (v : Int).tmod 100000000 = (d : Int) := by rw [Int.tmod_eq_emod_of_nonneg (by omega)]; omega
      have e5 : (v : Int) % 100000000 = (d : Int) := by omega
      have e6 : (v : Int).tdiv 100000000 = (p : Int) := by rw [Int.tdiv_eq_ediv_of_nonneg (by omega)]; omega
      have b1 : y < 18446744073709551616 := by omega
      have b2 : v < 18446744073709551616 := by omega
      have b3 : p < 18446744073709551616 := by omega
      have b4 : i + 1 < 4611686018427387904 := by have := HN.out; omega
      have z1 := ur12 b1
      have z2 := ur12 b2
      have z3 := ur12 b3
      have z4 : wrap64 ((i : Int) + 1) = ((i + 1 : Nat) : Int) := by unfold wrap64; omega
      have HRR := Lib.hid R2; have HBB := Lib.hid B2; have HI := Lib.hid hlt
      clear R1 B1 R2 B2 hv hz dz htk hdr hrw hix hy hvv hd hp hdb hpb hcy hi hxk hk b1 b2 b3 b4
      clear hx
      go_wp2_with fail
      go_roundw
      case rel => exact ⟨i + 1, p, zs ++ [d], HI.out, by rw [z4], rfl, HP.out, HLZ.out, HDZ.out, HS.out, HRR.out, HBB.out⟩
      case measure =>
        have hi := HI.out
        rw [z4]
        clear e1 e2 e3 e4 e5 e6 z1 z2 z3 z4 x1 fl d1 d1n i0 iN HRR HBB HS HDZ HLZ HP
        exact meas12 hi
    · obtain rfl : i = n := by omega
      have d1 := lt_f12 (Nat.le_refl i)
      have d1n := ltn_f12 (Nat.le_refl i)
      rw [List.take_of_length_le (by rw [HL.out]; exact Nat.le_refl _)] at hv
      rw [List.drop_eq_nil_of_le (by rw [HL.out]; exact Nat.le_refl _), List.append_nil] at R1
      have hO := HB.out wr (uc zs) (by rw [uc_length]; exact hz) R1
      have hBs : base ≤ wr.heap.size := Nat.le_trans HBW.out B1.size
      by_cases hc : cy = 0
      · subst hc
        have hv2 : lv zs = lv xs * k := by simpa using hv
        have HO := Lib.hid hO; have HV := Lib.hid hv2; have HBB := Lib.hid B1; have HDZ := Lib.hid dz
        clear hv hv2 R1 B1 hcy dz hz hi hlt hO hBs
        go_wp2_with fail
        go_ret
        exact ⟨_, _, _, zs, rfl, Nat.le_refl _, Nat.le_succ _, HDZ.out, HV.out, HO.out, HBB.out⟩
      · have d2 : decide ((0 : Int) < (cy : Int)) = true := by simp; omega
        have d2n : decide (0 < cy) = true := by simp; omega
        have HV : Hid (lv (zs ++ [cy]) = lv xs * k) := show _ = _ by rw [lv_snoc, hz]; exact hv
        have HDZ := Lib.hid (dz.append (Lm.one (x := cy) (by have := HK.out; omega)))
        have hn := HN.out
        have l2 : i + 1 ≤ maxLen := by simp only [maxLen]; omega
        have l3 : (i + 1) * 8 ≤ 140737488355328 := by omega
        have hgn := heap_alloc_new wr (.cells #[.int .u64 (cy : Int)] 23)
        have HOA : Hid ((wr.alloc (.cells #[.int .u64 (cy : Int)] 23)).ownsRow base 23 1 (.slice (some ⟨g, 0, none⟩) i c) i (uc zs)) := hO.alloc _
        have BA : Below base w (wr.alloc (.cells #[.int .u64 (cy : Int)] 23)) := B1.alloc hBs _
        have HSr : Hid (0 < 1 → ∃ ad, some (⟨wr.heap.size, 0, none⟩ : Addr) = some ad ∧ ∀ j u, ([.int .u64 (cy : Int)] : List Value)[j]? = some u → (wr.alloc (.cells #[.int .u64 (cy : Int)] 23)).cell? (ad.add j) = some u) := fun _ =>
          ⟨_, rfl, World.news_of_block (cs := #[.int .u64 (cy : Int)]) (t := 23) (fr := (0, 0)) hgn⟩
        have hsz : base ≤ (wr.alloc (.cells #[.int .u64 (cy : Int)] 23)).heap.size := Nat.le_trans hBs (by simp)
        have l4 : ∀ u ∈ ([.int .u64 (cy : Int)] : List Value), u.oneCell' = true := by simp [Value.oneCell']
        have HBA := Lib.hid BA; have HSZ := Lib.hid hsz
        clear hgn BA hO B1 R1 hBs dz hv hz hcy hi hlt hc hn hsz
        go_wp2_with (first | (at_builtin; refine wpList_append_held _ rfl (.tmp 30) (.tmp 32) 72 rfl base 23 i0 _ 8 Tryd.underlying72 HI0.out HZ0.out H1.out H2.out rfl _ i _ rfl HOA.out (some ⟨wr.heap.size, 0, none⟩) 1 1 [.int .u64 (cy : Int)] rfl rfl HSr.out l4 l2 l3 HSZ.out ?_))
        intro A6 c6 w6 ho6 hg6 _
        have HB6 : Hid (Below base w w6) := HBA.out.grown hg6 HSZ.out (fun k hk => (HOA.out.lt k hk).1)
        have HO6 : Hid (w6.ownsRow base 23 1 (.slice A6 (i + 1) c6) (i + 1) (uc (zs ++ [cy]))) := by
          rw [uc_append]
          exact ho6.out
        clear ho6 hg6 HOA HBA HSr l4 HSZ
        go_wp2_with fail
        go_ret
        exact ⟨_, _, _, zs ++ [cy], rfl, Nat.le_succ _, Nat.le_refl _, HDZ.out, HV.out, HO6.out, HB6.out⟩

end Go.Proofs.YtemkllnnemadeaaDoor
