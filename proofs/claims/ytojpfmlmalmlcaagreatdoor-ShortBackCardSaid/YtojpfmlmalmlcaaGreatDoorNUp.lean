/-
  What Of does, of the program and of the document. No condition beyond what each contract says.
  What math/bits' Len64, Len16, Len do. No condition beyond what each contract says.
  What math/bits' Len does; what Bits and Small do, of the program and of the document. No condition beyond what each contract says.
  What Up does, of the program and of the document. No condition beyond what each contract says.
-/
import Derived.Test.YtojpfmlmalmlcaaGreatDoorNBigG
import Derived.StillTailTactics
import Derived.Lib.BitFns
import Derived.Deep.Cut
namespace Go.Proofs.YtojpfmlmalmlcaaGreatDoor.G
open Go.RowKit
/-- What is left of v. -/
def OfI (w : World) (t : Nat) (v0 v3 : Value) (wr : World) : Prop :=
  ∃ (i k q : Nat) (R : Option Addr) (zs : List Nat), i + (dg q).length ≤ 4 ∧ v0 = .int .u64 (q : Int) ∧ v3 = .slice R i k ∧ q < 18446744073709551616 ∧ wr.ownsRow w.heap.size 95 1 (.slice R i k) i (dc zs) ∧ Dg zs ∧ dg t = zs ++ dg q ∧ Below w.heap.size w wr
set_option maxHeartbeats 4000000 in
theorem of_any9 (t : Nat) (ht : t < 18446744073709551616) (w : World) :
    Calls Tryz.prog 38 #[.int .u64 (t : Int)] w fun e w' => ∃ R k, e = .returned (.slice R (dg t).length k) ∧ Digs w' R (dg t).length (dg t) ∧ Below w.heap.size w w' := by
  have HL4 : Hid ((dg t).length ≤ 4) := (dg_len t 4).2 (Nat.lt_of_lt_of_le ht (by decide))
  have HT := Lib.hid ht
  obtain ⟨i0', hi0, hz0, hz1, hz2⟩ := info_parts info_u16
  have HZ0 := Lib.hid hz0; have HI0 := Lib.hid hi0; have HZ1 := Lib.hid hz1; have HZ2 := Lib.hid hz2
  clear hz0 hi0 hz1 hz2 ht
  go_enter Tryz.func38, Tryz.ntmps38
  go_wp2_with fail
  go_loopw [0, 3] (fun v0 v3 wr => OfI w t v0 v3 wr) (fun v _ _ => (intOf v).toNat)
  case atStart => exact ⟨0, 0, t, none, [], by have := HL4.out; omega, rfl, rfl, HT.out, World.ownsRow_nil _ _ _ _, Dg.nil, rfl, Below.refl _ _⟩
  case round =>
    obtain ⟨i, k, q, R, zs, hl, rfl, rfl, hq, hO, hz, hv, B1⟩ := hrel
    have HO := Lib.hid hO; have HZ := Lib.hid hz; have HV := Lib.hid hv; have HB := Lib.hid B1
    clear hO hz hv B1
    by_cases hq0 : q = 0
    · subst hq0
      have hVV := HV.out
      rw [dg_zero, List.append_nil] at hVV
      have hD := own_digs HO.out HZ.out
      have hlz : zs.length = i := hD.1
      have HD := Lib.hid hD; have HE := Lib.hid hVV; have HLZ := Lib.hid hlz
      clear hVV hD hlz HV HO HZ hl hq
      go_wp2_with fail
      go_ret
      rw [HE.out, HLZ.out]
      exact ⟨_, _, rfl, HD.out, HB.out⟩
    · obtain ⟨d, hd⟩ : ∃ d : Nat, d = q % 65536 := ⟨_, rfl⟩
      obtain ⟨p, hp⟩ : ∃ p : Nat, p = q / 65536 := ⟨_, rfl⟩
      have HD : Hid (d < 65536) := show _ < _ by omega
      have hdq := dg_pos hq0
      rw [← hd, ← hp] at hdq
      have HN : Hid (dg t = (zs ++ [d]) ++ dg p) := show _ = _ by rw [HV.out, hdq]; simp
      have HJ : Hid (i + 1 + (dg p).length ≤ 4) := show _ ≤ _ by
        rw [hdq, List.length_cons] at hl
        omega
      have HP : Hid (p < 18446744073709551616) := show _ < _ by omega
      have HPq : Hid (p < q) := show _ < _ by omega
      have hi4 : i ≤ 4 := by omega
      have l2 : i + 1 ≤ maxLen := by simp only [maxLen]; omega
      have l3 : (i + 1) * 2 ≤ 140737488355328 := by omega
      have hgn := heap_alloc_new wr (.cells #[.int .u16 (d : Int)] 95)
      have HOA : Hid ((wr.alloc (.cells #[.int .u16 (d : Int)] 95)).ownsRow w.heap.size 95 1 (.slice R i k) i (dc zs)) := HO.out.alloc _
      have BA : Below w.heap.size w (wr.alloc (.cells #[.int .u16 (d : Int)] 95)) := HB.out.alloc HB.out.size _
      have HSr : Hid (0 < 1 → ∃ ad, some (⟨wr.heap.size, 0, none⟩ : Addr) = some ad ∧ ∀ j u, ([.int .u16 (d : Int)] : List Value)[j]? = some u → (wr.alloc (.cells #[.int .u16 (d : Int)] 95)).cell? (ad.add j) = some u) := fun _ =>
        ⟨_, rfl, World.news_of_block (cs := #[.int .u16 (d : Int)]) (t := 95) (fr := (0, 0)) hgn⟩
      have hsz : w.heap.size ≤ (wr.alloc (.cells #[.int .u16 (d : Int)] 95)).heap.size := Nat.le_trans HB.out.size (by simp)
      have l4 : ∀ u ∈ ([.int .u16 (d : Int)] : List Value), u.oneCell' = true := by simp [Value.oneCell']
      have d2 : ((q : Int) != 0) = true := bne0_t hq0
      have z1 : IntKind.u16.wrap (q : Int) = (d : Int) := by rw [IntKind.wrap_u16]; omega
      have z2 : (q : Int) / 65536 = (p : Int) := by omega
      have Z1 := Lib.hid z1
      clear z1
      have z3 := quoB hp
      have z4 := remB hd
      have z5 := wr16 HD.out
      have z1 := Z1.out
      have z6 := wru64 HP.out
      have HBA := Lib.hid BA
      clear hgn HO BA hl hq hd hp hdq hq0 hi4 HV
      go_wp2_with (first | (at_builtin; refine wpList_append_held _ rfl (.tmp 8) (.tmp 11) 58 rfl w.heap.size 95 i0' _ 2 Tryz.underlying58 HI0.out HZ0.out HZ1.out HZ2.out rfl _ i _ rfl HOA.out (some ⟨wr.heap.size, 0, none⟩) 1 1 [.int .u16 (d : Int)] rfl rfl HSr.out l4 l2 l3 hsz ?_))
      intro A5 c5 w9 ho9 hg9 _
      have B9 : Below w.heap.size w w9 := HBA.out.grown hg9 HBA.out.size (fun k hk => (HOA.out.lt k hk).1)
      have HO9 : Hid (w9.ownsRow w.heap.size 95 1 (.slice A5 (i + 1) c5) (i + 1) (dc (zs ++ [d]))) := by
        rw [dc_append]
        exact ho9.out
      have HB9 := Lib.hid B9
      clear ho9 hg9 HOA HBA HSr hsz l4 l2 l3 B9
      go_wp2_with fail
      go_roundw
      case rel => exact ⟨i + 1, c5, p, A5, zs ++ [d], HJ.out, by first | rfl | exact ret_val z6, rfl, HP.out, HO9.out, HZ.out.append (Dg.one HD.out), HN.out, HB9.out⟩
      case measure => simp [intOf]; exact HPq.out
end Go.Proofs.YtojpfmlmalmlcaaGreatDoor.G
namespace Go.Proofs.YtojpfmlmalmlcaaGreatDoor.G
open Go.RowKit
theorem tab_at (m : Nat) (h : m < Lib.len8tab.size) (hb : m < 256) : ((Lib.len8tab[m]'h).toNat : Int) = (Lib.bitLen m : Int) := by
  have e := Lib.len8_eq ⟨m, hb⟩
  rw [← e]
  unfold Lib.len8
  generalize Lib.len8tab = T at *
  rw [Int.toNat_natCast, ByteArray.getElem?_lt' _ _ h, Option.getD_some]
theorem len_sum {c : Int} {k L M r : Nat} (hc : c = (k : Int)) (hr : r = L) (e : L = k + M) (l : M ≤ 8) (hk6 : k ≤ 56) : wrap64 (c + wrap64 (M : Int)) = (r : Int) := by
  subst hc hr e
  unfold wrap64
  omega
theorem len_step {k x m p : Nat} (hx : x < 18446744073709551616) (hp : p = 2 ^ k) (hd : m = x / p) (hk : k = 0 ∨ p ≤ x) : Lib.bitLen x = k + Lib.bitLen m := by
  subst hp hd
  rcases hk with h | h
  · subst h
    rw [Nat.pow_zero, Nat.div_one, Nat.zero_add]
  · exact Lib.bitLen_shift k x h hx
theorem len_fin (k : Nat) {x d c : Int} {r : Nat} (p : Nat) (hc : c = (k : Int)) (hr : r = Lib.bitLen x.toNat) (h1 : x.toNat < 18446744073709551616) (hp : p = 2 ^ k) (hd : d.toNat = x.toNat / p) (hb : d.toNat < 256) (hk : k = 0 ∨ p ≤ x.toNat) (hk6 : k ≤ 56) :
    wrap64 (c + wrap64 (Lib.bitLen d.toNat : Int)) = (r : Int) :=
  len_sum hc hr (len_step h1 hp hd hk) (Lib.bitLen_le8 ⟨d.toNat, hb⟩) hk6
set_option maxHeartbeats 4000000 in
set_option maxRecDepth 100000 in
theorem len64_int (x : Int) (r : Nat) (h0 : 0 ≤ x) (h1 : x ≤ 18446744073709551615) (HR : Hid (r = Lib.bitLen x.toNat)) (w : World) :
    Calls Tryz.prog 98 #[.int .u64 x] w fun e w' => e = .returned (.int .i64 (r : Int)) ∧ w = w' := by
  go_enter Tryz.func98, Tryz.ntmps98
  go_wp2
  all_goals first
    | (exfalso; rename_i hz; rw [Lib.len8tab_size] at hz; omega)
    | (go_ret; refine ⟨congrArg Ending.returned (congrArg (Value.int IntKind.i64) ?_), rfl⟩
       rw [tab_at _ _ (by omega)]
       first
         | exact len_fin 56 72057594037927936 rfl HR.out (by omega) rfl (by omega) (by omega) (.inr (by omega)) (by omega)
         | exact len_fin 48 281474976710656 rfl HR.out (by omega) rfl (by omega) (by omega) (.inr (by omega)) (by omega)
         | exact len_fin 40 1099511627776 rfl HR.out (by omega) rfl (by omega) (by omega) (.inr (by omega)) (by omega)
         | exact len_fin 32 4294967296 rfl HR.out (by omega) rfl (by omega) (by omega) (.inr (by omega)) (by omega)
         | exact len_fin 24 16777216 rfl HR.out (by omega) rfl (by omega) (by omega) (.inr (by omega)) (by omega)
         | exact len_fin 16 65536 rfl HR.out (by omega) rfl (by omega) (by omega) (.inr (by omega)) (by omega)
         | exact len_fin 8 256 rfl HR.out (by omega) rfl (by omega) (by omega) (.inr (by omega)) (by omega)
         | (have h := len_fin 0 (d := x) 1 rfl HR.out (by omega) rfl (by omega) (by omega) (.inl rfl) (by omega)
            simpa using h))
theorem len64_any (x : Nat) (hx : x < 18446744073709551616) (w : World) :
    Calls Tryz.prog 98 #[.int .u64 (x : Int)] w fun e w' => e = .returned (.int .i64 (Lib.bitLen x : Int)) ∧ w = w' :=
  len64_int (x : Int) _ (by omega) (by omega) (show _ = _ by rw [Int.toNat_natCast]) w
set_option maxHeartbeats 4000000 in
set_option maxRecDepth 100000 in
theorem len16_int (x : Int) (r : Nat) (h0 : 0 ≤ x) (h1 : x ≤ 65535) (HR : Hid (r = Lib.bitLen x.toNat)) (w : World) :
    Calls Tryz.prog 73 #[.int .u16 x] w fun e w' => e = .returned (.int .i64 (r : Int)) ∧ w' = w := by
  go_enter Tryz.func73, Tryz.ntmps73
  go_wp2
  all_goals first
    | (exfalso; rename_i hz; rw [Lib.len8tab_size] at hz; omega)
    | (go_ret; refine ⟨congrArg Ending.returned (congrArg (Value.int IntKind.i64) ?_), rfl⟩
       rw [tab_at _ _ (by omega)]
       first
         | exact len_fin 8 256 rfl HR.out (by omega) rfl (by omega) (by omega) (.inr (by omega)) (by omega)
         | (have h := len_fin 0 (d := x) 1 rfl HR.out (by omega) rfl (by omega) (by omega) (.inl rfl) (by omega)
            simpa using h))
theorem len16_any (x : Nat) (hx : x < 65536) (w : World) :
    Calls Tryz.prog 73 #[.int .u16 (x : Int)] w fun e w' => e = .returned (.int .i64 (Lib.bitLen x : Int)) ∧ w' = w :=
  len16_int (x : Int) _ (by omega) (by omega) (show _ = _ by rw [Int.toNat_natCast]) w
end Go.Proofs.YtojpfmlmalmlcaaGreatDoor.G
namespace Go.Proofs.YtojpfmlmalmlcaaGreatDoor.G
open Go.RowKit
set_option maxHeartbeats 1000000 in
theorem len_any (x : Nat) (hx : x < 18446744073709551616) (w : World) :
    Calls Tryz.prog 101 #[.int .u64 (x : Int)] w fun e w' => e = .returned (.int .i64 (Lib.bitLen x : Int)) ∧ w' = w := by
  have c := Lib.hid (len64_any x hx w)
  have z1 := wru64 hx
  clear hx
  go_enter Tryz.func101, Tryz.ntmps101
  go_wp2_with fail
  refine c.out.mono ?_
  rintro e v1 ⟨rfl, hw⟩; subst v1
  go_wp2_with fail
  go_ret
  exact ⟨rfl, rfl⟩
/-- How many digits of 2. -/
def bv (xs : List Nat) (n : Nat) : Nat := 16 * (n - 1) + Lib.bitLen (xs.getD (n - 1) 0)
theorem bit0 : Lib.bitLen 0 = 0 := by decide
set_option maxHeartbeats 2000000 in
theorem bits_yes (A : Option Addr) (n c : Nat) (a : Nat) (w : World) (h : Digs w A n (dg a)) (ha : a < top) (hn0 : 0 < n) :
    Calls Tryz.prog 37 #[.slice A n c] w fun e w' => e = .returned (.int .i64 ((bv (dg a) n : Nat) : Int)) ∧ w' = w := by
  have c1 := Lib.hid (is_yes A n c a w h ha)
  have hn : n ≤ 256 := by have := top_len ha; have := h.1; omega
  obtain ⟨b, o, rfl, hb, hc⟩ := h.2.2 hn0
  have x1 := hc (n - 1) (by omega)
  have hx := h.2.1.get (n - 1)
  have hL : Lib.bitLen ((dg a).getD (n - 1) 0) ≤ 16 := Lib.bitLen_le _ 16 (by decide) hx
  have HV : Hid (bv (dg a) n = 16 * (n - 1) + Lib.bitLen ((dg a).getD (n - 1) 0)) := show _ = _ from rfl
  obtain ⟨k, hk⟩ : ∃ k, k = n - 1 := ⟨_, rfl⟩
  rw [← hk] at x1 hx hL HV
  generalize (dg a).getD k 0 = x at *
  have c2 := Lib.hid (len16_any x hx w)
  generalize Lib.bitLen x = L at *
  generalize bv (dg a) n = r at *
  obtain ⟨p, hp⟩ : ∃ p, p = 16 * k := ⟨_, rfl⟩
  have d2 : ((n : Int) == 0) = false := by simp; omega
  have d2n : (n == 0) = false := by simp; omega
  have e1 : (n : Int) - 1 = (k : Int) := by omega
  have e2 : (k : Int) < (n : Int) := by omega
  have e3 : (0 : Int) ≤ (k : Int) := by omega
  have e4 : 16 * (k : Int) = (p : Int) := by omega
  have e5 : (p : Int) + (L : Int) = (r : Int) := by have := HV.out; omega
  have hpw : p < 4611686018427387904 := by omega
  have hrw : r < 4611686018427387904 := by have := HV.out; omega
  have hkw : k < 4611686018427387904 := by omega
  have z1 := wr64 hpw
  have z2 := wr64 hrw
  have z3 := wr64 hkw
  clear hpw hrw hkw hk hx hL hp hc h ha HV hb hn0
  go_enter Tryz.func37, Tryz.ntmps37
  go_wp2_with fail
  refine c1.out.mono ?_
  rintro e v1 ⟨rfl, hw⟩; subst v1
  go_wp2_with fail
  refine c2.out.mono ?_
  rintro e v1 ⟨rfl, hw⟩; subst v1
  go_wp2_with fail
  go_ret
  exact ⟨by first | rfl | exact ret_num z2, rfl⟩
set_option maxHeartbeats 1000000 in
theorem bits_zero (A : Option Addr) (c : Nat) (a : Nat) (w : World) (h : Digs w A 0 (dg a)) (ha : a < top) :
    Calls Tryz.prog 37 #[.slice A 0 c] w fun e w' => e = .returned (.int .i64 0) ∧ w' = w := by
  have c1 := Lib.hid (is_yes A 0 c a w h ha)
  clear h ha
  go_enter Tryz.func37, Tryz.ntmps37
  go_wp2_with fail
  refine c1.out.mono ?_
  rintro e v1 ⟨rfl, hw⟩; subst v1
  go_wp2_with fail
  go_ret
  exact ⟨rfl, rfl⟩
set_option maxHeartbeats 1000000 in
theorem bits_no (A : Option Addr) (n c : Nat) (xs : List Nat) (w : World) (h : Digs w A n xs) (hn : n ≤ 1000000000) (hi : isN xs = false) :
    Calls Tryz.prog 37 #[.slice A n c] w fun e w' => e = .returned (.int .i64 0) ∧ w' = w := by
  have c1 := Lib.hid (is_not A n c xs w h (by omega) hi)
  clear h hi
  go_enter Tryz.func37, Tryz.ntmps37
  go_wp2_with fail
  refine c1.out.mono ?_
  rintro e v1 ⟨rfl, hw⟩; subst v1
  go_wp2_with fail
  go_ret
  exact ⟨rfl, rfl⟩
def RBitI (w : World) (p x : Nat) (v3 v4 : Value) (wr : World) : Prop :=
  wr = w ∧ ∃ q c : Nat, v3 = .int .i64 ((p + c : Nat) : Int) ∧ v4 = .int .u16 (q : Int) ∧ q < 65536 ∧ Lib.bitLen x = c + Lib.bitLen q
theorem or_add (v y i : Nat) (hi : 16 * i ≤ 64) (hv : v < 65536 ^ i) (hy : y % 65536 ^ i = 0) (hy2 : y < 18446744073709551616) (hv2 : v < 18446744073709551616) : bits .or .u64 (v : Int) (y : Int) = ((v + y : Nat) : Int) := by
  rw [(bits_nat .u64 64 (by decide) (fun n h0 h1 => by rw [IntKind.wrap_u64]; omega) v y hv2 hy2).2, Nat.or_comm]
  have e : 65536 ^ i = 2 ^ (16 * i) := by rw [Nat.pow_mul]
  rw [e] at hv hy
  have hq : y = 2 ^ (16 * i) * (y / 2 ^ (16 * i)) := by
    have := Nat.div_add_mod y (2 ^ (16 * i))
    omega
  rw [hq, ← Nat.two_pow_add_eq_or_of_lt hv (y / 2 ^ (16 * i)), ← hq, Nat.add_comm]
def SmallI (w : World) (xs : List Nat) (n : Nat) (v4 v17 : Value) (wr : World) : Prop :=
  wr = w ∧ ∃ i : Nat, i ≤ n ∧ v17 = .int .i64 (i : Int) ∧ v4 = .int .u64 ((nv (xs.take i) : Nat) : Int)
set_option maxHeartbeats 2000000 in
theorem small_yes (A : Option Addr) (n c : Nat) (a : Nat) (w : World) (h : Digs w A n (dg a)) (ha : a < top) (hn : n ≤ 4) :
    Calls Tryz.prog 65 #[.slice A n c] w fun e w' => e = .returned (.tuple #[.int .u64 (a : Int), .bool true]) ∧ w' = w := by
  have c1 := Lib.hid (is_yes A n c a w h ha)
  have d0 : decide ((4 : Int) < (n : Int)) = false := by simp; omega
  have d0n : decide (4 < n) = false := by simp; omega
  have HV := Lib.hid (nv_dg a)
  generalize dg a = xs at *
  have H := Lib.hid h
  clear h ha
  go_enter Tryz.func65, Tryz.ntmps65
  go_wp2_with fail
  refine c1.out.mono ?_
  rintro e v1 ⟨rfl, hw⟩; subst v1
  go_wp2_with fail
  go_loopw [4, 17] (fun v4 v17 wr => SmallI w xs n v4 v17 wr) (fun _ v _ => n - (intOf v).toNat)
  case atStart => exact ⟨rfl, 0, by omega, rfl, by simp [nv]⟩
  case round =>
    obtain ⟨rfl, i, hi, rfl, rfl⟩ := hrel
    by_cases hlt : i < n
    · have d1 := lt_t hlt
      have d1n := ltn_t hlt
      have i0 : (0 : Int) ≤ (i : Int) := by omega
      have iN : (i : Int) < (n : Int) := by omega
      obtain ⟨b, o, rfl, hb, hc⟩ := H.out.2.2 (by omega)
      have x1 := hc i hlt
      have hx := H.out.2.1.get i
      have ht := take_nv' xs i
      have hvl : nv (xs.take i) < 65536 ^ i := by
        have := nv_lt (H.out.2.1.take i)
        rwa [List.length_take, Nat.min_eq_left (by have := H.out.1; omega)] at this
      have hvl2 : nv (xs.take (i + 1)) < 65536 ^ (i + 1) := by
        have := nv_lt (H.out.2.1.take (i + 1))
        rwa [List.length_take, Nat.min_eq_left (by have := H.out.1; omega)] at this
      have hp4 : 65536 ^ (i + 1) ≤ 65536 ^ 4 := Nat.pow_le_pow_right (by omega) (by omega)
      have e4 : 65536 ^ 4 = 18446744073709551616 := by decide
      rw [e4] at hp4
      obtain ⟨v', hv'⟩ : ∃ v', v' = nv (xs.take (i + 1)) := ⟨_, rfl⟩
      have HVV := Lib.hid hv'
      rw [← hv'] at ht hvl2
      generalize nv (xs.take i) = v at *
      generalize xs.getD i 0 = x at *
      obtain ⟨y, hy⟩ : ∃ y, y = 65536 ^ i * x := ⟨_, rfl⟩
      obtain ⟨p, hp⟩ : ∃ p, p = 16 * i := ⟨_, rfl⟩
      have z1 := or_add v y i (by omega) hvl (by rw [hy, Nat.mul_mod_right]) (by omega) (by omega)
      rw [show v + y = v' by omega] at z1
      have z2 : IntKind.u64.wrap ((x : Int) * 2 ^ p) = (y : Int) := by
        have e5 : (x : Int) * 2 ^ p = (y : Int) := by
          rw [hy, hp, Nat.mul_comm, show (65536 : Nat) ^ i = 2 ^ (16 * i) by rw [Nat.pow_mul]]
          simp
          rw [Int.mul_comm, Nat.mul_comm i 16]
        rw [e5]
        exact wru64 (by omega)
      have z3 : 16 * (i : Int) = (p : Int) := by omega
      have HI := Lib.hid hlt
      have z4 := wru64 (Nat.lt_trans hx (by decide))
      clear ht hvl hvl2 hp4 e4 hv' hy hp hc hx hi
      go_wp2_with fail
      go_roundw
      case rel => exact ⟨rfl, i + 1, HI.out, ret_val (by have := HI.out; omega), ret_val (by rw [HVV.out])⟩
      case measure => simp [intOf]; have := HI.out; omega
    · obtain rfl : i = n := by omega
      have d1 := lt_f (Nat.le_refl i)
      have d1n := ltn_f (Nat.le_refl i)
      rw [List.take_of_length_le (by rw [H.out.1]; exact Nat.le_refl _), HV.out]
      go_wp2_with fail
      go_ret2
      exact ⟨rfl, rfl⟩
set_option maxHeartbeats 1000000 in
theorem small_no (A : Option Addr) (n c : Nat) (xs : List Nat) (w : World) (h : Digs w A n xs) (hn : n ≤ 1000000000) (hi : isN xs = false ∨ 4 < n) :
    Calls Tryz.prog 65 #[.slice A n c] w fun e w' => e = .returned (.tuple #[.int .u64 0, .bool false]) ∧ w' = w := by
  have c1 := Lib.hid (is_any A n c xs w h (by omega))
  by_cases hx : isN xs = false
  · rw [hx] at c1
    clear hi hx h
    go_enter Tryz.func65, Tryz.ntmps65
    go_wp2_with fail
    refine c1.out.mono ?_
    rintro e v1 ⟨rfl, hw⟩; subst v1
    go_wp2_with fail
    go_ret2
    exact ⟨rfl, rfl⟩
  · have h4 : 4 < n := by rcases hi with h | h; exact absurd h hx; exact h
    rw [eq_true_of_ne_false hx] at c1
    have d0 : decide ((4 : Int) < (n : Int)) = true := by simp; omega
    have d0n : decide (4 < n) = true := by simp; omega
    clear hi hx h
    go_enter Tryz.func65, Tryz.ntmps65
    go_wp2_with fail
    refine c1.out.mono ?_
    rintro e v1 ⟨rfl, hw⟩; subst v1
    go_wp2_with fail
    go_ret2
    exact ⟨rfl, rfl⟩
end Go.Proofs.YtojpfmlmalmlcaaGreatDoor.G

namespace Go.Proofs.YtojpfmlmalmlcaaGreatDoor.G
open Go.RowKit
/-- The numbers of a row that is moved up. -/
def upF (xs : List Nat) (W r : Nat) (t : Nat) : Int := if t < W then 0 else ((xs.getD (t - W) 0 * 2 ^ r : Nat) : Int)
theorem upF_at (xs : List Nat) (W r i : Nat) : upF xs W r (W + i) = ((xs.getD i 0 * 2 ^ r : Nat) : Int) := by
  unfold upF
  rw [if_neg (by omega), Nat.add_sub_cancel_left]
theorem up_start (xs : List Nat) (W r T : Nat) : fillL T W (upF xs W r) = List.replicate T 0 := by
  apply List.ext_getElem
  · simp [fillL]
  · intro t h1 h2
    simp only [fillL, List.getElem_map, List.getElem_range, List.getElem_replicate]
    by_cases h : t < W
    · rw [if_pos h]; unfold upF; rw [if_pos h]
    · rw [if_neg h]
theorem ev_noughts (n : Nat) : ev 65536 (List.replicate n 0) = 0 := by
  induction n with
  | zero => rfl
  | succ n ih =>
    rw [List.replicate_succ]
    show 0 + 65536 * ev 65536 (List.replicate n 0) = 0
    rw [ih]
    rfl
theorem ev_scale (xs : List Nat) (c : Nat) : ev 65536 (xs.map fun x : Nat => ((x * c : Nat) : Int)) = ((nv xs * c : Nat) : Int) := by
  induction xs with
  | nil => simp [ev, nv]
  | cons x r ih =>
    rw [List.map_cons]
    show ((x * c : Nat) : Int) + 65536 * ev 65536 (r.map fun x : Nat => ((x * c : Nat) : Int)) = _
    rw [ih, nv_cons, Nat.add_mul, Nat.mul_assoc]
    omega
theorem up_all (xs : List Nat) (W r n : Nat) (hn : xs.length = n) : fillL (W + n) (W + n) (upF xs W r) = List.replicate W 0 ++ xs.map fun x : Nat => ((x * 2 ^ r : Nat) : Int) := by
  apply List.ext_getElem
  · simp [fillL, hn]
  · intro t h1 h2
    simp only [fillL, List.length_map, List.length_range] at h1
    simp only [fillL, List.getElem_map, List.getElem_range]
    rw [if_pos h1]
    unfold upF
    by_cases h : t < W
    · rw [if_pos h, List.getElem_append_left (by rw [List.length_replicate]; exact h), List.getElem_replicate]
    · rw [if_neg h, List.getElem_append_right (by rw [List.length_replicate]; omega), List.getElem_map]
      simp only [List.length_replicate]
      simp [List.getD, show t - W < xs.length by omega]
theorem up_ev (xs : List Nat) (W r n N : Nat) (hn : xs.length = n) (hN : N = 16 * W + r) : ev 65536 (fillL (W + n) (W + n) (upF xs W r)) = ((nv xs * 2 ^ N : Nat) : Int) := by
  rw [up_all xs W r n hn, ev_append, ev_noughts, ev_scale, List.length_replicate, hN, Nat.pow_add, Nat.pow_mul]
  simp
  grind
theorem up_bound {xs : List Nat} (hx : Dg xs) {W r : Nat} (hr : r < 16) (t : Nat) : 0 ≤ upF xs W r t ∧ upF xs W r t ≤ 2147450880 := by
  unfold upF
  split
  · omega
  · have h1 := hx.get (t - W)
    have h2 : 2 ^ r ≤ 2 ^ 15 := Nat.pow_le_pow_right (by omega) (by omega)
    have h3 : xs.getD (t - W) 0 * 2 ^ r ≤ 65535 * 2 ^ 15 := Nat.mul_le_mul (by omega) h2
    have h4 : 65535 * 2 ^ 15 = 2147450880 := by decide
    generalize xs.getD (t - W) 0 * 2 ^ r = p at *
    omega
/-- The loop that fills a row from W on. -/
def UpI (w : World) (gl n W r : Nat) (xs : List Nat) (v : Value) (wr : World) : Prop :=
  ∃ i : Nat, i ≤ n ∧ v = .int .i64 (i : Int) ∧ Row wr gl 3 (intCells (fillL (W + n) (W + i) (upF xs W r))) ∧ Below w.heap.size w wr
set_option maxHeartbeats 4000000 in
theorem up_yes (A : Option Addr) (n c : Nat) (a : Nat) (N : Nat) (w : World) (h : Digs w A n (dg a)) (ha : a < top) (hN : N ≤ 4096) :
    Calls Tryz.prog 67 #[.slice A n c, .int .i64 (N : Int)] w fun e w' => ∃ R k, e = .returned (.slice R (dg (a * 2 ^ N)).length k) ∧ Digs w' R (dg (a * 2 ^ N)).length (dg (a * 2 ^ N)) ∧ Below w.heap.size w w' := by
  have c1 := Lib.hid (is_yes A n c a w h ha)
  have hn : n ≤ 256 := by have := top_len ha; have := h.1; omega
  obtain ⟨W, hW⟩ : ∃ W, W = N / 16 := ⟨_, rfl⟩
  obtain ⟨r, hr⟩ : ∃ r, r = N % 16 := ⟨_, rfl⟩
  have hr16 : r < 16 := by omega
  have hW256 : W ≤ 256 := by omega
  obtain ⟨T, hT⟩ : ∃ T, T = W + n := ⟨_, rfl⟩
  obtain ⟨L, hL⟩ : ∃ L, L = intCells (fillL T W (upF (dg a) W r)) := ⟨_, rfl⟩
  have mk := make_ints T (by omega) L (by rw [hL, up_start]) w
  have HE : Hid (ev 65536 (fillL (W + n) (W + n) (upF (dg a) W r)) = ((a * 2 ^ N : Nat) : Int)) := show _ = _ by
    rw [up_ev (dg a) W r n N h.1 (by omega), nv_dg]
  have HB : Hid (∀ t, 0 ≤ upF (dg a) W r t ∧ upF (dg a) W r t ≤ 2147450880) := fun t => up_bound h.2.1 hr16 t
  have H := Lib.hid h; have HL := Lib.hid hL; have HT := Lib.hid hT
  have d1 : decide ((N : Int) < 0) = false := by simp
  have d2 : decide ((4096 : Int) < (N : Int)) = false := by simp; omega
  have d2n : decide (4096 < N) = false := by simp; omega
  have e1 : (W : Int) + (n : Int) = (T : Int) := by omega
  have e2 : (N : Int).tdiv 16 = (W : Int) := by rw [hW]; simp
  have E3 : Hid ((N : Int).tmod 16 = (r : Int)) := show _ = _ by clear e2; rw [Int.tmod_eq_emod_of_nonneg (by omega)]; omega
  have e3 := E3.out
  have hT512 : T ≤ 512 := by clear e2 e3; omega
  have hWw : W < 4611686018427387904 := by clear e2 e3; omega
  have wW := wr64 hWw
  generalize a * 2 ^ N = V at *
  clear h ha hL hT hW hr hWw
  go_enter Tryz.func67, Tryz.ntmps67
  go_wp2_with fail
  refine c1.out.mono ?_
  rintro e v1 ⟨rfl, hw⟩; subst v1
  go_wp2_with fail
  have R0 : Row (w.alloc (.cells L.toArray 3)) w.heap.size 3 L := Row.new w _ _
  have B0 : Below w.heap.size w (w.alloc (.cells L.toArray 3)) := (Below.refl _ _).alloc (Nat.le_refl _) _
  rw [HL.out] at R0 B0 ⊢
  rw [HT.out] at R0
  rw [HT.out] at B0
  generalize hWW : w.alloc (.cells (intCells (fillL T W (upF (dg a) W r))).toArray 3) = WW at *
  rw [← HT.out, hWW] at R0 B0
  rw [HT.out] at R0
  obtain ⟨gl, hg⟩ : ∃ gl, gl = w.heap.size := ⟨_, rfl⟩
  have gle : w.heap.size ≤ gl := by clear e2 e3 wW; omega
  rw [← hg] at R0 ⊢
  have HR0 := Lib.hid R0; have HB0 := Lib.hid B0; have HGL := Lib.hid gle
  clear mk hg R0 B0 HL gle hWW c1 e2 e3 E3 wW
  go_loopw [32] (fun v wr => UpI w gl n W r (dg a) v wr) (fun v _ => n - (intOf v).toNat)
  case atStart => exact ⟨0, by omega, rfl, HR0.out, HB0.out⟩
  case round =>
    clear HR0 HB0
    obtain ⟨i, hi, rfl, R1, B1⟩ := hrel
    by_cases hlt : i < n
    · have d1 := lt_t hlt
      have d1n := ltn_t hlt
      have i0 : (0 : Int) ≤ (i : Int) := by omega
      have iS : (i : Int) < (n : Int) := by omega
      obtain ⟨b0, o, rfl, m1, hc⟩ := H.out.2.2 (by omega)
      have x1 := (B1.cell (p := ⟨b0, o + i, none⟩) m1).trans (hc i hlt)
      have bx := H.out.2.1.get i
      obtain ⟨j, hj⟩ : ∃ j, j = W + i := ⟨_, rfl⟩
      have hy := HB.out j
      rw [← hj] at R1
      have cl := (R1.cell j).trans (intCells_get _ j (by rw [fillL_length]; omega))
      have fl := R1.frozen j
      have R2 := R1.set j (.int .i64 (upF (dg a) W r j))
      rw [fillL_next, hj, Nat.add_assoc] at R2
      have B2 := B1.setCell (p := ⟨gl, j, none⟩) HGL.out (.int .i64 (upF (dg a) W r j))
      have hf : upF (dg a) W r (W + i) = (((dg a).getD i 0 * 2 ^ r : Nat) : Int) := upF_at (dg a) W r i
      rw [hf, ← hj] at R2
      rw [hj, hf, ← hj] at B2
      rw [hj, hf] at hy
      generalize (dg a).getD i 0 = x at *
      obtain ⟨y, hyy⟩ : ∃ y, y = x * 2 ^ r := ⟨_, rfl⟩
      rw [← hyy] at R2 B2 hy
      have z1 : (x : Int) * 2 ^ r = (y : Int) := by rw [hyy]; simp
      have e4 : (W : Int) + (i : Int) = (j : Int) := by omega
      have e5 : (j : Int) < (T : Int) := by have := HT.out; omega
      have e6 : (0 : Int) ≤ (j : Int) := by omega
      have hjw : j < 4611686018427387904 := by omega
      have hyw : y < 4611686018427387904 := by omega
      have H2 := Lib.hid R2; have HB2 := Lib.hid B2; have HI := Lib.hid hlt
      have z2 := wr64 hyw
      have Z12 : Hid (wrap64 ((x : Int) * 2 ^ r) = (y : Int)) := show _ = _ by rw [z1]; exact z2
      clear z1 z2
      have z3 := wr64 hjw
      have z4 := wr64 (Nat.lt_trans bx (by decide))
      clear R1 B1 R2 B2 hc m1 hi hf hy hyy hyw hjw hj bx
      go_wp2_with fail
      go_roundw
      case rel =>
        rw [Z12.out]
        exact ⟨i + 1, HI.out, ret_val (by have := HI.out; omega), H2.out, HB2.out⟩
      case measure => simp [intOf]; have := HI.out; omega
    · obtain rfl : i = n := by omega
      have d1 := lt_f (Nat.le_refl i)
      have d1n := ltn_f (Nat.le_refl i)
      have c6 := Lib.hid (carried_any (some ⟨gl, 0, none⟩) T T (fillL (W + i) (W + i) (upF (dg a) W r)) wr (by rw [HT.out]; exact ints_row R1 (fillL_length (W + i) (W + i) _)) (fun j hj => by
        have q := HB.out j
        rw [fillL_get _ _ _ _ (by rw [← HT.out]; exact hj), if_pos (by rw [← HT.out]; exact hj)]
        omega) (by omega) V HE.out)
      have HB2 := Lib.hid B1
      clear R1 B1 hlt hi
      go_wp2_with fail
      refine c6.out.mono ?_
      rintro e w4 ⟨S, j, rfl, D, B4⟩
      have HD := Lib.hid D
      have HB4 := Lib.hid (HB2.out.trans (B4.mono HB2.out.size))
      clear D B4 HB2 c6
      go_wp2_with fail
      go_ret
      exact ⟨S, j, rfl, HD.out, HB4.out⟩
set_option maxHeartbeats 1000000 in
theorem up_no (A : Option Addr) (n c : Nat) (xs : List Nat) (N : Int) (w : World) (h : Digs w A n xs) (hn : n ≤ 1000000000) (hi : isN xs = false ∨ N < 0 ∨ 4096 < N) :
    Calls Tryz.prog 67 #[.slice A n c, .int .i64 N] w fun e w' => e = .returned (.slice none 0 0) ∧ w' = w := by
  have c1 := Lib.hid (is_any A n c xs w h (by omega))
  by_cases hx : isN xs = false
  · rw [hx] at c1
    clear hi hx h
    go_enter Tryz.func67, Tryz.ntmps67
    go_wp2_with fail
    refine c1.out.mono ?_
    rintro e v1 ⟨rfl, hw⟩; subst v1
    go_wp2_with fail
    go_ret
    exact ⟨rfl, rfl⟩
  · rw [eq_true_of_ne_false hx] at c1
    by_cases h0 : N < 0
    · have d0 : decide (N < 0) = true := by simp; omega
      clear hi hx h
      go_enter Tryz.func67, Tryz.ntmps67
      go_wp2_with fail
      refine c1.out.mono ?_
      rintro e v1 ⟨rfl, hw⟩; subst v1
      go_wp2_with fail
      go_ret
      exact ⟨rfl, rfl⟩
    · have d0 : decide (N < 0) = false := by simp; omega
      have d1 : decide ((4096 : Int) < N) = true := by
        simp
        rcases hi with h | h | h
        · exact absurd h hx
        · exact absurd h h0
        · exact h
      clear hi hx h
      go_enter Tryz.func67, Tryz.ntmps67
      go_wp2_with fail
      refine c1.out.mono ?_
      rintro e v1 ⟨rfl, hw⟩; subst v1
      go_wp2_with fail
      go_ret
      exact ⟨rfl, rfl⟩
theorem nv_two (W r : Nat) : nv (List.replicate W 0 ++ [2 ^ r]) = 2 ^ (16 * W + r) := by
  rw [nv_append, nv_noughts, List.length_replicate, Nat.pow_add, Nat.pow_mul]
  simp [nv]
theorem two_set (W d : Nat) : (dc (List.replicate (W + 1) 0)).set W (.int .u16 (d : Int)) = dc (List.replicate W 0 ++ [d]) := by
  rw [dc_set, List.replicate_succ']
  rw [List.set_append_right _ _ (by rw [List.length_replicate]; exact Nat.le_refl _), List.length_replicate, Nat.sub_self, List.set_cons_zero]
end Go.Proofs.YtojpfmlmalmlcaaGreatDoor.G
