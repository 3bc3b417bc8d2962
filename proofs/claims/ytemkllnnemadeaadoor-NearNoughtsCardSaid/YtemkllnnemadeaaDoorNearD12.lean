/-
  What near's isDigits and Read do: Read by its one answer. No condition but the text's length, and that the package-level variables hold what the statements list.
-/
import Derived.Test.YtemkllnnemadeaaDoorNearC12
import Derived.Test.YtemkllnnemadeaaDoorNearAns12
import Derived.Test.YtemkllnnemadeaaDoorNLaid
namespace Go.Proofs.YtemkllnnemadeaaDoor
open Go.RowKit

set_option maxHeartbeats 2000000 in
theorem nearDigits_any (s : List UInt8) (hs : s.length ≤ 1000000000) (w : World) :
    Calls Tryd.prog 15 #[.string ⟨s.toArray⟩] w fun e w' => e = .returned (.bool (digs s)) ∧ w' = w := by
  obtain ⟨r, hr⟩ : ∃ r, r = digs s := ⟨_, rfl⟩
  rw [← hr]
  have HR : Hid (r = ((s.drop 0).all isD && !s.isEmpty)) := hr
  clear hr
  obtain ⟨N, hN⟩ : ∃ N, N = s.length := ⟨_, rfl⟩
  have HN := Lib.hid hN
  have HNb : Hid (N ≤ 1000000000) := show _ ≤ _ by rw [hN]; exact hs
  clear hN hs
  have hemp : Hid ((s != []) = !s.isEmpty) := show _ = _ by cases s <;> rfl
  go_enter Tryd.func15, Tryd.ntmps15
  go_wp2_with fail
  go_loopw [6] (fun i wr => wr = w ∧ ∃ k : Nat, k ≤ N ∧ i = .int .i64 (k : Int) ∧ r = ((s.drop k).all isD && !s.isEmpty)) (fun i _ => N - (intOf i).toNat)
  case atStart => exact ⟨rfl, 0, by omega, rfl, HR.out⟩
  case round =>
    obtain ⟨rfl, k, hk, rfl, hf⟩ := hrel
    have HF := Lib.hid hf
    have hkb : k ≤ 1000000000 := by have := HNb.out; omega
    clear hf
    by_cases hlt : k < N
    · have d1 : decide ((k : Int) < (s.length : Int)) = true := by rw [← HN.out]; simp; omega
      have d1n : decide (k < s.length) = true := by rw [← HN.out]; simpa using hlt
      have x1 := at_txt s .i64 (k : Int) k rfl (by rw [← HN.out]; exact hlt) wr
      have HA := Lib.hid (all_drop (s := s) (k := k) (by rw [← HN.out]; exact hlt))
      generalize s.getD k 0 = c at x1 HA
      by_cases c1 : c.toNat < 48
      · have d2 : decide ((c.toNat : Int) < 48) = true := by simp; omega
        have HE : Hid (r = false) := show _ = _ by rw [HF.out, HA.out, isD_low c1]; rfl
        clear HA HF c1
        go_wp2_with fail
        go_ret
        exact ⟨by rw [HE.out]; rfl, rfl⟩
      · have d2 : decide ((c.toNat : Int) < 48) = false := by simp; omega
        by_cases c2 : 57 < c.toNat
        · have d3 : decide (57 < (c.toNat : Int)) = true := by simp; omega
          have HE : Hid (r = false) := show _ = _ by rw [HF.out, HA.out, isD_high c2]; rfl
          clear HA HF c1 c2
          go_wp2_with fail
          go_ret
          exact ⟨by rw [HE.out]; rfl, rfl⟩
        · have d3 : decide (57 < (c.toNat : Int)) = false := by simp; omega
          have HE : Hid (r = ((s.drop (k + 1)).all isD && !s.isEmpty)) := show _ = _ by rw [HF.out, HA.out, isD_mid c1 c2]; rfl
          clear HA HF c1 c2
          go_wp2_with fail
          go_roundw
          case rel => exact ⟨trivial, k + 1, by omega, ret_val (by omega), HE.out⟩
          case measure => simp [intOf]; omega
    · obtain rfl : k = N := by omega
      have d1 : decide ((k : Int) < (s.length : Int)) = false := by rw [← HN.out]; simp
      have d1n : decide (k < s.length) = false := by rw [← HN.out]; simp
      have HE : Hid (r = !s.isEmpty) := show _ = _ by rw [HF.out, List.drop_eq_nil_of_le (by rw [← HN.out]; omega)]; rfl
      clear HF
      go_wp2_with fail
      go_ret
      exact ⟨by rw [HE.out]; rfl, rfl⟩


/-- What near's calls lean on. -/
structure L12 (w : World) : Prop where
  tab : Laid w
  most : LaidW w
theorem L12.after {w w' : World} (h : L12 w) (hb : Below w.heap.size w w') : L12 w' := ⟨h.tab.after hb, h.most.after hb⟩

theorem near_some {O U : Nat} (hO : O ≠ 0) (hU : U ≠ 0) : ∃ p, NearIs (O * uu 1074) U p := ⟨_, near_unit (G.len2_bv rfl hO) (G.len2_bv rfl hU) rfl⟩
theorem ten_lt {e N : Nat} (h : 4 * e + 1 ≤ N) : 10 ^ e < 2 ^ N := Nat.lt_of_le_of_lt (G.ten_two (Nat.le_refl _)) (Nat.pow_lt_pow_right (by decide) (by omega))
theorem digs_of {l : List UInt8} (h : Dgs l) (h1 : 1 ≤ l.length) : digs l = true := digs_iff.2 ⟨fun c hc => by have := h c hc; unfold isD12 at this; exact decide_eq_true this, fun h0 => by subst h0; simp at h1⟩

set_option maxHeartbeats 4000000 in
/-- The last way: within bounds. -/
theorem read_in (f : List UInt8) (X : Int) (y : Int) (w : World) (p : Nat) (h : Dgs f) (h0 : f ≠ []) (hl : f.length ≤ 300) (hz : f.getD 0 0 ≠ 48) (hX : -323 ≤ X ∧ X ≤ 309) (hy : y = X - (f.length : Int)) (hL : Laid w) (hp : NearIs (dA f X) (dB f X) p) :
    Hid (Calls Tryd.prog 18 #[.string ⟨f.toArray⟩, .int .i64 y] w fun e w' => ∃ (R : Option Addr) (n k : Nat) (S : Option Addr) (m j : Nat), e = .returned (.tuple #[.slice R n k, .slice S m j]) ∧ Below w.heap.size w w' ∧
      Hid (Calls Tryd.prog 17 #[.slice R n k, .slice S m j] w' fun e w2 => e = .returned (.tuple #[.int .u64 ((rdP p : Nat) : Int), .bool (rdB p)]) ∧ Below w'.heap.size w' w2)) := by
  refine Lib.hid ?_
  have hf : 0 < f.length := by cases f with
    | nil => exact absurd rfl h0
    | cons c m => simp
  refine (G.fraction_any f y w h h0 hl hz (by omega)).mono ?_
  rintro e w' ⟨R, k, S, j, rfl, D1, D2, B⟩
  refine ⟨R, _, k, S, _, j, rfl, B, Lib.hid ?_⟩
  have hd : dA f X = nd f * 10 ^ y.toNat * uu 1074 ∧ dB f X = 10 ^ (-y).toNat := by
    unfold dA dB
    rw [hy]
    exact ⟨rfl, by congr 1; omega⟩
  rw [hd.1, hd.2] at hp
  have hn0 : 0 < nd f := Nat.lt_of_lt_of_le (ten_pos _) (nd_ge h h0 hz)
  have hO : nd f * 10 ^ y.toNat ≠ 0 := by have := Nat.mul_pos hn0 (ten_pos y.toNat); omega
  have hU : 10 ^ (-y).toNat ≠ 0 := by have := ten_pos (-y).toNat; omega
  have bO : nd f * 10 ^ y.toNat < 2 ^ (4 * (f.length + y.toNat) + 1) := by
    have s1 : nd f * 10 ^ y.toNat < 10 ^ f.length * 10 ^ y.toNat := Nat.mul_lt_mul_of_pos_right (nd_lt h) (ten_pos _)
    rw [← Nat.pow_add] at s1
    exact Nat.lt_trans s1 (ten_lt (Nat.le_refl _))
  obtain ⟨q, hq, c⟩ := G.nearest_any R _ k _ S _ j _ w' D1 D2 hO hU bO (by omega) (ten_lt (Nat.le_refl _)) (by omega) (hL.after B)
  cases near_one (by omega) hp hq
  exact c

set_option maxHeartbeats 4000000 in
theorem read_good (ds : List UInt8) (x : Int) (w : World) (hx : -9223372036854775808 ≤ x ∧ x ≤ 9223372036854775807) (h1 : 1 ≤ ds.length) (h2 : ds.length ≤ 300) (h : Dgs ds) (hL : Laid w) :
    Calls Tryd.prog 9 #[.string ⟨ds.toArray⟩, .int .i64 x] w fun r w' => (∃ p, NearIs (dA ds x) (dB ds x) p ∧ r = .returned (.tuple #[.int .u64 ((rdP p : Nat) : Int), .bool (rdB p)])) ∧ Below w.heap.size w w' := by
  have d1 : decide (300 < (ds.length : Int)) = false := by simp; omega
  have d1n : decide (300 < ds.length) = false := by simp; omega
  have cI := Lib.hid fun w => nearDigits_any ds (by omega) w
  rw [digs_of h h1] at cI
  have cT := Lib.hid fun w => trimLeft_any ds w
  obtain ⟨k, hk, hf0⟩ := front_split ds
  generalize Lib.trimLeftB ds 48 = f at *
  have hlen : ds.length = k + f.length := by rw [hk]; simp
  have hdf : Dgs f := by rw [hk] at h; exact h.right
  obtain ⟨ea, eb⟩ := noughts_ahead f k (x - (k : Int))
  rw [show x - (k : Int) + (k : Int) = x by omega, ← hk] at ea eb
  rw [ea, eb]
  obtain ⟨X0, hX0⟩ : ∃ X0 : Int, X0 = max x (-1000) := ⟨_, rfl⟩
  obtain ⟨X, hX⟩ : ∃ X : Int, X = X0 - (k : Int) := ⟨_, rfl⟩
  have w1 : wrap64 ((ds.length : Int) - (f.length : Int)) = (k : Int) := by unfold wrap64; omega
  have w2 : wrap64 (X0 - (k : Int)) = X := by unfold wrap64; omega
  obtain ⟨y, hy⟩ : ∃ y : Int, y = X - (f.length : Int) := ⟨_, rfl⟩
  have w3 : wrap64 (X - (f.length : Int)) = y := by unfold wrap64; omega
  have hL1 := Lib.hid hL
  -- what is answered
  have main : (f = [] ∧ NearIs (dA f (x - (k : Int))) (dB f (x - (k : Int))) 0) ∨ (f ≠ [] ∧ X < -323 ∧ NearIs (dA f (x - (k : Int))) (dB f (x - (k : Int))) 0) ∨
      (f ≠ [] ∧ ¬ X < -323 ∧ 309 < X ∧ NearIs (dA f (x - (k : Int))) (dB f (x - (k : Int))) 9218868437227405312) ∨
      (f ≠ [] ∧ ¬ X < -323 ∧ ¬ 309 < X ∧ ∃ p, NearIs (dA f (x - (k : Int))) (dB f (x - (k : Int))) p ∧ ∀ w, Laid w → Hid (Calls Tryd.prog 18 #[.string ⟨f.toArray⟩, .int .i64 y] w fun e w' => ∃ (R : Option Addr) (n k : Nat) (S : Option Addr) (m j : Nat), e = .returned (.tuple #[.slice R n k, .slice S m j]) ∧ Below w.heap.size w w' ∧
      Hid (Calls Tryd.prog 17 #[.slice R n k, .slice S m j] w' fun e w2 => e = .returned (.tuple #[.int .u64 ((rdP p : Nat) : Int), .bool (rdB p)]) ∧ Below w'.heap.size w' w2))) := by
    by_cases hf : f = []
    · left
      refine ⟨hf, ?_⟩
      rw [hf, dA_zero rfl]
      exact near_none (dB_pos _ _) (by omega)
    · right
      have hz : f.getD 0 0 ≠ 48 := by rcases hf0 with h | h; exact absurd h hf; exact h
      by_cases c1 : X < -323
      · left
        exact ⟨hf, c1, gone_dn hdf (by omega)⟩
      · right
        have hXx : X = x - (k : Int) := by omega
        rw [← hXx]
        have hfl : 1 ≤ f.length := by cases f with
          | nil => exact absurd rfl hf
          | cons c m => simp
        by_cases c2 : 309 < X
        · left
          exact ⟨hf, c1, c2, gone_up (nd_ge hdf hf hz) hfl c2⟩
        · right
          have hn0 : 0 < nd f := Nat.lt_of_lt_of_le (ten_pos _) (nd_ge hdf hf hz)
          have hO : nd f * 10 ^ (X - (f.length : Int)).toNat ≠ 0 := by have := Nat.mul_pos hn0 (ten_pos (X - (f.length : Int)).toNat); omega
          have hU : 10 ^ ((f.length : Int) - X).toNat ≠ 0 := by have := ten_pos ((f.length : Int) - X).toNat; omega
          obtain ⟨p, hp⟩ := near_some hO hU
          exact ⟨hf, c1, c2, p, hp, fun w hL => read_in f X y w p hdf hf (by omega) hz (by omega) hy hL hp⟩
  clear ea eb hk hf0 hlen hdf hX hy h h1 h2 hL hx
  generalize dA f (x - (k : Int)) = DA at *
  generalize dB f (x - (k : Int)) = DB at *
  have HM := Lib.hid hX0.symm
  have W2 := Lib.hid w2
  clear hX0 w2
  go_enter Tryd.func9, Tryd.ntmps9
  go_upto_region 4 with (first
    | (go_at_call 15; refine (cI.out _).mono ?_; rintro e w5 ⟨rfl, hw5⟩; subst w5)
    | (go_at_call 16; refine (cT.out _).mono ?_; rintro e w5 ⟨rfl, hw5⟩; subst w5))
  clear cI cT d1 d1n
  go_cut [1] (fun v wx => wx = w ∧ v = .int .i64 X)
  case first =>
    go_wp2_with fail
    go_meet
    exact ⟨rfl, by rw [HM.out, W2.out]⟩
  case rest =>
  clear HM W2 w1
  obtain ⟨rfl, rfl⟩ := hcut
  rcases main with ⟨rfl, hp⟩ | ⟨hf, hc, hp⟩ | ⟨hf, hc, hc2, hp⟩ | ⟨hf, hc, hc2, p, hp, hc3⟩
  · have HP := Lib.hid hp
    clear hp w3
    go_wp2_with fail
    go_ret2
    exact ⟨⟨0, HP.out, rfl⟩, Below.refl _ _⟩
  · have HP := Lib.hid hp
    have e1 : (f == []) = false := by simpa using hf
    have e2 : decide (X < -323) = true := (by simp; omega)
    clear hp w3 hc
    go_wp2_with fail
    go_ret2
    exact ⟨⟨0, HP.out, rfl⟩, Below.refl _ _⟩
  · have HP := Lib.hid hp
    have e1 : (f == []) = false := by simpa using hf
    have e2 : decide (X < -323) = false := (by simp; omega)
    have e3 : decide (309 < X) = true := (by simp; omega)
    clear hp w3 hc hc2
    go_wp2_with fail
    go_ret2
    exact ⟨⟨9218868437227405312, HP.out, rfl⟩, Below.refl _ _⟩
  · have HP := Lib.hid hp
    have e1 : (f == []) = false := by simpa using hf
    have e2 : decide (X < -323) = false := (by simp; omega)
    have e3 : decide (309 < X) = false := (by simp; omega)
    have c3 := Lib.hid (hc3 _ hL1.out)
    clear hp hc hc2 hc3
    go_wp2_with fail
    refine c3.out.out.mono ?_
    rintro e w2 ⟨R, n, k2, S, m, j, rfl, B1, hN⟩
    have HB1 := Lib.hid B1
    clear B1 c3
    go_wp2_with fail
    refine hN.out.mono ?_
    rintro e w3 ⟨rfl, B2⟩
    have HB2 := Lib.hid (HB1.out.trans (B2.mono HB1.out.size))
    clear B2 hN HB1
    go_wp2_with fail
    go_ret2
    exact ⟨⟨p, HP.out, rfl⟩, HB2.out⟩

end Go.Proofs.YtemkllnnemadeaaDoor
