/-
  What near's isDigits and Read do: Read by its one answer. No condition but the text's length, and that the package-level variables hold what the statements list.
  What near's power, parts and Parse do: Parse by its one answer. No condition but the text's length, and that the package-level variables hold what the statements list.
  What near's Read and Parse do, each by its one answer. No condition but the texts' lengths, and that the package-level variables hold what the statements list.
-/
import Derived.Test.YtojpfmlmalmlcaaGreatDoorNearC12
import Derived.Test.YtojpfmlmalmlcaaGreatDoorNearPure
import Derived.Test.YtojpfmlmalmlcaaGreatDoorNLaid
namespace Go.Proofs.YtojpfmlmalmlcaaGreatDoor
open Go.RowKit
set_option maxHeartbeats 2000000 in
theorem nearDigits_any (s : List UInt8) (hs : s.length ≤ 1000000000) (w : World) :
    Calls Tryz.prog 33 #[.string ⟨s.toArray⟩] w fun e w' => e = .returned (.bool (digs s)) ∧ w' = w := by
  obtain ⟨r, hr⟩ : ∃ r, r = digs s := ⟨_, rfl⟩
  rw [← hr]
  have HR : Hid (r = ((s.drop 0).all isD && !s.isEmpty)) := hr
  clear hr
  obtain ⟨N, hN⟩ : ∃ N, N = s.length := ⟨_, rfl⟩
  have HN := Lib.hid hN
  have HNb : Hid (N ≤ 1000000000) := show _ ≤ _ by rw [hN]; exact hs
  clear hN hs
  have hemp : Hid ((s != []) = !s.isEmpty) := show _ = _ by cases s <;> rfl
  go_enter Tryz.func33, Tryz.ntmps33
  go_wp2_with fail
  go_loopw [6] (fun i wr => wr = w ∧ ∃ k : Nat, k ≤ N ∧ i = .int .i64 (k : Int) ∧ r = ((s.drop k).all isD && !s.isEmpty)) (fun i _ => N - (intOf i).toNat)
  case atStart => exact ⟨rfl, 0, by omega, rfl, HR.out⟩
  case round =>
    obtain ⟨rfl, k, hk, rfl, hf⟩ := hrel
    have HF := Lib.hid hf
    have hkb : k ≤ 1000000000 := by have := HNb.out; omega
    clear hf
    by_cases hlt : k < N
    · have d1 : decide ((k : Int) < (s.length : Int)) = true := by rw [← HN.out]; simp; omega
      have d1n : decide (k < s.length) = true := by rw [← HN.out]; simpa using hlt
      have x1 := at_txt s .i64 (k : Int) k rfl (by rw [← HN.out]; exact hlt) wr
      have HA := Lib.hid (all_drop (s := s) (k := k) (by rw [← HN.out]; exact hlt))
      generalize s.getD k 0 = c at x1 HA
      by_cases c1 : c.toNat < 48
      · have d2 : decide ((c.toNat : Int) < 48) = true := by simp; omega
        have HE : Hid (r = false) := show _ = _ by rw [HF.out, HA.out, isD_low c1]; rfl
        clear HA HF c1
        go_wp2_with fail
        go_ret
        exact ⟨by rw [HE.out]; rfl, rfl⟩
      · have d2 : decide ((c.toNat : Int) < 48) = false := by simp; omega
        by_cases c2 : 57 < c.toNat
        · have d3 : decide (57 < (c.toNat : Int)) = true := by simp; omega
          have HE : Hid (r = false) := show _ = _ by rw [HF.out, HA.out, isD_high c2]; rfl
          clear HA HF c1 c2
          go_wp2_with fail
          go_ret
          exact ⟨by rw [HE.out]; rfl, rfl⟩
        · have d3 : decide (57 < (c.toNat : Int)) = false := by simp; omega
          have HE : Hid (r = ((s.drop (k + 1)).all isD && !s.isEmpty)) := show _ = _ by rw [HF.out, HA.out, isD_mid c1 c2]; rfl
          clear HA HF c1 c2
          go_wp2_with fail
          go_roundw
          case rel => exact ⟨trivial, k + 1, by omega, ret_val (by omega), HE.out⟩
          case measure => simp [intOf]; omega
    · obtain rfl : k = N := by omega
      have d1 : decide ((k : Int) < (s.length : Int)) = false := by rw [← HN.out]; simp
      have d1n : decide (k < s.length) = false := by rw [← HN.out]; simp
      have HE : Hid (r = !s.isEmpty) := show _ = _ by rw [HF.out, List.drop_eq_nil_of_le (by rw [← HN.out]; omega)]; rfl
      clear HF
      go_wp2_with fail
      go_ret
      exact ⟨by rw [HE.out]; rfl, rfl⟩
/-- What near's calls lean on. -/
structure L12 (w : World) : Prop where
  tab : Laid w
  most : LaidW w
theorem L12.after {w w' : World} (h : L12 w) (hb : Below w.heap.size w w') : L12 w' := ⟨h.tab.after hb, h.most.after hb⟩
theorem near_some {O U : Nat} (hO : O ≠ 0) (hU : U ≠ 0) : ∃ p, NearIs (O * uu 1074) U p := ⟨_, near_unit (G.len2_bv rfl hO) (G.len2_bv rfl hU) rfl⟩
theorem ten_lt {e N : Nat} (h : 4 * e + 1 ≤ N) : 10 ^ e < 2 ^ N := Nat.lt_of_le_of_lt (G.ten_two (Nat.le_refl _)) (Nat.pow_lt_pow_right (by decide) (by omega))
theorem digs_of {l : List UInt8} (h : Dgs l) (h1 : 1 ≤ l.length) : digs l = true := digs_iff.2 ⟨fun c hc => by have := h c hc; unfold isD12 at this; exact decide_eq_true this, fun h0 => by subst h0; simp at h1⟩
set_option maxHeartbeats 4000000 in
/-- The last way: within bounds. -/
theorem read_in (f : List UInt8) (X : Int) (y : Int) (w : World) (p : Nat) (h : Dgs f) (h0 : f ≠ []) (hl : f.length ≤ 300) (hz : f.getD 0 0 ≠ 48) (hX : -323 ≤ X ∧ X ≤ 309) (hy : y = X - (f.length : Int)) (hL : Laid w) (hp : NearIs (dA f X) (dB f X) p) :
    Hid (Calls Tryz.prog 36 #[.string ⟨f.toArray⟩, .int .i64 y] w fun e w' => ∃ (R : Option Addr) (n k : Nat) (S : Option Addr) (m j : Nat), e = .returned (.tuple #[.slice R n k, .slice S m j]) ∧ Below w.heap.size w w' ∧
      Hid (Calls Tryz.prog 35 #[.slice R n k, .slice S m j] w' fun e w2 => e = .returned (.tuple #[.int .u64 ((rdP p : Nat) : Int), .bool (rdB p)]) ∧ Below w'.heap.size w' w2)) := by
  refine Lib.hid ?_
  have hf : 0 < f.length := by cases f with
    | nil => exact absurd rfl h0
    | cons c m => simp
  refine (G.fraction_any f y w h h0 hl hz (by omega)).mono ?_
  rintro e w' ⟨R, k, S, j, rfl, D1, D2, B⟩
  refine ⟨R, _, k, S, _, j, rfl, B, Lib.hid ?_⟩
  have hd : dA f X = nd f * 10 ^ y.toNat * uu 1074 ∧ dB f X = 10 ^ (-y).toNat := by
    unfold dA dB
    rw [hy]
    exact ⟨rfl, by congr 1; omega⟩
  rw [hd.1, hd.2] at hp
  have hn0 : 0 < nd f := Nat.lt_of_lt_of_le (ten_pos _) (nd_ge h h0 hz)
  have hO : nd f * 10 ^ y.toNat ≠ 0 := by have := Nat.mul_pos hn0 (ten_pos y.toNat); omega
  have hU : 10 ^ (-y).toNat ≠ 0 := by have := ten_pos (-y).toNat; omega
  have bO : nd f * 10 ^ y.toNat < 2 ^ (4 * (f.length + y.toNat) + 1) := by
    have s1 : nd f * 10 ^ y.toNat < 10 ^ f.length * 10 ^ y.toNat := Nat.mul_lt_mul_of_pos_right (nd_lt h) (ten_pos _)
    rw [← Nat.pow_add] at s1
    exact Nat.lt_trans s1 (ten_lt (Nat.le_refl _))
  obtain ⟨q, hq, c⟩ := G.nearest_any R _ k _ S _ j _ w' D1 D2 hO hU bO (by omega) (ten_lt (Nat.le_refl _)) (by omega) (hL.after B)
  cases near_one (by omega) hp hq
  exact c
set_option maxHeartbeats 4000000 in
theorem read_good (ds : List UInt8) (x : Int) (w : World) (hx : -9223372036854775808 ≤ x ∧ x ≤ 9223372036854775807) (h1 : 1 ≤ ds.length) (h2 : ds.length ≤ 300) (h : Dgs ds) (hL : Laid w) :
    Calls Tryz.prog 16 #[.string ⟨ds.toArray⟩, .int .i64 x] w fun r w' => (∃ p, NearIs (dA ds x) (dB ds x) p ∧ r = .returned (.tuple #[.int .u64 ((rdP p : Nat) : Int), .bool (rdB p)])) ∧ Below w.heap.size w w' := by
  have d1 : decide (300 < (ds.length : Int)) = false := by simp; omega
  have d1n : decide (300 < ds.length) = false := by simp; omega
  have cI := Lib.hid fun w => nearDigits_any ds (by omega) w
  rw [digs_of h h1] at cI
  have cT := Lib.hid fun w => trimLeft_any ds w
  obtain ⟨k, hk, hf0⟩ := front_split ds
  generalize Lib.trimLeftB ds 48 = f at *
  have hlen : ds.length = k + f.length := by rw [hk]; simp
  have hdf : Dgs f := by rw [hk] at h; exact h.right
  obtain ⟨ea, eb⟩ := noughts_ahead f k (x - (k : Int))
  rw [show x - (k : Int) + (k : Int) = x by omega, ← hk] at ea eb
  rw [ea, eb]
  obtain ⟨X0, hX0⟩ : ∃ X0 : Int, X0 = max x (-1000) := ⟨_, rfl⟩
  obtain ⟨X, hX⟩ : ∃ X : Int, X = X0 - (k : Int) := ⟨_, rfl⟩
  have w1 : wrap64 ((ds.length : Int) - (f.length : Int)) = (k : Int) := by unfold wrap64; omega
  have w2 : wrap64 (X0 - (k : Int)) = X := by unfold wrap64; omega
  obtain ⟨y, hy⟩ : ∃ y : Int, y = X - (f.length : Int) := ⟨_, rfl⟩
  have w3 : wrap64 (X - (f.length : Int)) = y := by unfold wrap64; omega
  have hL1 := Lib.hid hL
  -- what is answered
  have main : (f = [] ∧ NearIs (dA f (x - (k : Int))) (dB f (x - (k : Int))) 0) ∨ (f ≠ [] ∧ X < -323 ∧ NearIs (dA f (x - (k : Int))) (dB f (x - (k : Int))) 0) ∨
      (f ≠ [] ∧ ¬ X < -323 ∧ 309 < X ∧ NearIs (dA f (x - (k : Int))) (dB f (x - (k : Int))) 9218868437227405312) ∨
      (f ≠ [] ∧ ¬ X < -323 ∧ ¬ 309 < X ∧ ∃ p, NearIs (dA f (x - (k : Int))) (dB f (x - (k : Int))) p ∧ ∀ w, Laid w → Hid (Calls Tryz.prog 36 #[.string ⟨f.toArray⟩, .int .i64 y] w fun e w' => ∃ (R : Option Addr) (n k : Nat) (S : Option Addr) (m j : Nat), e = .returned (.tuple #[.slice R n k, .slice S m j]) ∧ Below w.heap.size w w' ∧
      Hid (Calls Tryz.prog 35 #[.slice R n k, .slice S m j] w' fun e w2 => e = .returned (.tuple #[.int .u64 ((rdP p : Nat) : Int), .bool (rdB p)]) ∧ Below w'.heap.size w' w2))) := by
    by_cases hf : f = []
    · left
      refine ⟨hf, ?_⟩
      rw [hf, dA_zero rfl]
      exact near_none (dB_pos _ _) (by omega)
    · right
      have hz : f.getD 0 0 ≠ 48 := by rcases hf0 with h | h; exact absurd h hf; exact h
      by_cases c1 : X < -323
      · left
        exact ⟨hf, c1, gone_dn hdf (by omega)⟩
      · right
        have hXx : X = x - (k : Int) := by omega
        rw [← hXx]
        have hfl : 1 ≤ f.length := by cases f with
          | nil => exact absurd rfl hf
          | cons c m => simp
        by_cases c2 : 309 < X
        · left
          exact ⟨hf, c1, c2, gone_up (nd_ge hdf hf hz) hfl c2⟩
        · right
          have hn0 : 0 < nd f := Nat.lt_of_lt_of_le (ten_pos _) (nd_ge hdf hf hz)
          have hO : nd f * 10 ^ (X - (f.length : Int)).toNat ≠ 0 := by have := Nat.mul_pos hn0 (ten_pos (X - (f.length : Int)).toNat); omega
          have hU : 10 ^ ((f.length : Int) - X).toNat ≠ 0 := by have := ten_pos ((f.length : Int) - X).toNat; omega
          obtain ⟨p, hp⟩ := near_some hO hU
          exact ⟨hf, c1, c2, p, hp, fun w hL => read_in f X y w p hdf hf (by omega) hz (by omega) hy hL hp⟩
  clear ea eb hk hf0 hlen hdf hX hy h h1 h2 hL hx
  generalize dA f (x - (k : Int)) = DA at *
  generalize dB f (x - (k : Int)) = DB at *
  have HM := Lib.hid hX0.symm
  have W2 := Lib.hid w2
  clear hX0 w2
  go_enter Tryz.func16, Tryz.ntmps16
  go_upto_region 4 with (first
    | (go_at_call 33; refine (cI.out _).mono ?_; rintro e w5 ⟨rfl, hw5⟩; subst w5)
    | (go_at_call 34; refine (cT.out _).mono ?_; rintro e w5 ⟨rfl, hw5⟩; subst w5))
  clear cI cT d1 d1n
  go_cut [1] (fun v wx => wx = w ∧ v = .int .i64 X)
  case first =>
    go_wp2_with fail
    go_meet
    exact ⟨rfl, by rw [HM.out, W2.out]⟩
  case rest =>
  clear HM W2 w1
  obtain ⟨rfl, rfl⟩ := hcut
  rcases main with ⟨rfl, hp⟩ | ⟨hf, hc, hp⟩ | ⟨hf, hc, hc2, hp⟩ | ⟨hf, hc, hc2, p, hp, hc3⟩
  · have HP := Lib.hid hp
    clear hp w3
    go_wp2_with fail
    go_ret2
    exact ⟨⟨0, HP.out, rfl⟩, Below.refl _ _⟩
  · have HP := Lib.hid hp
    have e1 : (f == []) = false := by simpa using hf
    have e2 : decide (X < -323) = true := (by simp; omega)
    clear hp w3 hc
    go_wp2_with fail
    go_ret2
    exact ⟨⟨0, HP.out, rfl⟩, Below.refl _ _⟩
  · have HP := Lib.hid hp
    have e1 : (f == []) = false := by simpa using hf
    have e2 : decide (X < -323) = false := (by simp; omega)
    have e3 : decide (309 < X) = true := (by simp; omega)
    clear hp w3 hc hc2
    go_wp2_with fail
    go_ret2
    exact ⟨⟨9218868437227405312, HP.out, rfl⟩, Below.refl _ _⟩
  · have HP := Lib.hid hp
    have e1 : (f == []) = false := by simpa using hf
    have e2 : decide (X < -323) = false := (by simp; omega)
    have e3 : decide (309 < X) = false := (by simp; omega)
    have c3 := Lib.hid (hc3 _ hL1.out)
    clear hp hc hc2 hc3
    go_wp2_with fail
    refine c3.out.out.mono ?_
    rintro e w2 ⟨R, n, k2, S, m, j, rfl, B1, hN⟩
    have HB1 := Lib.hid B1
    clear B1 c3
    go_wp2_with fail
    refine hN.out.mono ?_
    rintro e w3 ⟨rfl, B2⟩
    have HB2 := Lib.hid (HB1.out.trans (B2.mono HB1.out.size))
    clear B2 hN HB1
    go_wp2_with fail
    go_ret2
    exact ⟨⟨p, HP.out, rfl⟩, HB2.out⟩
end Go.Proofs.YtojpfmlmalmlcaaGreatDoor

namespace Go.Proofs.YtojpfmlmalmlcaaGreatDoor
open Go.RowKit
/-- The exponent as near has it: not beyond 1000. -/
def pwN (y : List UInt8) : Nat := min (nd y) 1000
theorem pwN_step {y : List UInt8} {i : Nat} (h : i < y.length) : pwN (y.take (i + 1)) = min (10 * pwN (y.take i) + dv (y.getD i 0)) 1000 := by
  have e : y.take (i + 1) = y.take i ++ [y.getD i 0] := by rw [List.take_add_one]; simp [List.getD, h]
  unfold pwN
  rw [e, nd_snoc]
  omega
set_option maxHeartbeats 2000000 in
theorem power_loop (x y z : List UInt8) (b : Bool) (w : World) (hy : Dgs y) (hl : y.length ≤ 1000)
    (cC : Hid (∀ w, Calls Tryz.prog 30 #[.string ⟨x.toArray⟩, .string ⟨#[45]⟩] w fun e w' => e = .returned (.tuple #[.string ⟨z.toArray⟩, .bool b]) ∧ w' = w))
    (cT : Hid (∀ w, Calls Tryz.prog 53 #[.string ⟨z.toArray⟩, .string ⟨#[43]⟩] w fun e w' => e = .returned (.string ⟨y.toArray⟩) ∧ w' = w)) :
    Calls Tryz.prog 58 #[.string ⟨x.toArray⟩] w fun e w' => e = .returned (.int .i64 (if b then -((pwN y : Nat) : Int) else ((pwN y : Nat) : Int))) ∧ w' = w := by
  obtain ⟨N, hN⟩ : ∃ N, N = y.length := ⟨_, rfl⟩
  have HN := Lib.hid hN; have HY := Lib.hid hy
  obtain ⟨P, hP⟩ : ∃ P, P = pwN y := ⟨_, rfl⟩
  rw [← hP]
  have HPb : Hid (P ≤ 1000) := show _ ≤ _ by rw [hP]; unfold pwN; omega
  have HP := Lib.hid hP
  clear hP
  have HNb : Hid (N ≤ 1000) := show _ ≤ _ by rw [hN]; exact hl
  clear hN hl hy
  go_enter Tryz.func58, Tryz.ntmps58
  go_wp2_with fail
  refine (cC.out _).mono ?_
  rintro e w5 ⟨rfl, hw5⟩; subst w5
  go_wp2_with fail
  refine (cT.out _).mono ?_
  rintro e w5 ⟨rfl, hw5⟩; subst w5
  clear cC cT
  go_wp2_with fail
  go_loopw [5, 16] (fun v i wr => wr = w ∧ ∃ k : Nat, k ≤ N ∧ i = .int .i64 (k : Int) ∧ v = .int .i64 ((pwN (y.take k) : Nat) : Int)) (fun _ i _ => N - (intOf i).toNat)
  case atStart => exact ⟨rfl, 0, by omega, rfl, rfl⟩
  case round =>
    obtain ⟨rfl, k, hk, rfl, rfl⟩ := hrel
    by_cases hlt : k < N
    · have d1 : decide ((k : Int) < (y.length : Int)) = true := by rw [← HN.out]; simp; omega
      have d1n : decide (k < y.length) = true := by rw [← HN.out]; simpa using hlt
      have hky : k < y.length := by rw [← HN.out]; exact hlt
      have x1 := at_txt y .i64 (k : Int) k rfl hky wr
      have hs := pwN_step hky
      have hc : isD12 (y.getD k 0) := HY.out _ (by
        have : y.getD k 0 = y[k] := by simp [List.getD, hky]
        rw [this]; exact List.getElem_mem hky)
      have hkb : k ≤ 1000 := by have := HNb.out; omega
      generalize y.getD k 0 = c at *
      have hpb : pwN (y.take k) ≤ 1000 := by unfold pwN; omega
      obtain ⟨q, hq⟩ : ∃ q, q = pwN (y.take (k + 1)) := ⟨_, rfl⟩
      rw [← hq] at hs
      generalize pwN (y.take k) = p at *
      unfold isD12 at hc
      have hcb : c.toNat - 48 ≤ 9 := by omega
      unfold dv at hs
      obtain ⟨d, hd⟩ : ∃ d, d = c.toNat - 48 := ⟨_, rfl⟩
      rw [← hd] at hs hcb
      have e1 : IntKind.u8.wrap ((c.toNat : Int) - 48) = (d : Int) := by rw [IntKind.wrap_u8]; omega
      obtain ⟨A, hA⟩ : ∃ A : Int, A = 10 * (p : Int) := ⟨_, rfl⟩
      obtain ⟨S, hS⟩ : ∃ S : Int, S = A + (d : Int) := ⟨_, rfl⟩
      have E5 : Hid (min S 1000 = (q : Int)) := show _ = _ by omega
      have bA : -9223372036854775808 ≤ A ∧ A ≤ 9223372036854775807 := by omega
      have bS : -9223372036854775808 ≤ S ∧ S ≤ 9223372036854775807 := by omega
      have bd : -9223372036854775808 ≤ (d : Int) ∧ (d : Int) ≤ 9223372036854775807 := by omega
      have bk : -9223372036854775808 ≤ (k : Int) + 1 ∧ (k : Int) + 1 ≤ 9223372036854775807 := by omega
      have HQ : Hid (q = pwN (y.take (k + 1))) := hq
      have HK : Hid (k + 1 ≤ N) := hlt
      have HW : Hid (wrap64 ((k : Int) + 1) = ((k + 1 : Nat) : Int)) := show _ = _ by rw [in64 bk]; omega
      clear hs hq hc hcb hd hpb hkb hky hk hlt bk
      have e2 : wrap64 (10 * (p : Int)) = A := by rw [← hA]; exact in64 bA
      have e3 : wrap64 (d : Int) = (d : Int) := in64 bd
      have e4 : wrap64 (A + (d : Int)) = S := by rw [← hS]; exact in64 bS
      have e5 := E5.out
      clear bA bS bd hA hS E5
      go_wp2_with fail
      go_roundw
      case rel => exact ⟨trivial, k + 1, HK.out, by rw [HW.out], by rw [← HQ.out]⟩
      case measure => rw [HW.out]; have := HK.out; simp [intOf]; omega
    · obtain rfl : k = N := by omega
      have d1 : decide ((k : Int) < (y.length : Int)) = false := by rw [← HN.out]; simp
      have d1n : decide (k < y.length) = false := by rw [← HN.out]; simp
      have ht : pwN (y.take k) = P := by rw [HP.out, List.take_of_length_le (by rw [← HN.out]; omega)]
      rw [ht]
      have bp : -9223372036854775808 ≤ -(P : Int) ∧ -(P : Int) ≤ 9223372036854775807 := by have := HPb.out; omega
      have e1 : wrap64 (-(P : Int)) = -(P : Int) := in64 bp
      clear bp ht hk hlt
      cases b
      · go_wp2_with fail
        go_ret
        exact ⟨rfl, rfl⟩
      · go_wp2_with fail
        go_ret
        exact ⟨by first | rfl | (simp [e1]; done), rfl⟩
theorem no_minus {c : UInt8} {t : List UInt8} (h : c ≠ 45) : Lib.trimPrefix (c :: t) [45] = c :: t ∧ Lib.hasPrefix (c :: t) [45] = false := by
  have : Lib.hasPrefix (c :: t) [45] = false := by
    unfold Lib.hasPrefix
    simp [List.isPrefixOf, Ne.symm h]
  exact ⟨by unfold Lib.trimPrefix; rw [this]; rfl, this⟩
theorem no_plus {c : UInt8} {t : List UInt8} (h : c ≠ 43) : Lib.trimPrefix (c :: t) [43] = c :: t := by
  unfold Lib.trimPrefix Lib.hasPrefix
  simp [List.isPrefixOf, Ne.symm h]
theorem plus_digits {y : List UInt8} (hy : Dgs y) : Lib.trimPrefix y [43] = y := by
  cases y with
  | nil => rfl
  | cons c t => exact no_plus (by rintro rfl; exact absurd (hy 43 List.mem_cons_self).1 (by decide))
theorem minus_digits {y : List UInt8} (hy : Dgs y) : Lib.trimPrefix y [45] = y ∧ Lib.hasPrefix y [45] = false := by
  cases y with
  | nil => exact ⟨rfl, rfl⟩
  | cons c t => exact no_minus (by rintro rfl; exact absurd (hy 45 List.mem_cons_self).1 (by decide))
/-- The number of an exponent: a sign, or none, and digits. -/
theorem power_any (pl y : List UInt8) (w : World) (hp : pl = [] ∨ pl = [43] ∨ pl = [45]) (hy : Dgs y) (hl : y.length ≤ 1000) :
    Calls Tryz.prog 58 #[.string ⟨(pl ++ y).toArray⟩] w fun e w' => e = .returned (.int .i64 (if pl = [45] then -((pwN y : Nat) : Int) else ((pwN y : Nat) : Int))) ∧ w' = w := by
  obtain ⟨m1, m2⟩ := minus_digits hy
  have p1 := plus_digits hy
  rcases hp with rfl | rfl | rfl
  · have c1 := cutPrefix_any y
    have c2 := trimPlus_any y
    rw [m1, m2] at c1
    rw [p1] at c2
    exact power_loop y y y false w hy hl (Lib.hid c1) (Lib.hid c2)
  · have c1 := cutPrefix_any ([43] ++ y)
    have c2 := trimPlus_any ([43] ++ y)
    obtain ⟨n1, n2⟩ := no_minus (c := 43) (t := y) (by decide)
    rw [show [43] ++ y = 43 :: y from rfl, n1, n2] at c1
    rw [show Lib.trimPrefix ([43] ++ y) [43] = y by simp [Lib.trimPrefix, Lib.hasPrefix, List.isPrefixOf]] at c2
    exact power_loop _ y _ false w hy hl (Lib.hid c1) (Lib.hid c2)
  · have c1 := cutPrefix_any ([45] ++ y)
    have c2 := trimPlus_any y
    rw [show Lib.trimPrefix ([45] ++ y) [45] = y by simp [Lib.trimPrefix, Lib.hasPrefix, List.isPrefixOf], show Lib.hasPrefix ([45] ++ y) [45] = true by simp [Lib.hasPrefix, List.isPrefixOf]] at c1
    rw [p1] at c2
    exact power_loop _ y _ true w hy hl (Lib.hid c1) (Lib.hid c2)
set_option maxRecDepth 100000 in
set_option maxHeartbeats 4000000 in
theorem parts_core (s f x o t : List UInt8) (b pt : Bool) (v z : Int) (w : World) (hs : s.length ≤ 1000) (hc : cutE s = (f, x, b)) (hf : cutAt 46 f = (o, t, pt)) (hz : z = (o.length : Int) + v) (hv : -1000 ≤ v ∧ v ≤ 1000) (hL : LaidW w)
    (cP : Hid (∀ w, Calls Tryz.prog 58 #[.string ⟨x.toArray⟩] w fun e w' => e = .returned (.int .i64 v) ∧ w' = w)) :
    Calls Tryz.prog 31 #[.string ⟨s.toArray⟩] w fun e w' => e = .returned (.tuple #[.string ⟨(o ++ t).toArray⟩, .int .i64 z]) ∧ Below w.heap.size w w' := by
  have l1 : f.length ≤ 1000 := by have := (plain_le (l := s)).1; rw [hc] at this; exact Nat.le_trans this hs
  have l2 := cutAt_le 46 f
  rw [hf] at l2
  simp only at l2
  have cC := Lib.hid (fun (w : World) (hw : LaidW w) => let ⟨_, hm⟩ := hw.most; cut_any f 46 _ w (by omega) hm)
  rw [hf] at cC
  have wz : wrap64 ((o.length : Int) + v) = z := by rw [hz]; exact in64 (by omega)
  have hcat : ¬ 9223372036854775807 < o.length + t.length := by omega
  rw [← cat_s12]
  have HL := Lib.hid hL
  rw [indexAny_cutE] at hc
  have hlt := indexAny_lt [101, 69] s
  have c0 := fun w => look_any s w (by omega)
  generalize Lib.indexAny s [101, 69] = at0 at hc hlt c0
  have C0 := Lib.hid c0
  clear c0 hL
  by_cases h0 : at0 < 0
  · rw [if_pos h0] at hc
    have d0 : decide (0 ≤ at0) = false := by simp; omega
    obtain ⟨rfl, hc2⟩ := Prod.mk.inj hc
    obtain ⟨rfl, hbq⟩ := Prod.mk.inj hc2
    clear hbq hc hc2 hf hz hv h0 hlt hs l1 l2
    go_enter Tryz.func31, Tryz.ntmps31
    go_wp2_with fail
    refine (C0.out _).mono ?_
    rintro e w1 ⟨rfl, hb⟩
    have HB1 := Lib.hid hb
    have HL1 := Lib.hid (HL.out.after hb)
    clear hb C0
    go_wp2_with fail
    refine (cC.out _ HL1.out).mono ?_
    rintro e w2 ⟨rfl, nn, hw2⟩
    have HB2 : Hid (Below w.heap.size w w2) := by rw [hw2]; exact drawn_below HB1.out nn
    clear hw2 cC HB1
    go_wp2_with fail
    refine (cP.out _).mono ?_
    rintro e w3 ⟨rfl, hw3⟩; subst w3
    go_wp2_with fail
    go_ret2
    refine ⟨?_, HB2.out⟩
    first | (rw [← wz]; rfl) | (simp [wz]; done) | skip
  · rw [if_neg h0] at hc
    have d0 : decide (0 ≤ at0) = true := by simp; omega
    obtain ⟨k, rfl⟩ : ∃ k : Nat, at0 = (k : Int) := ⟨at0.toNat, by omega⟩
    rw [Int.toNat_natCast] at hc
    obtain ⟨e1, hc2⟩ := Prod.mk.inj hc
    obtain ⟨e2, hbq⟩ := Prod.mk.inj hc2
    clear hbq
    have hk : k < s.length := by omega
    have wk : IntKind.i64.wrap ((k : Int) + 1) = (k : Int) + 1 := by rw [IntKind.wrap_i64]; omega
    have x0 := fun (w : World) => slice_upto s k (by omega) w
    have x1 := fun (w : World) => slice_from s (k + 1) ((k : Int) + 1) (by omega) (by omega) w
    rw [e1] at x0
    rw [e2] at x1
    clear hc hc2 e1 e2 hf hz hv h0 hlt hs l1 l2 hk
    go_enter Tryz.func31, Tryz.ntmps31
    go_wp2_with fail
    refine (C0.out _).mono ?_
    rintro e w1 ⟨rfl, hb⟩
    have HB1 := Lib.hid hb
    clear hb C0
    go_wp2_with fail
    go_quiet (fail)
    have hb2 : Below w.heap.size w (w1.drewN nq) := drawn_below HB1.out nq
    generalize w1.drewN nq = w2 at hb2 ⊢
    have HB2 := Lib.hid hb2
    have HL1 := Lib.hid (HL.out.after hb2)
    clear hb2 HB1
    go_wp2_with fail
    refine (cC.out _ HL1.out).mono ?_
    rintro e w3 ⟨rfl, nn, hw3⟩
    have HB3 : Hid (Below w.heap.size w w3) := by rw [hw3]; exact drawn_below HB2.out nn
    clear hw3 cC HB2
    go_wp2_with fail
    refine (cP.out _).mono ?_
    rintro e w4 ⟨rfl, hw4⟩; subst w4
    go_wp2_with fail
    go_ret2
    refine ⟨?_, HB3.out⟩
    first | (rw [← wz]; rfl) | (simp [wz]; done) | skip
/-- The exponent brought within near's bounds. -/
def cEx (E : Int) : Int := max (-1000) (min E 1000)
theorem parts_jn (ip fr fp ex : List UInt8) (E : Int) (w : World) (hs : (ip ++ (fr ++ ex)).length ≤ 1000) (hip : digs ip = true) (hfr : (fr = [] ∧ fp = []) ∨ (fr = 46 :: fp ∧ digs fp = true))
    (hex : (ex = [] ∧ E = 0) ∨ ∃ (c : UInt8) (pl x : List UInt8), ex = c :: (pl ++ x) ∧ isE c = true ∧ (pl = [] ∨ pl = [43] ∨ pl = [45]) ∧ digs x = true ∧ E = if pl = [45] then -(nd x : Int) else (nd x : Int)) (hL : LaidW w) :
    Calls Tryz.prog 31 #[.string ⟨(ip ++ (fr ++ ex)).toArray⟩] w fun e w' => e = .returned (.tuple #[.string ⟨(ip ++ fp).toArray⟩, .int .i64 ((ip.length : Int) + cEx E)]) ∧ Below w.heap.size w w' := by
  have i1 := (digs_iff.1 hip).1
  have noE : ∀ c ∈ ip ++ fr, isE c = false := by
    intro c hc
    rcases List.mem_append.1 hc with h | h
    · exact isE_of_isD (i1 c h)
    · rcases hfr with ⟨rfl, _⟩ | ⟨rfl, hf⟩
      · cases h
      · rcases List.mem_cons.1 h with rfl | h
        · decide
        · exact isE_of_isD ((digs_iff.1 hf).1 c h)
  have no46 : (46 : UInt8) ∉ ip := fun h => by have := i1 46 h; rw [isD_46] at this; cases this
  have hcut : ∃ pt, cutAt 46 (ip ++ fr) = (ip, fp, pt) := by
    rw [cutAt_pass fr no46]
    rcases hfr with ⟨rfl, rfl⟩ | ⟨rfl, _⟩
    · exact ⟨false, by simp [cutAt]⟩
    · exact ⟨true, by simp [cutAt]⟩
  obtain ⟨pt, hcut⟩ := hcut
  rcases hex with ⟨rfl, rfl⟩ | ⟨c, pl, x, rfl, hc, hp, hx, hE⟩
  · have hcE : cutE (ip ++ (fr ++ [])) = (ip ++ fr, [], false) := by rw [List.append_nil]; exact cutE_none noE
    exact parts_core _ _ _ _ _ _ _ 0 _ w hs hcE hcut (by rfl) (by decide) hL (Lib.hid fun w => power_any [] [] w (.inl rfl) (fun _ h => by cases h) (by decide))
  · have hcE : cutE (ip ++ (fr ++ (c :: (pl ++ x)))) = (ip ++ fr, pl ++ x, true) := by rw [← List.append_assoc]; exact cutE_of noE hc
    have hv : (if pl = [45] then -((pwN x : Nat) : Int) else ((pwN x : Nat) : Int)) = cEx E := by
      rw [hE]
      unfold cEx pwN
      split <;> omega
    have hxl : x.length ≤ 1000 := by
      simp only [List.length_append, List.length_cons] at hs
      omega
    have cP := fun w => power_any pl x w hp (digs_Dgs hx) hxl
    rw [hv] at cP
    exact parts_core _ _ _ _ _ _ _ (cEx E) _ w hs hcE hcut rfl (by unfold cEx; omega) hL (Lib.hid cP)
/-- With the exponent brought within bounds the same pattern is the nearest. -/
theorem great_up {l : List UInt8} {x : Int} (h0 : nd l ≠ 0) (hl : l.length ≤ 300) (hx : 1000 ≤ x) : NearIs (dA l x) (dB l x) 9218868437227405312 := by
  obtain ⟨n, hn⟩ : ∃ n, n = 2098 := ⟨_, rfl⟩
  refine near_beyond hn (dB_pos l x) ?_
  unfold dA dB
  obtain ⟨a, ha⟩ : ∃ a, a = 1024 := ⟨_, rfl⟩
  obtain ⟨b, hb⟩ : ∃ b, b = 400 := ⟨_, rfl⟩
  rw [uu_split (n := n) (a := a) (b := 1074) (by omega)]
  clear hn
  have p1 : 2 ^ a ≤ 10 ^ b := two_ten (k := 79) (by omega) (by omega)
  generalize 2 ^ a = P at *
  have e2 : ((l.length : Int) - x).toNat = 0 := by omega
  rw [e2, Nat.pow_zero, Nat.mul_one]
  have h1 : 1 ≤ nd l := by omega
  have s1 : 10 ^ b ≤ 10 ^ (x - (l.length : Int)).toNat := Nat.pow_le_pow_right (by decide) (by omega)
  have s2 : 1 * 10 ^ (x - (l.length : Int)).toNat ≤ nd l * 10 ^ (x - (l.length : Int)).toNat := Nat.mul_le_mul_right _ h1
  rw [Nat.one_mul] at s2
  exact Nat.mul_le_mul_right _ (Nat.le_trans p1 (Nat.le_trans s1 s2))
theorem near_cEx {l : List UInt8} {n : Nat} {E : Int} {p : Nat} (hd : Dgs l) (hl : l.length ≤ 300) (hn : n ≤ 300) (hp : NearIs (dA l ((n : Int) + cEx E)) (dB l ((n : Int) + cEx E)) p) : NearIs (dA l ((n : Int) + E)) (dB l ((n : Int) + E)) p := by
  by_cases h1 : E < -1000
  · have hx : cEx E = -1000 := by unfold cEx; omega
    rw [hx] at hp
    have e := near_one (dB_pos _ _) hp (far_dn hd (by omega))
    rw [e]
    exact far_dn hd (by omega)
  · by_cases h2 : 1000 < E
    · have hx : cEx E = 1000 := by unfold cEx; omega
      rw [hx] at hp
      by_cases h0 : nd l = 0
      · rw [dA_zero h0] at hp
        rw [dA_zero h0]
        exact near_same (dB_pos _ _) (dB_pos _ _) (by rw [Nat.zero_mul, Nat.zero_mul]) hp
      · have e := near_one (dB_pos _ _) hp (great_up h0 hl (by omega))
        rw [e]
        exact great_up h0 hl (by omega)
    · have hx : cEx E = E := by unfold cEx; omega
      rw [hx] at hp
      exact hp
end Go.Proofs.YtojpfmlmalmlcaaGreatDoor

namespace Go.Proofs.YtojpfmlmalmlcaaGreatDoor
open Go.RowKit
theorem near_exists (l : List UInt8) (x : Int) : ∃ p, NearIs (dA l x) (dB l x) p := by
  by_cases h0 : nd l = 0
  · exact ⟨0, by rw [dA_zero h0]; exact near_none (dB_pos _ _) (by omega)⟩
  · have hO : nd l * 10 ^ (x - (l.length : Int)).toNat ≠ 0 := by have := Nat.mul_pos (Nat.pos_of_ne_zero h0) (ten_pos (x - (l.length : Int)).toNat); omega
    have hU : 10 ^ ((l.length : Int) - x).toNat ≠ 0 := by have := ten_pos ((l.length : Int) - x).toNat; omega
    exact near_some hO hU
set_option maxHeartbeats 1000000 in
theorem read_bad (ds : List UInt8) (x : Int) (w : World) (h : 300 < ds.length ∨ (ds.length ≤ 300 ∧ digs ds = false)) :
    Calls Tryz.prog 16 #[.string ⟨ds.toArray⟩, .int .i64 x] w fun r w' => r = .returned (.tuple #[.int .u64 0, .bool false]) ∧ w' = w := by
  rcases h with h | ⟨h, hd⟩
  · have d1 : decide (300 < (ds.length : Int)) = true := by simp; omega
    have d1n : decide (300 < ds.length) = true := by simp; omega
    clear h
    go_enter Tryz.func16, Tryz.ntmps16
    go_wp2_with fail
    go_ret2
    exact ⟨rfl, rfl⟩
  · have d1 : decide (300 < (ds.length : Int)) = false := by simp; omega
    have d1n : decide (300 < ds.length) = false := by simp; omega
    have cI := Lib.hid fun w => nearDigits_any ds (by omega) w
    rw [hd] at cI
    clear h hd
    go_enter Tryz.func16, Tryz.ntmps16
    go_wp2_with fail
    refine (cI.out _).mono ?_
    rintro e w5 ⟨rfl, hw5⟩; subst w5
    go_wp2_with fail
    go_ret2
    exact ⟨rfl, rfl⟩
theorem read_ans (ds : List UInt8) (x : Int) (w : World) (hx : -9223372036854775808 ≤ x ∧ x ≤ 9223372036854775807) (_ : ds.length ≤ 1000) (hL : L12 w) :
    Calls Tryz.prog 16 #[.string ⟨ds.toArray⟩, .int .i64 x] w fun r w' => (∃ (a : Nat) (b : Bool), r = .returned (.tuple #[.int .u64 (a : Int), .bool b]) ∧ ReadAns ds x a b) ∧ Below w.heap.size w w' := by
  by_cases hg : RdOk ds
  · refine (read_good ds x w hx hg.1 hg.2.1 hg.2.2 hL.tab).mono ?_
    rintro r w' ⟨⟨p, hp, rfl⟩, hB⟩
    exact ⟨⟨_, _, rfl, .inr ⟨hg, p, hp, rfl, rfl⟩⟩, hB⟩
  · refine (read_bad ds x w ?_).mono ?_
    · by_cases c : 300 < ds.length
      · exact .inl c
      · refine .inr ⟨by omega, ?_⟩
        cases hd : digs ds with
        | false => rfl
        | true =>
          exfalso
          have hne := (digs_iff.1 hd).2
          have : 1 ≤ ds.length := by cases ds with
            | nil => exact absurd rfl hne
            | cons c m => simp
          exact hg ⟨this, by omega, digs_Dgs hd⟩
    · rintro r w' ⟨rfl, hw⟩; subst w'
      exact ⟨⟨0, false, rfl, .inl ⟨hg, rfl, rfl⟩⟩, Below.refl _ _⟩
set_option maxHeartbeats 1000000 in
theorem parse_short (s : List UInt8) (w : World) (hs : s.length ≤ 1000) (hL : L12 w) (h : lexP s = 0 ∨ 300 < s.length) :
    Calls Tryz.prog 14 #[.string ⟨s.toArray⟩] w fun r w' => r = .returned (.tuple #[.int .u64 0, .int .i64 (if lexP s = 0 then 3 else 10)]) ∧ Below w.heap.size w w' := by
  have cX := Lib.hid (lexeme_any s (by omega) w hL.most)
  by_cases h0 : lexP s = 0
  · rw [if_pos h0]
    rw [h0] at cX
    clear h h0 hs hL
    go_enter Tryz.func14, Tryz.ntmps14
    go_wp2_with fail
    refine cX.out.mono ?_
    rintro r w1 ⟨rfl, hB⟩
    have HB := Lib.hid hB
    clear hB cX
    go_wp2_with fail
    go_ret2
    exact ⟨rfl, HB.out⟩
  · rw [if_neg h0]
    have hk : ((lexP s : Int) == 0) = false := by simp only [beq_eq_false_iff_ne]; omega
    have hlen : 300 < s.length := by rcases h with h | h; exact absurd h h0; exact h
    have d1 : decide (300 < (s.length : Int)) = true := by simp; omega
    have d1n : decide (300 < s.length) = true := by simp; omega
    generalize lexP s = k at *
    clear h h0 hs hL hlen
    go_enter Tryz.func14, Tryz.ntmps14
    go_wp2_with fail
    refine cX.out.mono ?_
    rintro r w1 ⟨rfl, hB⟩
    have HB := Lib.hid hB
    clear hB cX
    go_wp2_with fail
    go_ret2
    exact ⟨rfl, HB.out⟩
set_option maxHeartbeats 2000000 in
/-- The way to the end: what Read tells of its parts, with the sign. -/
theorem parse_core (s u ds : List UInt8) (y : Int) (k : Nat) (neg : Bool) (p : Nat) (w : World) (hk : ((k : Int) == 0) = false) (hs : s.length ≤ 300) (hp : p ≤ 9218868437227405312) (hL : Hid (L12 w))
    (cX : Hid (Calls Tryz.prog 29 #[.string ⟨s.toArray⟩] w fun e w' => e = .returned (.int .i64 (k : Int)) ∧ Below w.heap.size w w'))
    (cC : Hid (∀ w, Calls Tryz.prog 30 #[.string ⟨s.toArray⟩, .string ⟨#[45]⟩] w fun e w' => e = .returned (.tuple #[.string ⟨u.toArray⟩, .bool neg]) ∧ w' = w))
    (cQ : Hid (∀ w, L12 w → Calls Tryz.prog 31 #[.string ⟨u.toArray⟩] w fun e w' => e = .returned (.tuple #[.string ⟨ds.toArray⟩, .int .i64 y]) ∧ Below w.heap.size w w'))
    (cR : Hid (∀ w, L12 w → Calls Tryz.prog 16 #[.string ⟨ds.toArray⟩, .int .i64 y] w fun r w' => r = .returned (.tuple #[.int .u64 ((rdP p : Nat) : Int), .bool (rdB p)]) ∧ Below w.heap.size w w')) :
    Calls Tryz.prog 14 #[.string ⟨s.toArray⟩] w fun r w' => r = .returned (.tuple #[.int .u64 ((pnP neg p : Nat) : Int), .int .i64 (pnE p)]) ∧ Below w.heap.size w w' := by
  have d1 : decide (300 < (s.length : Int)) = false := by simp; omega
  have d1n : decide (300 < s.length) = false := by simp; omega
  clear hs
  obtain ⟨a, ha⟩ : ∃ a, a = pnP neg p := ⟨_, rfl⟩
  obtain ⟨e, he⟩ : ∃ e, e = pnE p := ⟨_, rfl⟩
  rw [← ha, ← he]
  by_cases hi : p = 9218868437227405312
  · have e1 : rdP p = 0 := if_pos hi
    have e2 : rdB p = false := by unfold rdB; exact decide_eq_false (fun h => h hi)
    have HA : Hid (a = 0) := ha.trans (if_pos hi)
    have HE : Hid (e = 10) := he.trans (if_pos hi)
    rw [e1, e2] at cR
    clear e1 e2 ha he hi hp
    go_enter Tryz.func14, Tryz.ntmps14
    go_wp2_with fail
    refine cX.out.mono ?_
    rintro r w1 ⟨rfl, hB⟩
    have HB1 := Lib.hid hB
    have HL1 := Lib.hid (hL.out.after hB)
    clear hB cX
    go_wp2_with fail
    refine (cC.out _).mono ?_
    rintro r w2 ⟨rfl, hw⟩; subst w2
    clear cC
    go_wp2_with fail
    refine (cQ.out _ HL1.out).mono ?_
    rintro r w2 ⟨rfl, hB⟩
    have HB2 := Lib.hid (HB1.out.trans (hB.mono HB1.out.size))
    have HL2 := Lib.hid (HL1.out.after hB)
    clear hB cQ HB1 HL1
    go_wp2_with fail
    refine (cR.out _ HL2.out).mono ?_
    rintro r w3 ⟨rfl, hB⟩
    have HB3 := Lib.hid (HB2.out.trans (hB.mono HB2.out.size))
    clear hB cR HB2 HL2
    go_wp2_with fail
    go_ret2
    exact ⟨by rw [HA.out, HE.out]; rfl, HB3.out⟩
  · have e1 : rdP p = p := if_neg hi
    have e2 : rdB p = true := by unfold rdB; exact decide_eq_true hi
    have HA : Hid (a = pat neg p) := ha.trans (if_neg hi)
    have HE : Hid (e = 0) := he.trans (if_neg hi)
    have ho := or_top p (by omega)
    rw [e1, e2] at cR
    clear e1 e2 ha he hi hp
    have HO := Lib.hid ho
    obtain ⟨z, hz⟩ : ∃ z : Int, z = ((pat true p : Nat) : Int) := ⟨_, rfl⟩
    rw [← hz] at ho
    have HZ := Lib.hid hz
    clear hz HO
    cases neg
    all_goals
      go_enter Tryz.func14, Tryz.ntmps14
      go_wp2_with fail
      refine cX.out.mono ?_
      rintro r w1 ⟨rfl, hB⟩
      have HB1 := Lib.hid hB
      have HL1 := Lib.hid (hL.out.after hB)
      clear hB cX
      go_wp2_with fail
      refine (cC.out _).mono ?_
      rintro r w2 ⟨rfl, hw⟩; subst w2
      clear cC
      go_wp2_with fail
      refine (cQ.out _ HL1.out).mono ?_
      rintro r w2 ⟨rfl, hB⟩
      have HB2 := Lib.hid (HB1.out.trans (hB.mono HB1.out.size))
      have HL2 := Lib.hid (HL1.out.after hB)
      clear hB cQ HB1 HL1
      go_wp2_with fail
      refine (cR.out _ HL2.out).mono ?_
      rintro r w3 ⟨rfl, hB⟩
      have HB3 := Lib.hid (HB2.out.trans (hB.mono HB2.out.size))
      clear hB cR HB2 HL2
      go_wp2_with fail
      go_ret2
      exact ⟨by rw [HA.out, HE.out]; first | rfl | (rw [← HZ.out]; rfl), HB3.out⟩
/-- What is asked of the texts that the document parses. -/
def Lexes (s : List UInt8) : Prop := ∀ w, Calls Tryz.prog 15 #[.string ⟨s.toArray⟩] w fun x w' => x = .returned (.int .i64 (lexD s : Int)) ∧ Below w.heap.size w w'
theorem parse_ans (s : List UInt8) (w : World) (hs : s.length ≤ 1000) (hL : L12 w) (_ : Hid (Lexes s)) :
    Calls Tryz.prog 14 #[.string ⟨s.toArray⟩] w fun r w' => (∃ (a : Nat) (e : Int), r = .returned (.tuple #[.int .u64 (a : Int), .int .i64 e]) ∧ ParseAns s a e) ∧ Below w.heap.size w w' := by
  by_cases h0 : lexP s = 0
  · refine (parse_short s w hs hL (.inl h0)).mono ?_
    rintro r w' ⟨rfl, hB⟩
    rw [if_pos h0]
    exact ⟨⟨0, 3, rfl, .inl ⟨h0, rfl, rfl⟩⟩, hB⟩
  · by_cases h1 : 300 < s.length
    · refine (parse_short s w hs hL (.inr h1)).mono ?_
      rintro r w' ⟨rfl, hB⟩
      rw [if_neg h0]
      exact ⟨⟨0, 10, rfl, .inr (.inl ⟨h0, h1, rfl, rfl⟩)⟩, hB⟩
    · obtain ⟨neg, ip, fp, E, hj⟩ := jn_of h0
      obtain ⟨fr, ex, hsx, hip, hfr, hex⟩ := hj
      have hj : JN s neg ip fp E := ⟨fr, ex, hsx, hip, hfr, hex⟩
      have i1 := digs_iff.1 hip
      have hlen : s.length = (if neg then 1 else 0) + (ip.length + (fr.length + ex.length)) := by rw [hsx]; cases neg <;> simp <;> omega
      have hfl : fp.length ≤ fr.length := by rcases hfr with ⟨rfl, rfl⟩ | ⟨rfl, _⟩ <;> simp
      have hcut : Lib.trimPrefix s [45] = ip ++ (fr ++ ex) ∧ Lib.hasPrefix s [45] = neg := by
        rw [hsx]
        cases neg
        · cases hi : ip with
          | nil => exact absurd hi i1.2
          | cons c t => exact no_minus (ne_minus (i1.1 c (by rw [hi]; exact List.mem_cons_self)))
        · constructor
          · simp [Lib.trimPrefix, Lib.hasPrefix, List.isPrefixOf]
          · simp [Lib.hasPrefix, List.isPrefixOf]
      have cC := fun w => cutPrefix_any s w
      rw [hcut.1, hcut.2] at cC
      have hDs : Dgs (ip ++ fp) := by
        refine (digs_Dgs hip).append ?_
        rcases hfr with ⟨_, rfl⟩ | ⟨_, hf⟩
        · intro c hc; cases hc
        · exact digs_Dgs hf
      have h2 : (ip ++ fp).length ≤ 300 := by rw [List.length_append]; omega
      have h1' : 1 ≤ (ip ++ fp).length := by
        rw [List.length_append]
        have : ip.length ≠ 0 := fun h => i1.2 (List.eq_nil_of_length_eq_zero h)
        omega
      have hyb : -9223372036854775808 ≤ (ip.length : Int) + cEx E ∧ (ip.length : Int) + cEx E ≤ 9223372036854775807 := by unfold cEx; omega
      -- the nearest one
      obtain ⟨p, hp⟩ : ∃ p, NearIs (dA (ip ++ fp) ((ip.length : Int) + cEx E)) (dB (ip ++ fp) ((ip.length : Int) + cEx E)) p := near_exists _ _
      have hpE := near_cEx hDs h2 (by omega) hp
      have cR : Hid (∀ w, L12 w → Calls Tryz.prog 16 #[.string ⟨(ip ++ fp).toArray⟩, .int .i64 ((ip.length : Int) + cEx E)] w fun r w' => r = .returned (.tuple #[.int .u64 ((rdP p : Nat) : Int), .bool (rdB p)]) ∧ Below w.heap.size w w') := fun w hL => by
        refine (read_good (ip ++ fp) _ w hyb h1' h2 hDs hL.tab).mono ?_
        rintro r w' ⟨⟨q, hq, rfl⟩, hB⟩
        cases near_one (dB_pos _ _) hp hq
        exact ⟨rfl, hB⟩
      have hk : ((lexP s : Int) == 0) = false := by simp only [beq_eq_false_iff_ne]; omega
      refine (parse_core s _ _ _ (lexP s) neg p w hk (by omega) hp.1 (Lib.hid hL) (Lib.hid (lexeme_any s (by omega) w hL.most)) (Lib.hid cC)
        (Lib.hid fun w hL => parts_jn ip fr fp ex E w (by rw [List.length_append, List.length_append]; omega) hip hfr hex hL.most) cR).mono ?_
      rintro r w' ⟨rfl, hB⟩
      exact ⟨⟨_, _, rfl, .inr (.inr ⟨h0, by omega, neg, ip, fp, E, hj, p, hpE, rfl, rfl⟩)⟩, hB⟩
end Go.Proofs.YtojpfmlmalmlcaaGreatDoor
