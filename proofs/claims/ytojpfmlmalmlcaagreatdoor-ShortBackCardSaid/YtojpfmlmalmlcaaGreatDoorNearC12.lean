/-
  What near's lowered and unitOf do: a quotient divided by a power of two; the unit of its doubles. No condition beyond what each contract says.
  What near's nearest does: the nearest pattern to a quotient. No condition beyond what the contract says.
  What near's fraction does: the number of some digits times a power of ten as the quotient of two whole ones. No condition beyond what the contract says.
-/
import Derived.Test.YtojpfmlmalmlcaaGreatDoorNPow
import Derived.Test.YtojpfmlmalmlcaaGreatDoorNParse
import Derived.Test.YtojpfmlmalmlcaaGreatDoorNearPure
import Derived.Test.YtojpfmlmalmlcaaGreatDoorNDbl
namespace Go.Proofs.YtojpfmlmalmlcaaGreatDoor.G
open Go.RowKit
theorem top_two {a N : Nat} (hN : N ≤ 4096) (h : a < 2 ^ N) : a < top := by
  unfold top
  have e : ∀ k, (65536 : Nat) ^ k = 2 ^ (16 * k) := fun k => by rw [Nat.pow_mul]
  rw [e]
  obtain ⟨M, hM⟩ : ∃ M, M = 16 * 256 := ⟨_, rfl⟩
  rw [← hM]
  exact Nat.lt_of_lt_of_le h (Nat.pow_le_pow_right (by decide) (by omega))
/-- How many digits of 2 a number has. -/
theorem len2_bv {a n : Nat} (hn : (dg a).length = n) (h0 : a ≠ 0) : Len2 a (bv (dg a) n) := by
  have hne : n ≠ 0 := by
    intro h
    subst h
    have := (dg_len a 0).1 (by omega)
    simp at this
    exact h0 this
  obtain ⟨k, rfl⟩ : ∃ k, n = k + 1 := ⟨n - 1, by omega⟩
  have hl := dg_last a k hn
  have hd := (dg_dg a).get k
  have ht := take_drop_nv (dg a) k (by omega)
  have hdr := drop_nv (dg a) k (by omega)
  have hnil : (dg a).drop (k + 1) = [] := List.drop_eq_nil_of_le (by omega)
  have hlo := nv_lt ((dg_dg a).take k)
  rw [List.length_take, show min k (dg a).length = k by omega] at hlo
  rw [hnil, nv_nil, Nat.mul_zero, Nat.add_zero] at hdr
  rw [hdr, nv_dg] at ht
  unfold bv
  rw [Nat.add_sub_cancel]
  generalize (dg a).getD k 0 = d at *
  obtain ⟨b1, b2, b3⟩ := len_bounds hl (by omega)
  generalize Lib.bitLen d = L at *
  generalize nv ((dg a).take k) = lo at *
  have e : 65536 ^ k = 2 ^ (16 * k) := by rw [Nat.pow_mul]
  rw [e] at ht hlo
  clear hdr hnil hn hd e hl h0
  refine ⟨by omega, ?_, ?_⟩
  · have s1 : 2 ^ (16 * k) * 2 ^ (L - 1) ≤ 2 ^ (16 * k) * d := Nat.mul_le_mul_left _ b1
    rw [← Nat.pow_add, show 16 * k + (L - 1) = 16 * k + L - 1 by omega] at s1
    omega
  · have s1 : 2 ^ (16 * k) * (d + 1) ≤ 2 ^ (16 * k) * 2 ^ L := Nat.mul_le_mul_left _ b2
    rw [← Nat.pow_add, Nat.mul_add, Nat.mul_one] at s1
    omega
set_option maxHeartbeats 1000000 in
theorem lowered_any (A : Option Addr) (n c : Nat) (O : Nat) (B : Option Addr) (m d : Nat) (U : Nat) (N : Int) (w : World) (h1 : Digs w A n (dg O)) (h2 : Digs w B m (dg U)) (hO : O < top) (hU : U < top) (hN : -4096 ≤ N ∧ N ≤ 4096) :
    Calls Tryz.prog 63 #[.slice A n c, .slice B m d, .int .i64 N] w fun e w' => ∃ R k S l, e = .returned (.tuple #[.slice R (dg (O * 2 ^ upA N)).length k, .slice S (dg (U * 2 ^ upB N)).length l]) ∧
      Digs w' R (dg (O * 2 ^ upA N)).length (dg (O * 2 ^ upA N)) ∧ Digs w' S (dg (U * 2 ^ upB N)).length (dg (U * 2 ^ upB N)) ∧ Below w.heap.size w w' := by
  obtain ⟨M, hM⟩ : ∃ M, M = -N := ⟨_, rfl⟩
  have hw : wrap64 (-N) = M := by unfold wrap64; omega
  obtain ⟨p, hp⟩ : ∃ p, p = upA N := ⟨_, rfl⟩
  obtain ⟨q, hq⟩ : ∃ q, q = upB N := ⟨_, rfl⟩
  rw [← hp, ← hq]
  have c1 := Lib.hid (up_yes A n c O p w h1 hO (by unfold upA at hp; omega))
  have c2 := Lib.hid fun w h2 => up_yes B m d U q w h2 hU (by unfold upB at hq; omega)
  have H2 := Lib.hid h2
  rcases Int.lt_trichotomy N 0 with h | h | h
  · have e1 : (p : Int) = M := by unfold upA at hp; omega
    have e2 : (q : Int) = 0 := by unfold upB at hq; omega
    have f1 : 0 < M := by omega
    rw [e1] at c1
    rw [e2] at c2
    clear e1 e2 hp hq hM h1 h2 hO hU hN
    go_enter Tryz.func63, Tryz.ntmps63
    go_wp2_with fail
    refine c1.out.mono ?_
    rintro e w1 ⟨R1, k1, rfl, D1, B1⟩
    have HD1 := Lib.hid D1; have HB1 := Lib.hid B1
    have HH := Lib.hid (H2.out.below B1)
    clear D1 B1 c1
    go_wp2_with fail
    refine (c2.out _ HH.out).mono ?_
    rintro e w2 ⟨R2, k2, rfl, D2, B2⟩
    have HD2 := Lib.hid D2; have HB2 := Lib.hid (HB1.out.trans (B2.mono HB1.out.size))
    have HD1b := Lib.hid (HD1.out.below B2)
    clear D2 B2 c2
    go_wp2_with fail
    go_ret2
    exact ⟨_, _, _, _, rfl, HD1b.out, HD2.out, HB2.out⟩
  · subst h
    have e1 : (p : Int) = 0 := by unfold upA at hp; omega
    have e2 : (q : Int) = 0 := by unfold upB at hq; omega
    have hw0 : M = 0 := by omega
    rw [hw0] at hw
    rw [e1] at c1
    rw [e2] at c2
    clear e1 e2 hp hq hM h1 h2 hO hU hN hw0
    go_enter Tryz.func63, Tryz.ntmps63
    go_wp2_with fail
    refine c1.out.mono ?_
    rintro e w1 ⟨R1, k1, rfl, D1, B1⟩
    have HD1 := Lib.hid D1; have HB1 := Lib.hid B1
    have HH := Lib.hid (H2.out.below B1)
    clear D1 B1 c1
    go_wp2_with fail
    refine (c2.out _ HH.out).mono ?_
    rintro e w2 ⟨R2, k2, rfl, D2, B2⟩
    have HD2 := Lib.hid D2; have HB2 := Lib.hid (HB1.out.trans (B2.mono HB1.out.size))
    have HD1b := Lib.hid (HD1.out.below B2)
    clear D2 B2 c2
    go_wp2_with fail
    go_ret2
    exact ⟨_, _, _, _, rfl, HD1b.out, HD2.out, HB2.out⟩
  · have e1 : (p : Int) = 0 := by unfold upA at hp; omega
    have e2 : (q : Int) = N := by unfold upB at hq; omega
    have f1 : M < 0 := by omega
    rw [e1] at c1
    rw [e2] at c2
    clear e1 e2 hp hq hM h1 h2 hO hU hN
    go_enter Tryz.func63, Tryz.ntmps63
    go_wp2_with fail
    refine c1.out.mono ?_
    rintro e w1 ⟨R1, k1, rfl, D1, B1⟩
    have HD1 := Lib.hid D1; have HB1 := Lib.hid B1
    have HH := Lib.hid (H2.out.below B1)
    clear D1 B1 c1
    go_wp2_with fail
    refine (c2.out _ HH.out).mono ?_
    rintro e w2 ⟨R2, k2, rfl, D2, B2⟩
    have HD2 := Lib.hid D2; have HB2 := Lib.hid (HB1.out.trans (B2.mono HB1.out.size))
    have HD1b := Lib.hid (HD1.out.below B2)
    clear D2 B2 c2
    go_wp2_with fail
    go_ret2
    exact ⟨_, _, _, _, rfl, HD1b.out, HD2.out, HB2.out⟩
theorem dg_pos_len {a n : Nat} (h0 : a ≠ 0) (hn : (dg a).length = n) : 0 < n := by
  rw [dg_pos h0, List.length_cons] at hn
  omega
/-- A quotient moved by what its lengths tell keeps within bounds. -/
theorem moved_top {O x N M : Nat} (h : Len2 O x) (hN : x + N ≤ M) (hM : M ≤ 4096) : O * 2 ^ N < top := top_two hM (by
  have h1 := (h.up N).2.2
  exact Nat.lt_of_lt_of_le h1 (Nat.pow_le_pow_right (by decide) hN))
set_option maxHeartbeats 2000000 in
theorem unit_any (A : Option Addr) (n c : Nat) (O : Nat) (B : Option Addr) (m d : Nat) (U : Nat) (w : World) (h1 : Digs w A n (dg O)) (h2 : Digs w B m (dg U)) (hO : O ≠ 0) (hU : U ≠ 0) (x y : Nat) (hx : x = bv (dg O) n) (hy : y = bv (dg U) m) (bx : x ≤ 1300) (yb : y ≤ 2600) :
    Calls Tryz.prog 62 #[.slice A n c, .slice B m d] w fun e w' => e = .returned (.int .i64 (uOf12 (hiOf O U x y))) ∧ Below w.heap.size w w' := by
  have lO : Len2 O x := by rw [hx]; exact len2_bv h1.1 hO
  have lU : Len2 U y := by rw [hy]; exact len2_bv h2.1 hU
  have x1 := lO.1
  have y1 := lU.1
  have tO : O < top := top_two (N := x) (by omega) lO.2.2
  have tU : U < top := top_two (N := y) (by omega) lU.2.2
  have c1 := Lib.hid (bits_yes A n c O w h1 tO (dg_pos_len hO h1.1))
  have c2 := Lib.hid fun w h => bits_yes B m d U w h tU (dg_pos_len hU h2.1)
  rw [← hx] at c1
  rw [← hy] at c2
  obtain ⟨H, hH⟩ : ∃ H : Int, H = (x : Int) - y := ⟨_, rfl⟩
  have c3 := Lib.hid (lowered_any A n c O B m d U H w h1 h2 tO tU (by omega))
  have t1 : O * 2 ^ upA H < top := moved_top lO (M := 4000) (by unfold upA; omega) (by omega)
  have t2 : U * 2 ^ upB H < top := moved_top lU (M := 4000) (by unfold upB; omega) (by omega)
  obtain ⟨r, hr⟩ : ∃ r, r = uOf12 (hiOf O U x y) := ⟨_, rfl⟩
  rw [← hr]
  unfold hiOf at hr
  rw [← hH] at hr
  generalize O * 2 ^ upA H = P at *
  generalize U * 2 ^ upB H = Q at *
  have hb : -4096 ≤ H ∧ H ≤ 4096 := by omega
  have c4 := Lib.hid fun R k S l w h h' => cmp_yes R (dg P).length k P S (dg Q).length l Q w h h' t1 t2
  have H2 := Lib.hid h2
  have w1 : wrap64 ((x : Int) - (y : Int)) = H := by rw [← hH]; unfold wrap64; omega
  clear hx hy bx yb h1 h2 hO hU lO lU x1 y1 tO tU t1 t2 hH
  obtain ⟨G, hG⟩ : ∃ G : Int, G = if P < Q then H - 1 else H := ⟨_, rfl⟩
  rw [← hG] at hr
  obtain ⟨u, hu⟩ : ∃ u : Int, u = G - 52 := ⟨_, rfl⟩
  have w2 : wrap64 (G - 52) = u := by rw [← hu]; unfold wrap64; split at hG <;> omega
  have w3 : wrap64 (H - 1) = H - 1 := by unfold wrap64; omega
  have hC : (cp P Q < 0 ∧ G = H - 1) ∨ (¬ cp P Q < 0 ∧ G = H) := by
    by_cases hlt : P < Q
    · left; rw [cp_lt hlt, hG, if_pos hlt]; exact ⟨by decide, rfl⟩
    · right
      rw [hG, if_neg hlt]
      refine ⟨?_, rfl⟩
      unfold cp
      rw [if_neg hlt]
      split <;> decide
  generalize cp P Q = C at *
  have hR : (u < -1074 ∧ r = -1074) ∨ (u = -1074 ∧ r = -1074) ∨ (-1074 < u ∧ r = u) := by
    unfold uOf12 at hr
    rw [← hu] at hr
    rcases Int.lt_trichotomy u (-1074) with h | h | h
    · rw [if_pos h] at hr; exact .inl ⟨h, hr⟩
    · rw [if_neg (by omega)] at hr; exact .inr (.inl ⟨h, by omega⟩)
    · rw [if_neg (by omega)] at hr; exact .inr (.inr ⟨h, hr⟩)
  clear hG hr hb
  rcases hC with ⟨hC, hg⟩ | ⟨hC, hg⟩
  · have d1 : decide (C < 0) = true := decide_eq_true hC
    rw [hg] at w2 hu
    clear hC hg
    rcases hR with ⟨f1, hr⟩ | ⟨f1, hr⟩ | ⟨f1, hr⟩
    all_goals
      have HR := Lib.hid hr
      clear hr hu
      try subst f1
      go_enter Tryz.func62, Tryz.ntmps62
      go_wp2_with fail
      refine c1.out.mono ?_
      rintro e w5 ⟨rfl, hw5⟩; subst w5
      go_wp2_with fail
      refine (c2.out _ H2.out).mono ?_
      rintro e w5 ⟨rfl, hw5⟩; subst w5
      go_wp2_with fail
      refine c3.out.mono ?_
      rintro e w5 ⟨R, k, S, l, rfl, D1, D2, B1⟩
      have HD1 := Lib.hid D1; have HD2 := Lib.hid D2; have HB1 := Lib.hid B1
      clear D1 D2 B1 c3
      go_wp2_with fail
      refine (c4.out _ _ _ _ _ HD1.out HD2.out).mono ?_
      rintro e w6 ⟨rfl, B2⟩
      have HB2 := Lib.hid (HB1.out.trans (B2.mono HB1.out.size))
      clear B2 c4
      go_wp2_with fail
      go_ret
      refine ⟨?_, HB2.out⟩
      rw [HR.out]
      first | rfl | (simp only [w3, w2]; rfl) | (simp [w3, w2]; done) | skip
  · have d1 : decide (C < 0) = false := decide_eq_false hC
    rw [hg] at w2 hu
    clear hC hg
    rcases hR with ⟨f1, hr⟩ | ⟨f1, hr⟩ | ⟨f1, hr⟩
    all_goals
      have HR := Lib.hid hr
      clear hr hu
      try subst f1
      go_enter Tryz.func62, Tryz.ntmps62
      go_wp2_with fail
      refine c1.out.mono ?_
      rintro e w5 ⟨rfl, hw5⟩; subst w5
      go_wp2_with fail
      refine (c2.out _ H2.out).mono ?_
      rintro e w5 ⟨rfl, hw5⟩; subst w5
      go_wp2_with fail
      refine c3.out.mono ?_
      rintro e w5 ⟨R, k, S, l, rfl, D1, D2, B1⟩
      have HD1 := Lib.hid D1; have HD2 := Lib.hid D2; have HB1 := Lib.hid B1
      clear D1 D2 B1 c3
      go_wp2_with fail
      refine (c4.out _ _ _ _ _ HD1.out HD2.out).mono ?_
      rintro e w6 ⟨rfl, B2⟩
      have HB2 := Lib.hid (HB1.out.trans (B2.mono HB1.out.size))
      clear B2 c4
      go_wp2_with fail
      go_ret
      refine ⟨?_, HB2.out⟩
      rw [HR.out]
      first | rfl | (simp only [w3, w2]; rfl) | (simp [w3, w2]; done) | skip
end Go.Proofs.YtojpfmlmalmlcaaGreatDoor.G

namespace Go.Proofs.YtojpfmlmalmlcaaGreatDoor.G
open Go.RowKit
set_option maxHeartbeats 4000000 in
theorem nearest_core (A : Option Addr) (n c : Nat) (B : Option Addr) (m d : Nat) (w : World) (u : Int) (P Q q r mm p : Nat) (hL : Laid w)
    (cU : Hid (Calls Tryz.prog 62 #[.slice A n c, .slice B m d] w fun e w' => e = .returned (.int .i64 u) ∧ Below w.heap.size w w'))
    (cL : Hid (∀ w' : World, Below w.heap.size w w' → Calls Tryz.prog 63 #[.slice A n c, .slice B m d, .int .i64 u] w' fun e w2 => ∃ R k S l, e = .returned (.tuple #[.slice R (dg P).length k, .slice S (dg Q).length l]) ∧ Digs w2 R (dg P).length (dg P) ∧ Digs w2 S (dg Q).length (dg Q) ∧ Below w'.heap.size w' w2))
    (tP : P < top) (tQ : Q < top) (tQ2 : 2 * Q < top) (hQ : Q ≠ 0) (hq : q = P / Q) (hr : r = P % Q) (q53 : q < 9007199254740992) (hm : mm = upQ q r Q)
    (hj : jPat false (joinP mm u) = rdP p ∧ (joinP mm u).isSome = rdB p) :
    Calls Tryz.prog 35 #[.slice A n c, .slice B m d] w fun e w' => e = .returned (.tuple #[.int .u64 ((rdP p : Nat) : Int), .bool (rdB p)]) ∧ Below w.heap.size w w' := by
  have cD := Lib.hid fun R k S l w h1 h2 => div_yes R (dg P).length k P S (dg Q).length l Q w h1 h2 tP tQ hQ
  rw [← hq, ← hr] at cD
  have rQ : r < Q := by rw [hr]; exact Nat.mod_lt _ (by omega)
  have t4 : (dg q).length ≤ 4 := (dg_len q 4).2 (Nat.lt_of_lt_of_le q53 (by decide))
  have cS := Lib.hid fun R k w h => small_yes R (dg q).length k q w h (Nat.lt_trans (Nat.lt_of_lt_of_le q53 (by decide)) (lim_le (k := 4) (by decide) |> Nat.lt_of_lt_of_le (show 9007199254740992 < 65536 ^ 4 by decide))) t4
  have cP := Lib.hid fun R k w h => up_yes R (dg r).length k r 1 w h (Nat.lt_trans rQ tQ) (by decide)
  have tr : r * 2 ^ 1 < top := by omega
  rw [show ((1 : Nat) : Int) = 1 from rfl] at cP
  obtain ⟨s, hs⟩ : ∃ s, s = r * 2 ^ 1 := ⟨_, rfl⟩
  rw [← hs] at cP tr
  have cC := Lib.hid fun R k S l w h h' => cmp_yes R (dg s).length k s S (dg Q).length l Q w h h' tr tQ
  have mb : mm < 18446744073709551616 := by rw [hm]; unfold upQ; split <;> omega
  have cJ := Lib.hid fun w hL => join_any false mm u mb w hL
  rw [hj.1, hj.2] at cJ
  have HLd := Lib.hid hL
  obtain ⟨t, ht⟩ : ∃ t : Int, t = (q : Int).tmod 2 := ⟨_, rfl⟩
  have wu : IntKind.u64.wrap ((q : Int) + 1) = ((q + 1 : Nat) : Int) := by rw [IntKind.wrap_u64]; omega
  have hC : (cp s Q = 1 ∧ mm = q + 1) ∨ (cp s Q = 0 ∧ t = 1 ∧ mm = q + 1) ∨ (cp s Q = 0 ∧ t ≠ 1 ∧ mm = q) ∨ (cp s Q = -1 ∧ mm = q) := by
    have htm : t = (q : Int) % 2 := by rw [ht]; exact Int.tmod_eq_emod_of_nonneg (by omega)
    have hs2 : s = 2 * r := by rw [hs]; omega
    unfold upQ at hm
    rcases Nat.lt_trichotomy s Q with h | h | h
    · rw [if_neg (by omega)] at hm
      exact .inr (.inr (.inr ⟨cp_lt h, hm⟩))
    · rw [h, cp_eq]
      by_cases ho : q % 2 = 1
      · rw [if_pos (.inr ⟨by omega, ho⟩)] at hm
        exact .inr (.inl ⟨rfl, by omega, hm⟩)
      · rw [if_neg (by omega)] at hm
        exact .inr (.inr (.inl ⟨rfl, by omega, hm⟩))
    · rw [if_pos (.inl (by omega))] at hm
      exact .inl ⟨cp_gt h, hm⟩
  have ht2 : (q : Int).tmod 2 = t := ht.symm
  clear hj hm mb hs tr t4 rQ hq hr q53 hQ tP tQ tQ2 ht hL
  generalize cp s Q = C at *
  rcases hC with ⟨hC, hm⟩ | ⟨hC, hC2, hm⟩ | ⟨hC, hC2, hm⟩ | ⟨hC, hm⟩
  all_goals
    first
    | (have b1 : decide (0 < C) = true := by rw [hC]; rfl)
    | (have b1 : decide (0 < C) = false := by rw [hC]; rfl
       have b2 : (C == 0) = false := by rw [hC]; rfl)
    | (have b1 : decide (0 < C) = false := by rw [hC]; rfl
       have b2 : (C == 0) = true := by rw [hC]; rfl
       first
       | (have b3 : (t == 1) = true := by simpa using hC2)
       | (have b3 : (t == 1) = false := by simpa using hC2))
    clear hC
    rw [hm] at cJ
    clear hm
    go_enter Tryz.func35, Tryz.ntmps35
    go_wp2_with fail
    refine cU.out.mono ?_
    rintro e w1 ⟨rfl, B1⟩
    have c2 := Lib.hid (cL.out w1 B1)
    have HB1 := Lib.hid B1
    have HL1 := Lib.hid (HLd.out.after B1)
    clear B1 cL cU
    go_wp2_with fail
    refine c2.out.mono ?_
    rintro e w2 ⟨R, k, S, l, rfl, D1, D2, B2⟩
    have HD1 := Lib.hid D1; have HD2 := Lib.hid D2; have HB2 := Lib.hid (HB1.out.trans (B2.mono HB1.out.size)); have HL2 := Lib.hid (HL1.out.after B2)
    clear D1 D2 B2 HB1 HL1 c2
    go_wp2_with fail
    refine (cD.out _ _ _ _ _ HD1.out HD2.out).mono ?_
    rintro e w3 ⟨R3, R4, k3, k4, rfl, D3, D4, B3⟩
    have HD3 := Lib.hid D3; have HD4 := Lib.hid D4; have HB3 := Lib.hid (HB2.out.trans (B3.mono HB2.out.size)); have HL3 := Lib.hid (HL2.out.after B3); have HD5 := Lib.hid (HD2.out.below B3)
    clear D3 D4 B3 HB2 HL2 HD1 HD2 cD
    go_wp2_with fail
    refine (cS.out _ _ _ HD3.out).mono ?_
    rintro e w4 ⟨rfl, hw4⟩; subst w4
    clear HD3 cS
    go_wp2_with fail
    refine (cP.out _ _ _ HD4.out).mono ?_
    rintro e w4 ⟨R6, k6, rfl, D6, B4⟩
    have HD6 := Lib.hid D6; have HB4 := Lib.hid (HB3.out.trans (B4.mono HB3.out.size)); have HL4 := Lib.hid (HL3.out.after B4); have HD7 := Lib.hid (HD5.out.below B4)
    clear D6 B4 HB3 HL3 HD4 HD5 cP
    go_wp2_with fail
    refine (cC.out _ _ _ _ _ HD6.out HD7.out).mono ?_
    rintro e w5 ⟨rfl, B5⟩
    have HB5 := Lib.hid (HB4.out.trans (B5.mono HB4.out.size)); have HL5 := Lib.hid (HL4.out.after B5)
    clear B5 HB4 HL4 HD6 HD7 cC
    go_wp2_with fail
    refine (cJ.out _ HL5.out).mono ?_
    rintro e w6 ⟨rfl, hw6⟩; subst w6
    go_wp2_with fail
    go_ret2
    exact ⟨rfl, HB5.out⟩
/-- The nearest pattern to a quotient. -/
theorem nearest_any (A : Option Addr) (n c : Nat) (O : Nat) (B : Option Addr) (m d : Nat) (U : Nat) (w : World) (h1 : Digs w A n (dg O)) (h2 : Digs w B m (dg U)) (hO : O ≠ 0) (hU : U ≠ 0) {N M : Nat} (bO : O < 2 ^ N) (hN : N ≤ 1300) (bU : U < 2 ^ M) (hM : M ≤ 2600) (hL : Laid w) :
    ∃ p, NearIs (O * uu 1074) U p ∧ Calls Tryz.prog 35 #[.slice A n c, .slice B m d] w fun e w' => e = .returned (.tuple #[.int .u64 ((rdP p : Nat) : Int), .bool (rdB p)]) ∧ Below w.heap.size w w' := by
  obtain ⟨x, hx⟩ : ∃ x, x = bv (dg O) n := ⟨_, rfl⟩
  obtain ⟨y, hy⟩ : ∃ y, y = bv (dg U) m := ⟨_, rfl⟩
  have lO : Len2 O x := by rw [hx]; exact len2_bv h1.1 hO
  have lU : Len2 U y := by rw [hy]; exact len2_bv h2.1 hU
  have small : ∀ {V z N : Nat}, Len2 V z → V < 2 ^ N → z ≤ N := by
    intro V z N h k
    apply Nat.le_of_not_lt
    intro hlt
    exact absurd (Nat.lt_of_le_of_lt h.2.1 k) (Nat.not_lt.2 (Nat.pow_le_pow_right (by decide) (by have := h.1; omega)))
  have bx := Nat.le_trans (small lO bO) hN
  have yb := Nat.le_trans (small lU bU) hM
  clear bO bU small hN hM
  have hn := near_unit lO lU rfl
  obtain ⟨q53, q52⟩ := unit_is lO lU
  have gb := hi_bounds (O := O) (U := U) (x := x) (y := y)
  have x1 := lO.1
  have y1 := lU.1
  have cU := unit_any A n c O B m d U w h1 h2 hO hU x y hx hy bx yb
  obtain ⟨u, hu⟩ : ∃ u, u = uOf12 (hiOf O U x y) := ⟨_, rfl⟩
  rw [← hu] at hn q53 q52 cU
  have ub : -1074 ≤ u ∧ u ≤ 1300 ∧ -(u : Int) ≤ 2600 := by
    rw [hu]
    unfold uOf12
    split <;> omega
  have tO : O < top := top_two (N := x) (by omega) lO.2.2
  have tU : U < top := top_two (N := y) (by omega) lU.2.2
  have tP : O * 2 ^ upA u < top := moved_top lO (M := 4000) (by unfold upA; omega) (by omega)
  have tQ2 : 2 * (U * 2 ^ upB u) < top := by
    rw [Nat.mul_comm, Nat.mul_assoc, ← Nat.pow_succ]
    exact moved_top lU (M := 4000) (by unfold upB; omega) (by omega)
  have tQ : U * 2 ^ upB u < top := by omega
  have hQ : U * 2 ^ upB u ≠ 0 := by have := Nat.mul_pos lU.pos (Nat.two_pow_pos (upB u)); omega
  refine ⟨_, hn, ?_⟩
  obtain ⟨k, hk⟩ : ∃ k : Nat, (k : Int) = u + 1074 := ⟨(u + 1074).toNat, by omega⟩
  rw [show (u + 1074).toNat = k by omega]
  have mle : upQ (O * 2 ^ upA u / (U * 2 ^ upB u)) (O * 2 ^ upA u % (U * 2 ^ upB u)) (U * 2 ^ upB u) ≤ 9007199254740992 ∧ O * 2 ^ upA u / (U * 2 ^ upB u) ≤ upQ (O * 2 ^ upA u / (U * 2 ^ upB u)) (O * 2 ^ upA u % (U * 2 ^ upB u)) (U * 2 ^ upB u) := by
    unfold upQ
    generalize O * 2 ^ upA u / (U * 2 ^ upB u) = q at *
    split <;> omega
  have hj := join_near mle.1 (k := k) (by rcases q52 with h | h; exact .inl (Nat.le_trans h mle.2); exact .inr (by omega))
  rw [show (k : Int) - 1074 = u by omega] at hj
  exact nearest_core A n c B m d w u _ _ _ _ _ _ hL (Lib.hid cU) (Lib.hid fun w' hB => lowered_any A n c O B m d U u w' (h1.below hB) (h2.below hB) tO tU (by omega)) tP tQ tQ2 hQ rfl rfl q53 rfl hj
end Go.Proofs.YtojpfmlmalmlcaaGreatDoor.G

namespace Go.Proofs.YtojpfmlmalmlcaaGreatDoor.G
open Go.RowKit
set_option maxRecDepth 100000 in
theorem rd_nd : ∀ (l : List UInt8) (v : Nat), Dgs l → rd v l = some (v * 10 ^ l.length + nd l) := by
  intro l
  induction l with
  | nil => intro v _; simp [rd, nd]
  | cons c m ih =>
    intro v h
    have hc := h c List.mem_cons_self
    have hm : Dgs m := fun x hx => h x (List.mem_cons_of_mem _ hx)
    unfold isD12 at hc
    unfold rd
    rw [if_neg (by omega), ih _ hm]
    simp only [nd, dv, List.length_cons, Nat.pow_succ]
    congr 1
    grind
theorem ten_two {e N : Nat} (h : 4 * e ≤ N) : 10 ^ e ≤ 2 ^ N := by
  have h1 : (10 : Nat) ^ e ≤ (2 ^ 4) ^ e := Nat.pow_le_pow_left (by decide) e
  rw [← Nat.pow_mul] at h1
  exact Nat.le_trans h1 (Nat.pow_le_pow_right (by decide) h)
theorem ten_top {e : Nat} (h : e ≤ 1000) : 10 ^ e < top := top_two (N := 4 * e + 1) (by omega) (Nat.lt_of_le_of_lt (ten_two (Nat.le_refl _)) (Nat.pow_lt_pow_right (by decide) (by omega)))
theorem pv_nd {l : List UInt8} (h : Dgs l) (h0 : l ≠ []) (hl : l.length ≤ 300) (hz : l.getD 0 0 ≠ 48) : pv l = some (nd l) := by
  have h48 : (l.getD 0 0).toNat ≠ 48 := fun e => hz (UInt8.toNat_inj.1 e)
  unfold pv
  rw [if_neg (by intro hh; rcases hh with hh | hh | hh; exact h0 hh; omega; exact h48 hh.1), rd_nd l 0 h, Nat.zero_mul, Nat.zero_add, Option.bind_some, if_pos]
  exact Nat.lt_trans (nd_lt h) (ten_top (by omega))
theorem power10 (e : Nat) (he : e ≤ 700) (z : Int) (hz : (e : Int) = z) (w : World) :
    Calls Tryz.prog 70 #[.int .i64 10, .int .i64 z] w fun x w' => ∃ R k, x = .returned (.tuple #[.slice R (dg (10 ^ e)).length k, .bool true]) ∧ Digs w' R (dg (10 ^ e)).length (dg (10 ^ e)) ∧ Below w.heap.size w w' := by
  subst hz
  refine (power_any 10 e w (by decide) (by omega)).mono ?_
  rintro x w' ⟨B, ⟨_, R, k, rfl, D⟩ | ⟨hbad, _⟩⟩
  · exact ⟨R, k, rfl, D, B⟩
  · exact absurd (ten_top (e := e) (by omega)) (Nat.not_lt.2 hbad)
set_option maxHeartbeats 2000000 in
theorem fraction_any (l : List UInt8) (y : Int) (w : World) (h : Dgs l) (h0 : l ≠ []) (hl : l.length ≤ 300) (hz : l.getD 0 0 ≠ 48) (hy : -700 ≤ y ∧ y ≤ 400) :
    Calls Tryz.prog 36 #[.string ⟨l.toArray⟩, .int .i64 y] w fun e w' => ∃ R k S j, e = .returned (.tuple #[.slice R (dg (nd l * 10 ^ y.toNat)).length k, .slice S (dg (10 ^ (-y).toNat)).length j]) ∧
      Digs w' R (dg (nd l * 10 ^ y.toNat)).length (dg (nd l * 10 ^ y.toNat)) ∧ Digs w' S (dg (10 ^ (-y).toNat)).length (dg (10 ^ (-y).toNat)) ∧ Below w.heap.size w w' := by
  have cP := Lib.hid (parse_some (pv_nd h h0 hl hz) (by omega) w)
  have tN : nd l < top := Nat.lt_trans (nd_lt h) (ten_top (by omega))
  obtain ⟨V, hV⟩ : ∃ V, V = nd l := ⟨_, rfl⟩
  rw [← hV] at cP tN ⊢
  obtain ⟨z, hz2⟩ : ∃ z : Int, z = -y := ⟨_, rfl⟩
  have wz : wrap64 (-y) = z := by unfold wrap64; omega
  by_cases hn : y < 0
  · obtain ⟨e, he⟩ : ∃ e : Nat, (e : Int) = z := ⟨z.toNat, by omega⟩
    have cE := Lib.hid fun w => power10 e (by omega) z he w
    have e1 : y.toNat = 0 := by omega
    have e2 : (-y).toNat = e := by omega
    have f1 : y < z := by omega
    rw [e1, e2, Nat.pow_zero, Nat.mul_one]
    have d1 : decide (y < 0) = true := decide_eq_true hn
    clear e1 e2 h h0 hl hz hy hV hz2 he hn
    go_enter Tryz.func36, Tryz.ntmps36
    go_wp2_with fail
    refine cP.out.mono ?_
    rintro r w1 ⟨R1, k1, rfl, D1, B1⟩
    have HD1 := Lib.hid D1; have HB1 := Lib.hid B1
    clear D1 B1 cP
    go_wp2_with fail
    refine (cE.out _).mono ?_
    rintro r w2 ⟨R2, k2, rfl, D2, B2⟩
    have HD2 := Lib.hid D2; have HB2 := Lib.hid (HB1.out.trans (B2.mono HB1.out.size)); have HD3 := Lib.hid (HD1.out.below B2)
    clear D2 B2 cE HB1 HD1
    go_wp2_with fail
    go_ret2
    exact ⟨_, _, _, _, rfl, HD3.out, HD2.out, HB2.out⟩
  · obtain ⟨e, he⟩ : ∃ e : Nat, (e : Int) = y := ⟨y.toNat, by omega⟩
    have cE := Lib.hid fun w => power10 e (by omega) y he w
    have tE : 10 ^ e < top := ten_top (by omega)
    have e1 : y.toNat = e := by omega
    have e2 : (-y).toNat = 0 := by omega
    rw [e1, e2, Nat.pow_zero]
    have d1 : decide (y < 0) = false := decide_eq_false hn
    have cO := Lib.hid fun w => of_any9 1 (by decide) w
    rw [show ((1 : Nat) : Int) = 1 from rfl] at cO
    have cM := Lib.hid fun R k S j w h1 h2 => mul_yes R (dg V).length k V S (dg (10 ^ e)).length j (10 ^ e) w h1 h2 tN tE
    have hyz : (y = 0 ∧ z = 0) ∨ z < y := by omega
    generalize 10 ^ e = E at *
    clear e1 e2 h h0 hl hz hy hV hz2 he tE hn tN
    rcases hyz with ⟨f1, f2⟩ | f1
    all_goals
      try subst f1
      try subst f2
      go_enter Tryz.func36, Tryz.ntmps36
      go_wp2_with fail
      refine cP.out.mono ?_
      rintro r w1 ⟨R1, k1, rfl, D1, B1⟩
      have HD1 := Lib.hid D1; have HB1 := Lib.hid B1
      clear D1 B1 cP
      go_wp2_with fail
      refine (cE.out _).mono ?_
      rintro r w2 ⟨R2, k2, rfl, D2, B2⟩
      have HD2 := Lib.hid D2; have HB2 := Lib.hid (HB1.out.trans (B2.mono HB1.out.size)); have HD3 := Lib.hid (HD1.out.below B2)
      clear D2 B2 cE HB1 HD1
      go_wp2_with fail
      refine (cM.out _ _ _ _ _ HD3.out HD2.out).mono ?_
      rintro r w3 ⟨R4, k4, rfl, D4, B4⟩
      have HD4 := Lib.hid D4; have HB4 := Lib.hid (HB2.out.trans (B4.mono HB2.out.size))
      clear D4 B4 cM HB2 HD2 HD3
      go_wp2_with fail
      refine (cO.out _).mono ?_
      rintro r w4 ⟨R5, k5, rfl, D5, B5⟩
      have HD5 := Lib.hid D5; have HB5 := Lib.hid (HB4.out.trans (B5.mono HB4.out.size)); have HD6 := Lib.hid (HD4.out.below B5)
      clear D5 B5 cO HB4 HD4
      go_wp2_with fail
      go_ret2
      exact ⟨_, _, _, _, rfl, HD6.out, HD5.out, HB5.out⟩
end Go.Proofs.YtojpfmlmalmlcaaGreatDoor.G
