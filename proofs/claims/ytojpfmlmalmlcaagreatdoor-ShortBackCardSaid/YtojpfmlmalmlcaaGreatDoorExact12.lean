/-
  What the document's Exact tells: the digits of m times 2^e. No condition beyond what the contract says.
-/
import Derived.Test.YtojpfmlmalmlcaaGreatDoorTimes12
import Derived.Deep.CutBlock
import Derived.Deep.DeepCutAuto
namespace Go.Proofs.YtojpfmlmalmlcaaGreatDoor
open Go.RowKit
/-- A number of the call's own, in digits of 10^8. -/
def Num12 (w : World) (base : Nat) (v : Value) (T N : Nat) (wr : World) : Prop :=
  ∃ (A : Option Addr) (n c : Nat) (xs : List Nat), v = .slice A n c ∧ wr.ownsRow base 22 1 (.slice A n c) n (uc xs) ∧ Lm xs ∧ lv xs = T ∧ 0 < n ∧ n ≤ N ∧ Below base w wr ∧ base ≤ wr.heap.size
theorem Num12.times {w wr : World} {base T N k : Nat} {v : Value} (h : Num12 w base v T N wr) (hN : N ≤ 100000) (hk0 : 0 < k) (hk : k ≤ 10000000) :
    Calls Tryz.prog 47 #[v, .int .u64 (k : Int)] wr fun e w' => ∃ v', e = .returned v' ∧ Num12 w base v' (T * k) (N + 1) w' := by
  obtain ⟨A, n, c, xs, rfl, ho, hx, hv, h0, hn, hb, hs⟩ := h
  refine (times_any A n c base xs k wr ho hx (by omega) hs hk0 hk h0).mono ?_
  rintro e w' ⟨A', n', c', ys, rfl, h1, h2, h3, h4, h5, h6⟩
  have hs2 : base ≤ w'.heap.size := Nat.le_trans hs h6.size
  exact ⟨_, rfl, A', n', c', ys, rfl, h5, h3, by rw [h4, hv], by omega, by omega, hb.trans h6, hs2⟩
def len12 : Value → Nat
  | .slice _ n _ => n
  | _ => 0
theorem Num12.wide {w wr : World} {base T T' N N' : Nat} {v : Value} (h : Num12 w base v T N wr) (hT : T = T') (hN : N ≤ N') : Num12 w base v T' N' wr := by
  obtain ⟨A, n, c, xs, h1, h2, h3, h4, h5, h6, h7, h8⟩ := h
  exact ⟨A, n, c, xs, h1, h2, h3, h4.trans hT, h5, by omega, h7, h8⟩
theorem up20 (m k : Nat) : m * 2 ^ k * 1048576 = m * 2 ^ (k + 20) := by rw [Nat.pow_add, ← Nat.mul_assoc]
theorem up1 (m k : Nat) : m * 2 ^ k * 2 = m * 2 ^ (k + 1) := by rw [Nat.pow_succ, ← Nat.mul_assoc]
theorem five10 (m k : Nat) : m * 5 ^ k * 9765625 = m * 5 ^ (k + 10) := by rw [Nat.pow_add, ← Nat.mul_assoc]
theorem five1 (m k : Nat) : m * 5 ^ k * 5 = m * 5 ^ (k + 1) := by rw [Nat.pow_succ, ← Nat.mul_assoc]
theorem dn12 {a b c : Nat} (h : a < b) (hc : b ≤ c) : c - b < c - a := by omega
/-- Bytes of the call's own that are N digits, the lowest first, of a number V. -/
def OutAt (W : World) (D : Nat) (v : Value) (N V : Nat) (wx : World) : Prop :=
  ∃ (R : Option Addr) (k : Nat) (s : List UInt8), v = .slice R N k ∧ wx.ownsRow D 5 1 (.slice R N k) N (cellsOf s) ∧ Dgs s ∧ nd s.reverse = V ∧ Below D W wx ∧ D ≤ wx.heap.size
theorem dig_dv {d : Nat} (h : d < 10) : (UInt8.ofNat (48 + d)).toNat = 48 + d ∧ dv (UInt8.ofNat (48 + d)) = d ∧ isD12 (UInt8.ofNat (48 + d)) := by
  have e : (UInt8.ofNat (48 + d)).toNat = 48 + d := by rw [UInt8.toNat_ofNat']; omega
  refine ⟨e, ?_, ?_⟩
  · unfold dv; omega
  · unfold isD12; omega
theorem out_step {V P v C d v' : Nat} (h : V + P * v = C) (hd : d = v % 10) (hv : v' = v / 10) : d * P + V + P * 10 * v' = C := by
  have e : d + 10 * v' = v := by omega
  rw [← h, ← e]; grind
theorem ten8 (i : Nat) : 10 ^ (8 * i) = 100000000 ^ i := by rw [Nat.pow_mul]
theorem half_le {v v' j x : Nat} (h : v * 10 ^ j ≤ x) (hv : v' = v / 10) : v' * 10 ^ (j + 1) ≤ x := by
  have e : v' * 10 ≤ v := by omega
  have := Nat.mul_le_mul_right (10 ^ j) e
  rw [Nat.pow_succ, Nat.mul_comm (10 ^ j) 10, ← Nat.mul_assoc]
  omega
/-- Bytes of the call's own of which P holds. -/
def StripAt (W : World) (D : Nat) (P : List UInt8 → Prop) (v : Value) (wx : World) : Prop :=
  ∃ (R : Option Addr) (N k : Nat) (s : List UInt8), v = .slice R N k ∧ wx.ownsRow D 5 1 (.slice R N k) N (cellsOf s) ∧ P s ∧ N ≤ 20000 ∧ Below D W wx ∧ D ≤ wx.heap.size
theorem last_of {s : List UInt8} {N o : Nat} (hl : s.length = N) (ho : N = o + 1) : s = s.take o ++ [s.getD o 0] := by
  have e : s.take (o + 1) = s.take o ++ [s.getD o 0] := by
    rw [List.take_add_one]
    simp [List.getD, show o < s.length by omega]
  rw [← e, List.take_of_length_le (by omega)]
theorem tl_of {s : List UInt8} {N o : Nat} (hl : s.length = N) (ho : N = o + 1) (h : s.getD o 0 ≠ 48) : Tl s := by
  unfold Tl
  rw [last_of hl ho, List.getLast?_append]
  simpa using h
/-- Digits, the lowest first, of T. -/
def Tells (T : Nat) (s : List UInt8) : Prop := Dgs s ∧ nd s.reverse = T
theorem Tells.cut {T o : Nat} {s : List UInt8} (h : Tells T s) (hs : s = s.take o ++ [48]) : Tells T (s.take o) := by
  obtain ⟨h1, h2⟩ := h
  generalize s.take o = r at *
  subst hs
  refine ⟨h1.left, ?_⟩
  rw [List.reverse_append] at h2
  simpa [nd, dv] using h2
/-- The front of the digits turned round, noughts behind it left out. -/
def Front (s0 : List UInt8) (d : List UInt8) : Prop := ∃ z, d ++ List.replicate z 48 = s0.reverse
theorem Front.cut {s0 s : List UInt8} {o : Nat} (h : Front s0 s) (hs : s = s.take o ++ [48]) : Front s0 (s.take o) := by
  obtain ⟨z, hz⟩ := h
  generalize s.take o = r at *
  subst hs
  refine ⟨z + 1, ?_⟩
  rw [← hz, List.replicate_succ, List.append_assoc, List.singleton_append]
/-- The limbs of m, some of the noughts ahead left out. -/
def TrAt (w : World) (base m : Nat) (v : Value) (wr : World) : Prop := Num12 w base v m 3 wr
set_option maxHeartbeats 8000000 in
set_option maxRecDepth 100000 in
theorem exact_any (m : Nat) (e : Int) (w : World) (hm0 : 0 < m) (hm : m < 18014398509481984) (he : -1075 ≤ e ∧ e ≤ 971) :
    Calls Tryz.prog 23 #[.int .u64 (m : Int), .int .i64 e] w fun r w' => (∃ d y, r = .returned (.tuple #[.string ⟨d.toArray⟩, .int .i64 y]) ∧ Fine d y (m * 2 ^ (e + 1075).toNat)) ∧ Below w.heap.size w w' := by
  obtain ⟨Mx, hMx⟩ : ∃ Mx, Mx = m * 2 ^ (e + 1075).toNat := ⟨_, rfl⟩
  rw [← hMx]
  replace hMx := Lib.hid hMx
  obtain ⟨a0, ha0⟩ : ∃ a0, a0 = m % 100000000 := ⟨_, rfl⟩
  obtain ⟨q0, hq0⟩ : ∃ q0, q0 = m / 100000000 := ⟨_, rfl⟩
  obtain ⟨a1, ha1⟩ : ∃ a1, a1 = q0 % 100000000 := ⟨_, rfl⟩
  obtain ⟨a2, ha2⟩ : ∃ a2, a2 = m / 10000000000000000 := ⟨_, rfl⟩
  have x1 : (m : Int).tmod 100000000 = (a0 : Int) := by rw [Int.tmod_eq_emod_of_nonneg (by omega)]; omega
  have x1' : (m : Int) % 100000000 = (a0 : Int) := by omega
  have x2 : (m : Int).tdiv 100000000 = (q0 : Int) := by rw [Int.tdiv_eq_ediv_of_nonneg (by omega)]; omega
  have x2' : (m : Int) / 100000000 = (q0 : Int) := by omega
  have x3 : (q0 : Int).tmod 100000000 = (a1 : Int) := by rw [Int.tmod_eq_emod_of_nonneg (by omega)]; omega
  have x3' : (q0 : Int) % 100000000 = (a1 : Int) := by omega
  have x4 : (m : Int).tdiv 10000000000000000 = (a2 : Int) := by rw [Int.tdiv_eq_ediv_of_nonneg (by omega)]; omega
  have x4' : (m : Int) / 10000000000000000 = (a2 : Int) := by omega
  have hLV : lv [a0, a1, a2] = m := by simp only [lv]; omega
  have hLM : Lm [a0, a1, a2] := by
    intro x hx
    simp only [List.mem_cons, List.not_mem_nil, or_false] at hx
    omega
  have ho : (w.alloc (.cells #[.int .u64 (a0 : Int), .int .u64 (a1 : Int), .int .u64 (a2 : Int)] 22)).ownsRow w.heap.size 22 1 (.slice (some ⟨w.heap.size, 0, none⟩) 3 3) 3 (uc [a0, a1, a2]) :=
    own_new w 22 (uc [a0, a1, a2]) (Nat.le_refl _) (by rw [uc_length]; simp [maxLen])
  have HS : Hid (TrAt w w.heap.size m (.slice (some ⟨w.heap.size, 0, none⟩) 3 3) (w.alloc (.cells #[.int .u64 (a0 : Int), .int .u64 (a1 : Int), .int .u64 (a2 : Int)] 22))) :=
    ⟨_, 3, 3, _, rfl, ho, hLM, hLV, by decide, by decide, (Below.refl _ _).alloc (Nat.le_refl _) _, by simp⟩
  have y1 := ur12 (x := a0) (by omega)
  have y2 := ur12 (x := q0) (by omega)
  have y3 := ur12 (x := a1) (by omega)
  have y4 := ur12 (x := a2) (by omega)
  have HM := Lib.hid hm; have HM0 := Lib.hid hm0; have HE := Lib.hid he
  clear hm hm0 he ha0 hq0 ha1 ha2 hLV hLM ho
  go_enter Tryz.func23, Tryz.ntmps23
  go_upto_block 0 with fail
  clear x1 x1' x2 x2' x3 x3' x4 x4' y1 y2 y3 y4
  go_cut [6] (fun v6 wx => TrAt w w.heap.size m v6 wx)
  case first =>
    go_wp2_with fail
    go_loopw [6] (fun v wr => TrAt w w.heap.size m v wr) (fun v _ => len12 v)
    case atStart => exact HS.out
    case round =>
      clear HS
      obtain ⟨A, n, c, xs, rfl, ho, hx, hv, h0, hn, hb, hs⟩ := hrel
      obtain ⟨g, post, rfl, hg, hr, hl0, -⟩ := own_back ho h0
      have hl : xs.length = n := by rw [uc_length] at hl0; exact hl0
      by_cases hc : 1 < n ∧ xs.getD (n - 1) 0 = 0
      · obtain ⟨h1, h2⟩ := hc
        obtain ⟨o, hno⟩ : ∃ o, n = o + 1 := ⟨n - 1, by omega⟩
        have d1 : decide ((1 : Int) < (n : Int)) = true := by simp; omega
        have d1n : decide (1 < n) = true := by simp; omega
        have z1 : wrap64 ((n : Int) - 1) = (o : Int) := by unfold wrap64; omega
        rw [show n - 1 = o by omega] at h2
        have c1 : wr.cell? ⟨g, o, none⟩ = some (.int .u64 0) := by
          rw [hr.cell o, List.getElem?_append_left (by rw [uc_length]; omega), uc_get _ o (by omega), h2]; rfl
        have hcap := (own_caps ho).1
        have HN : Hid (TrAt w w.heap.size m (.slice (some ⟨g, 0, none⟩) o c) wr) :=
          ⟨_, o, c, xs.take o, rfl, by rw [uc_take]; exact own_cut ho o (by omega) (by omega), hx.take o, by
            have e : lv (xs.take (o + 1)) = lv (xs.take o) + 100000000 ^ o * xs.getD o 0 := lv_take xs o (by omega)
            rw [List.take_of_length_le (by omega)] at e
            rw [h2, Nat.mul_zero, Nat.add_zero] at e
            rw [← e, hv], by omega, by omega, hb, hs⟩
        have i0 : (0 : Int) ≤ (o : Int) := by omega
        have iN : (o : Int) < (n : Int) := by omega
        have HM12 : Hid (o < n) := show _ < _ by omega
        have b3 : (o : Int) ≤ (c : Int) := by omega
        have b4 : o ≤ c := by omega
        clear ho hx hv hg hr hl0 hl h0 hn hb hs h1 h2 hcap hno
        go_wp2_with fail
        go_roundw
        case rel => exact HN.out
        case measure => exact HM12.out
      · have HN : Hid (TrAt w w.heap.size m (.slice (some ⟨g, 0, none⟩) n c) wr) := ⟨_, n, c, xs, rfl, ho, hx, hv, h0, hn, hb, hs⟩
        by_cases h1 : 1 < n
        · obtain ⟨o, hno⟩ : ∃ o, n = o + 1 := ⟨n - 1, by omega⟩
          have d1 : decide ((1 : Int) < (n : Int)) = true := by simp; omega
          have d1n : decide (1 < n) = true := by simp; omega
          have z1 : wrap64 ((n : Int) - 1) = (o : Int) := by unfold wrap64; omega
          have h2 : ¬ xs.getD o 0 = 0 := fun h => hc ⟨h1, by rw [show n - 1 = o by omega]; exact h⟩
          have c1 : wr.cell? ⟨g, o, none⟩ = some (.int .u64 ((xs.getD o 0 : Nat) : Int)) := by
            rw [hr.cell o, List.getElem?_append_left (by rw [uc_length]; omega), uc_get _ o (by omega)]
          generalize xs.getD o 0 = x at *
          have d2 : ((x : Int) == 0) = false := by simp only [beq_eq_false_iff_ne]; omega
          have i0 : (0 : Int) ≤ (o : Int) := by omega
          have iN : (o : Int) < (n : Int) := by omega
          clear ho hx hv hg hr hl0 hl h0 hn hb hs h1 h2 hno hc
          go_wp2_with fail
          go_meet
          exact HN.out
        · have d1 : decide ((1 : Int) < (n : Int)) = false := by simp; omega
          have d1n : decide (1 < n) = false := by simp; omega
          clear ho hx hv hg hr hl0 hl h0 hn hb hs h1 hc
          go_wp2_with fail
          go_meet
          exact HN.out
  case rest =>
    clear HS
    have HS := Lib.hid hcut
    clear hcut
    go_upto_block 2 with fail
    go_cut [6, 7] (fun v6 v7 wx => ∃ k : Nat, v7 = .int .i64 (k : Int) ∧ Num12 w w.heap.size v6 (m * 2 ^ k) (3 + k) wx ∧ (e < 0 → k = 0) ∧ (0 ≤ e → (k : Int) ≤ e))
    case first =>
      go_wp2_with fail
      go_loopw [6, 7] (fun v6 v7 wx => ∃ k : Nat, v7 = .int .i64 (k : Int) ∧ Num12 w w.heap.size v6 (m * 2 ^ k) (3 + k) wx ∧ (e < 0 → k = 0) ∧ (0 ≤ e → (k : Int) ≤ e)) (fun _ v _ => 1000 - (intOf v).toNat)
      case atStart => exact ⟨0, rfl, HS.out.wide (by simp) (by omega), fun _ => rfl, fun h => h⟩
      case round =>
        clear HS
        obtain ⟨k, rfl, hN, hk1, hk2⟩ := hrel
        have hE := HE.out
        have hkb : k ≤ 971 := by omega
        obtain ⟨k2, hk⟩ : ∃ k2, k2 = k + 20 := ⟨_, rfl⟩
        have z1 : wrap64 ((k : Int) + 20) = (k2 : Int) := by unfold wrap64; omega
        by_cases hc : (k2 : Int) ≤ e
        · have d1 : decide ((k2 : Int) ≤ e) = true := by simpa using hc
          have cT : Hid (Calls Tryz.prog 47 #[u6, .int .u64 1048576] wr fun e' w' => ∃ v', e' = .returned v' ∧ Num12 w w.heap.size v' (m * 2 ^ k * 1048576) (3 + k + 1) w') := hN.times (by omega) (by decide) (by decide)
          have HK : Hid ((e < 0 → k2 = 0) ∧ (0 ≤ e → (k2 : Int) ≤ e)) := show _ ∧ _ by omega
          have HKK : Hid (k2 = k + 20 ∧ k2 ≤ 1000) := show _ ∧ _ by omega
          clear hN hk1 hk2 hE hkb hk hc
          go_wp2_with fail
          refine cT.out.mono ?_
          rintro r w1 ⟨v1, rfl, hN1⟩
          have HN1 : Hid (Num12 w w.heap.size v1 (m * 2 ^ k2) (3 + k2) w1) := hN1.wide (by rw [up20, HKK.out.1]) (by have := HKK.out.1; omega)
          clear hN1 cT
          go_wp2_with fail
          go_roundw
          case rel => exact ⟨k2, by rw [z1], HN1.out, HK.out⟩
          case measure =>
            have h := HKK.out
            clear d1
            rw [z1]
            clear z1
            simp only [intOf, Int.toNat_natCast]
            exact dn12 (by omega) h.2
        · have d1 : decide ((k2 : Int) ≤ e) = false := by simpa using hc
          have HN := Lib.hid hN
          have HK : Hid ((e < 0 → k = 0) ∧ (0 ≤ e → (k : Int) ≤ e)) := ⟨hk1, hk2⟩
          clear hN hk1 hk2 hE hkb hk hc
          go_wp2_with fail
          go_meet
          exact ⟨k, rfl, HN.out, HK.out⟩
    case rest =>
    clear HS
    obtain ⟨k, rfl, hN, hk⟩ := hcut
    have HS := Lib.hid hN
    have HK := Lib.hid hk
    clear hN hk
    go_upto_block 4 with fail
    go_cut [6, 7] (fun v6 v7 wx => ∃ k : Nat, v7 = .int .i64 (k : Int) ∧ Num12 w w.heap.size v6 (m * 2 ^ k) (3 + k) wx ∧ (e < 0 → k = 0) ∧ (0 ≤ e → (k : Int) = e))
    case first =>
      go_wp2_with fail
      go_loopw [6, 7] (fun v6 v7 wx => ∃ k : Nat, v7 = .int .i64 (k : Int) ∧ Num12 w w.heap.size v6 (m * 2 ^ k) (3 + k) wx ∧ (e < 0 → k = 0) ∧ (0 ≤ e → (k : Int) ≤ e)) (fun _ v _ => 1000 - (intOf v).toNat)
      case atStart => exact ⟨_, rfl, HS.out, HK.out⟩
      case round =>
        clear HS HK
        obtain ⟨k, rfl, hN, hk1, hk2⟩ := hrel
        have hE := HE.out
        have hkb : k ≤ 971 := by omega
        obtain ⟨k2, hk⟩ : ∃ k2, k2 = k + 1 := ⟨_, rfl⟩
        have z1 : wrap64 ((k : Int) + 1) = (k2 : Int) := by unfold wrap64; omega
        by_cases hc : (k : Int) < e
        · have d1 : decide ((k : Int) < e) = true := by simpa using hc
          have cT : Hid (Calls Tryz.prog 47 #[u6, .int .u64 2] wr fun e' w' => ∃ v', e' = .returned v' ∧ Num12 w w.heap.size v' (m * 2 ^ k * 2) (3 + k + 1) w') := hN.times (by omega) (by decide) (by decide)
          have HK : Hid ((e < 0 → k2 = 0) ∧ (0 ≤ e → (k2 : Int) ≤ e)) := show _ ∧ _ by omega
          have HKK : Hid (k2 = k + 1 ∧ k2 ≤ 1000) := show _ ∧ _ by omega
          clear hN hk1 hk2 hE hkb hk hc
          go_wp2_with fail
          refine cT.out.mono ?_
          rintro r w1 ⟨v1, rfl, hN1⟩
          have HN1 : Hid (Num12 w w.heap.size v1 (m * 2 ^ k2) (3 + k2) w1) := hN1.wide (by rw [up1, HKK.out.1]) (by have := HKK.out.1; omega)
          clear hN1 cT
          go_wp2_with fail
          go_roundw
          case rel => exact ⟨k2, by rw [z1], HN1.out, HK.out⟩
          case measure =>
            have h := HKK.out
            clear d1
            rw [z1]
            clear z1
            simp only [intOf, Int.toNat_natCast]
            exact dn12 (by omega) h.2
        · have d1 : decide ((k : Int) < e) = false := by simpa using hc
          have HN := Lib.hid hN
          have HK : Hid ((e < 0 → k = 0) ∧ (0 ≤ e → (k : Int) = e)) := ⟨hk1, fun h => by have := hk2 h; omega⟩
          clear hN hk1 hk2 hE hkb hk hc
          go_wp2_with fail
          go_meet
          exact ⟨k, rfl, HN.out, HK.out⟩
    case rest =>
    clear HS HK
    obtain ⟨k, rfl, hN, hk⟩ := hcut
    have HS : Hid (Num12 w w.heap.size u6 (m * 2 ^ e.toNat) 1000 wc) := hN.wide (by rw [show k = e.toNat by omega]) (by have := HE.out; omega)
    clear hN hk
    obtain ⟨T1, hT1⟩ : ∃ T1, T1 = m * 2 ^ e.toNat := ⟨_, rfl⟩
    rw [← hT1] at HS
    replace hT1 := Lib.hid hT1
    go_upto_block 6 with fail
    go_cut [6, 7] (fun v6 v7 wx => ∃ (k : Nat) (K : Int), K = -(k : Int) ∧ v7 = .int .i64 K ∧ Num12 w w.heap.size v6 (T1 * 5 ^ k) (1000 + k) wx ∧ (0 ≤ e → k = 0) ∧ (e < 0 → e ≤ K))
    case first =>
      go_wp2_with fail
      go_loopw [6, 7] (fun v6 v7 wx => ∃ (k : Nat) (K : Int), K = -(k : Int) ∧ v7 = .int .i64 K ∧ Num12 w w.heap.size v6 (T1 * 5 ^ k) (1000 + k) wx ∧ (0 ≤ e → k = 0) ∧ (e < 0 → e ≤ K)) (fun _ v _ => 1200 - (-(intOf v)).toNat)
      case atStart => exact ⟨0, 0, by simp, rfl, HS.out.wide (by simp) (by omega), fun _ => rfl, fun h => by omega⟩
      case round =>
        clear HS
        obtain ⟨k, K, hK, rfl, hN, hk1, hk2⟩ := hrel
        have hE := HE.out
        have hkb : k ≤ 1075 := by omega
        obtain ⟨K2, hk⟩ : ∃ K2, K2 = K - 10 := ⟨_, rfl⟩
        have z1 : wrap64 (K - 10) = K2 := by unfold wrap64; omega
        by_cases hc : e ≤ K2
        · have d1 : decide (e ≤ K2) = true := by simpa using hc
          have cT : Hid (Calls Tryz.prog 47 #[u6, .int .u64 9765625] wr fun e' w' => ∃ v', e' = .returned v' ∧ Num12 w w.heap.size v' (T1 * 5 ^ k * 9765625) (1000 + k + 1) w') := hN.times (by omega) (by decide) (by decide)
          have HK : Hid ((0 ≤ e → k + 10 = 0) ∧ (e < 0 → e ≤ K2)) := show _ ∧ _ by omega
          have HKK : Hid (K2 = -((k + 10 : Nat) : Int) ∧ K = -(k : Int) ∧ k + 10 ≤ 1200) := show _ ∧ _ by omega
          clear hN hk1 hk2 hE hkb hk hc hK
          go_wp2_with fail
          refine cT.out.mono ?_
          rintro r w1 ⟨v1, rfl, hN1⟩
          have HN1 : Hid (Num12 w w.heap.size v1 (T1 * 5 ^ (k + 10)) (1000 + (k + 10)) w1) := hN1.wide (by rw [five10]) (by omega)
          clear hN1 cT
          go_wp2_with fail
          go_roundw
          case rel => exact ⟨k + 10, K2, HKK.out.1, by rw [z1], HN1.out, HK.out⟩
          case measure =>
            have h := HKK.out
            clear d1
            rw [z1]
            clear z1
            simp only [intOf]
            rw [h.1, h.2.1]
            exact dn12 (by omega) (by omega)
        · have d1 : decide (e ≤ K2) = false := by simpa using hc
          have HN := Lib.hid hN
          have HK : Hid ((0 ≤ e → k = 0) ∧ (e < 0 → e ≤ K)) := ⟨hk1, hk2⟩
          have HKE := Lib.hid hK
          clear hN hk1 hk2 hE hkb hk hc hK
          go_wp2_with fail
          go_meet
          exact ⟨k, K, HKE.out, rfl, HN.out, HK.out⟩
    case rest =>
    clear HS
    obtain ⟨k, K, hK, rfl, hN, hk⟩ := hcut
    have HS := Lib.hid hN
    have HK := Lib.hid hk
    have HKE := Lib.hid hK
    clear hN hk hK
    go_upto_block 8 with fail
    go_cut [6, 7] (fun v6 v7 wx => ∃ (k : Nat) (K : Int), K = -(k : Int) ∧ v7 = .int .i64 K ∧ Num12 w w.heap.size v6 (T1 * 5 ^ k) (1000 + k) wx ∧ (0 ≤ e → k = 0) ∧ (e < 0 → e = K))
    case first =>
      go_wp2_with fail
      go_loopw [6, 7] (fun v6 v7 wx => ∃ (k : Nat) (K : Int), K = -(k : Int) ∧ v7 = .int .i64 K ∧ Num12 w w.heap.size v6 (T1 * 5 ^ k) (1000 + k) wx ∧ (0 ≤ e → k = 0) ∧ (e < 0 → e ≤ K)) (fun _ v _ => 1200 - (-(intOf v)).toNat)
      case atStart => exact ⟨k, K, HKE.out, rfl, HS.out, HK.out⟩
      case round =>
        clear HS HK HKE
        obtain ⟨k, K, hK, rfl, hN, hk1, hk2⟩ := hrel
        have hE := HE.out
        have hkb : k ≤ 1075 := by omega
        obtain ⟨K2, hk⟩ : ∃ K2, K2 = K - 1 := ⟨_, rfl⟩
        have z1 : wrap64 (K - 1) = K2 := by unfold wrap64; omega
        by_cases hc : e < K
        · have d1 : decide (e < K) = true := by simpa using hc
          have cT : Hid (Calls Tryz.prog 47 #[u6, .int .u64 5] wr fun e' w' => ∃ v', e' = .returned v' ∧ Num12 w w.heap.size v' (T1 * 5 ^ k * 5) (1000 + k + 1) w') := hN.times (by omega) (by decide) (by decide)
          have HK : Hid ((0 ≤ e → k + 1 = 0) ∧ (e < 0 → e ≤ K2)) := show _ ∧ _ by omega
          have HKK : Hid (K2 = -((k + 1 : Nat) : Int) ∧ K = -(k : Int) ∧ k + 1 ≤ 1200) := show _ ∧ _ by omega
          clear hN hk1 hk2 hE hkb hk hc hK
          go_wp2_with fail
          refine cT.out.mono ?_
          rintro r w1 ⟨v1, rfl, hN1⟩
          have HN1 : Hid (Num12 w w.heap.size v1 (T1 * 5 ^ (k + 1)) (1000 + (k + 1)) w1) := hN1.wide (by rw [five1]) (by omega)
          clear hN1 cT
          go_wp2_with fail
          go_roundw
          case rel => exact ⟨k + 1, K2, HKK.out.1, by rw [z1], HN1.out, HK.out⟩
          case measure =>
            have h := HKK.out
            clear d1
            rw [z1]
            clear z1
            simp only [intOf]
            rw [h.1, h.2.1]
            exact dn12 (by omega) (by omega)
        · have d1 : decide (e < K) = false := by simpa using hc
          have HN := Lib.hid hN
          have HK : Hid ((0 ≤ e → k = 0) ∧ (e < 0 → e = K)) := ⟨hk1, fun h => by have := hk2 h; omega⟩
          have HKE := Lib.hid hK
          clear hN hk1 hk2 hE hkb hk hc hK
          go_wp2_with fail
          go_meet
          exact ⟨k, K, HKE.out, rfl, HN.out, HK.out⟩
    case rest =>
    clear HS HK HKE
    obtain ⟨k, K, hK, rfl, hN, hk⟩ := hcut
    have HS : Hid (Num12 w w.heap.size u6 (T1 * 5 ^ (-e).toNat) 2100 wc) := hN.wide (by rw [show k = (-e).toNat by omega]) (by have := HE.out; omega)
    clear hN hk hK
    obtain ⟨T, hT⟩ : ∃ T, T = T1 * 5 ^ (-e).toNat := ⟨_, rfl⟩
    rw [← hT] at HS
    replace hT := Lib.hid hT
    obtain ⟨i8, hi8, hy0, hy1, hy2⟩ := info_of info_u8'
    have HY0 := Lib.hid hy0; have HI8 := Lib.hid hi8; have HY1 := Lib.hid hy1; have HY2 := Lib.hid hy2
    clear hi8 hy0 hy1 hy2
    obtain ⟨A, n, c, xs, rfl, ho, hx, hv, h0, hn, hb, hs⟩ := HS.out
    clear HS
    obtain ⟨g, post, rfl, hg, hr, hl0, -⟩ := own_back ho h0
    have hl : xs.length = n := by rw [uc_length] at hl0; exact hl0
    obtain ⟨D, hD⟩ : ∃ D, D = wc.heap.size := ⟨_, rfl⟩
    have HGD : Hid (g < D) := show _ < _ by rw [hD]; exact hr.lt
    have HDW : Hid (w.heap.size ≤ D) := show _ ≤ _ by rw [hD]; exact hs
    obtain ⟨wcD, hwD⟩ : ∃ v, v = wc := ⟨_, rfl⟩
    rw [← hwD] at hr hb hD
    replace hwD := Lib.hid hwD
    have HDE := Lib.hid hD; have HR := Lib.hid hr; have HX := Lib.hid hx; have HV := Lib.hid hv; have HN := Lib.hid hn; have HBW := Lib.hid hb; have HL := Lib.hid hl
    clear ho hx hv hg hr hl0 hl h0 hn hb hs hD
    go_upto_block 10 with fail
    go_cut [8, 9, 10, 11] (fun v8 _ _ _ wx => OutAt wcD D v8 (8 * n) T wx)
    case first =>
      go_wp2_with fail
      go_loopw [8, 9, 10, 11] (fun v8 v9 _ _ wx => ∃ i : Nat, v9 = .int .i64 (i : Int) ∧ i ≤ n ∧ OutAt wcD D v8 (8 * i) (lv (xs.take i)) wx) (fun _ v9 _ _ _ => n - (intOf v9).toNat)
      case atStart => exact ⟨0, rfl, by omega, none, 0, [], rfl, World.ownsRow_nil _ _ _ _, (fun x hx => by cases hx), rfl, by rw [hwD.out]; exact Below.refl _ _, by rw [HDE.out, hwD.out]; exact Nat.le_refl _⟩
      case round =>
        obtain ⟨i, rfl, hi, hO⟩ := hrel
        by_cases hlt : i < n
        · have d1 := lt_t12 hlt
          have d1n := ltn_t12 hlt
          have i0 : (0 : Int) ≤ (i : Int) := by omega
          have iN : (i : Int) < (n : Int) := by omega
          have hix : i < xs.length := by rw [HL.out]; exact hlt
          obtain ⟨_, _, _, _, _, _, _, hB, _⟩ := id hO
          have x1 : wr.cell? ⟨g, i, none⟩ = some (.int .u64 ((xs.getD i 0 : Nat) : Int)) := by
            rw [hB.cell (p := ⟨g, i, none⟩) HGD.out, HR.out.cell i, List.getElem?_append_left (by rw [uc_length]; omega), uc_get _ i hix]
          have hxl := HX.out.get i
          have htk := lv_take xs i hix
          generalize xs.getD i 0 = x at *
          have HXL := Lib.hid hxl; have HTK := Lib.hid htk; have HLT := Lib.hid hlt; have HO := Lib.hid hO
          have HZ : Hid (wrap64 ((i : Int) + 1) = ((i + 1 : Nat) : Int)) := show _ = _ by have := HN.out; unfold wrap64; omega
          clear hxl htk hlt hO hix hi hB
          go_wp2_with fail
          clear x1
          go_loopw [8, 10, 11] (fun v8 v10 v11 wx => ∃ j v V : Nat, v11 = .int .i64 (j : Int) ∧ v10 = .int .u64 (v : Int) ∧ j ≤ 8 ∧ OutAt wcD D v8 (8 * i + j) V wx ∧ V + 10 ^ (8 * i + j) * v = lv (xs.take i) + 10 ^ (8 * i) * x ∧ v * 10 ^ j ≤ x) (fun _ _ v11 _ => 8 - (intOf v11).toNat)
          case atStart => exact ⟨0, x, _, rfl, rfl, by omega, HO.out, rfl, by simp⟩
          case round =>
            clear HO
            obtain ⟨j, v, V, rfl, rfl, hj, hO, hV, hvx⟩ := hrel
            have hvb : v < 100000000 := by
              have h1 : v * 1 ≤ v * 10 ^ j := Nat.mul_le_mul_left v (ten_pos j)
              have := HXL.out
              omega
            by_cases hjt : j < 8
            · have d2 : decide ((j : Int) < 8) = true := by simp; omega
              obtain ⟨d, hd⟩ : ∃ d, d = v % 10 := ⟨_, rfl⟩
              obtain ⟨v2, hv2⟩ : ∃ v2, v2 = v / 10 := ⟨_, rfl⟩
              obtain ⟨ch, hch⟩ : ∃ ch : UInt8, ch = UInt8.ofNat (48 + d) := ⟨_, rfl⟩
              obtain ⟨q1, q2, q3⟩ := dig_dv (d := d) (by omega)
              rw [← hch] at q1 q2 q3
              have e1 : (v : Int).tmod 10 = (d : Int) := by rw [Int.tmod_eq_emod_of_nonneg (by omega)]; omega
              have e2 : (v : Int) % 10 = (d : Int) := by omega
              have e3 : (v : Int).tdiv 10 = (v2 : Int) := by rw [Int.tdiv_eq_ediv_of_nonneg (by omega)]; omega
              have e4 : (v : Int) / 10 = (v2 : Int) := by omega
              have y1 : IntKind.u64.wrap (48 + (d : Int)) = (ch.toNat : Int) := by rw [IntKind.wrap_u64]; omega
              have y2 : 48 + (d : Int) = (ch.toNat : Int) := by omega
              have y3 : IntKind.u8.wrap (ch.toNat : Int) = (ch.toNat : Int) := by rw [IntKind.wrap_u8]; omega
              have y4 := ur12 (x := ch.toNat) (by omega)
              have y5 := ur12 (x := v2) (by omega)
              have y6 := ur12 (x := d) (by omega)
              obtain ⟨N, hNN⟩ : ∃ N, N = 8 * i + j := ⟨_, rfl⟩
              rw [← hNN] at hO hV
              have HV2 : Hid (d * 10 ^ N + V + 10 ^ (N + 1) * v2 = lv (xs.take i) + 10 ^ (8 * i) * x) := show _ = _ by
                rw [Nat.pow_succ]; exact out_step hV hd hv2
              have HVX : Hid (v2 * 10 ^ (j + 1) ≤ x) := half_le hvx hv2
              have HJ : Hid (j + 1 ≤ 8) := hjt
              have HNJ : Hid (8 * i + (j + 1) = N + 1) := show _ = _ by omega
              have HZJ : Hid (wrap64 ((j : Int) + 1) = ((j + 1 : Nat) : Int)) := show _ = _ by unfold wrap64; omega
              have hNb : N ≤ 20000 := by have := HLT.out; have := HN.out; omega
              obtain ⟨R, k8, s, rfl, hown, hdg, hval, hbl, hsz0⟩ := hO
              have l2 : N + 1 ≤ maxLen := by simp only [maxLen]; omega
              have l3 : (N + 1) * 1 ≤ 140737488355328 := by omega
              have hgn := heap_alloc_new wr (.cells #[.int .u8 (ch.toNat : Int)] 5)
              have HOA : Hid ((wr.alloc (.cells #[.int .u8 (ch.toNat : Int)] 5)).ownsRow D 5 1 (.slice R N k8) N (cellsOf s)) := hown.alloc _
              have HBA : Hid (Below D wcD (wr.alloc (.cells #[.int .u8 (ch.toNat : Int)] 5))) := hbl.alloc hsz0 _
              have HSr : Hid (0 < 1 → ∃ ad, some (⟨wr.heap.size, 0, none⟩ : Addr) = some ad ∧ ∀ j u, ([.int .u8 (ch.toNat : Int)] : List Value)[j]? = some u → (wr.alloc (.cells #[.int .u8 (ch.toNat : Int)] 5)).cell? (ad.add j) = some u) := fun _ =>
                ⟨_, rfl, World.news_of_block (cs := #[.int .u8 (ch.toNat : Int)]) (t := 5) (fr := (0, 0)) hgn⟩
              have HSZ : Hid (D ≤ (wr.alloc (.cells #[.int .u8 (ch.toNat : Int)] 5)).heap.size) := Nat.le_trans hsz0 (by simp)
              have l4 : ∀ u ∈ ([.int .u8 (ch.toNat : Int)] : List Value), u.oneCell' = true := by simp [Value.oneCell']
              have HDG : Hid (Dgs (s ++ [ch])) := hdg.append (fun x hx => by
                have : x = ch := by simpa using hx
                rw [this]; exact q3)
              have hsl : s.length = N := by have := hown.1; rw [cellsOf_length] at this; omega
              have HND : Hid (nd (s ++ [ch]).reverse = d * 10 ^ N + V) := show _ = _ by
                rw [List.reverse_append]
                show dv ch * 10 ^ s.reverse.length + nd s.reverse = _
                rw [List.length_reverse, hsl, q2, hval]
              clear hgn hown hbl hsz0 hdg hval hsl q1 q2 q3 hch hd hv2 hV hvx hvb hjt hj hNb hNN
              go_wp2_with (first | (at_builtin; refine wpList_append_held _ rfl (.tmp 84) (.tmp 89) 75 rfl D 5 i8 _ 1 Tryz.underlying75 HI8.out HY0.out HY1.out HY2.out rfl _ N _ rfl HOA.out (some ⟨wr.heap.size, 0, none⟩) 1 1 [.int .u8 (ch.toNat : Int)] rfl rfl HSr.out l4 l2 l3 HSZ.out ?_))
              intro A6 c6 w6 ho6 hg6 _
              have HB6 : Hid (Below D wcD w6) := HBA.out.grown hg6 HSZ.out (fun k hk => (HOA.out.lt k hk).1)
              have HO6 : Hid (w6.ownsRow D 5 1 (.slice A6 (N + 1) c6) (N + 1) (cellsOf (s ++ [ch]))) := by
                rw [cellsOf_append]
                exact ho6.out
              have HS6 : Hid (D ≤ w6.heap.size) := Nat.le_trans HSZ.out hg6.size
              clear ho6 hg6 HOA HBA HSr l4 HSZ l2 l3
              go_wp2_with fail
              go_roundw
              case rel => exact ⟨j + 1, v2, d * 10 ^ N + V, by rw [HZJ.out], rfl, HJ.out, by rw [HNJ.out]; exact ⟨A6, c6, s ++ [ch], rfl, HO6.out, HDG.out, HND.out, HB6.out, HS6.out⟩, by rw [HNJ.out]; exact HV2.out, HVX.out⟩
              case measure =>
                have h := HJ.out
                rw [HZJ.out]
                clear e1 e2 e3 e4 y1 y2 y3 y4 y5 y6 d2 d1 d1n i0 iN
                exact meas12 h
            · obtain rfl : j = 8 := by omega
              have d2 : decide (((8 : Nat) : Int) < 8) = false := by decide
              have hv0 : v = 0 := by have := HXL.out; omega
              subst hv0
              rw [Nat.mul_zero, Nat.add_zero, ten8 i] at hV
              have HO : Hid (OutAt wcD D u8 (8 * (i + 1)) (lv (xs.take (i + 1))) wr) := by
                rw [HTK.out, ← hV, Nat.mul_add]
                exact hO
              clear hO hV hvx hvb hj hjt
              go_wp2_with fail
              go_roundw
              case rel => exact ⟨i + 1, by rw [HZ.out], HLT.out, HO.out⟩
              case measure =>
                rw [HZ.out]
                clear d1 d1n i0 iN d2
                exact meas12 HLT.out
        · obtain rfl : i = n := by omega
          have d1 := lt_f12 (Nat.le_refl i)
          have d1n := ltn_f12 (Nat.le_refl i)
          rw [List.take_of_length_le (by rw [HL.out]; exact Nat.le_refl _), HV.out] at hO
          have HO := Lib.hid hO
          clear hO hlt hi
          go_wp2_with fail
          go_meet
          exact HO.out
    case rest =>
    have HO := Lib.hid hcut
    clear hcut
    go_upto_block 14 with fail
    go_cut [8] (fun v wx => StripAt wcD D (fun s => (Tells T) s ∧ Tl s) v wx)
    case first =>
      go_wp2_with fail
      go_loopw [8] (fun v wx => StripAt wcD D (Tells T) v wx) (fun v _ => len12 v)
      case atStart => exact by obtain ⟨R, k8, s, h1, h2, h3, h4, h5, h6⟩ := HO.out; exact ⟨R, 8 * n, k8, s, h1, h2, ⟨h3, h4⟩, by have := HN.out; omega, h5, h6⟩
      case round =>
        obtain ⟨R, N, k, s, rfl, ho, hP, hN, hb, hs⟩ := hrel
        have hl : s.length = N := by have := ho.1; rw [cellsOf_length] at this; omega
        by_cases h0 : N = 0
        · subst h0
          have hs0 : s = [] := List.eq_nil_of_length_eq_zero hl
          have HN : Hid (StripAt wcD D (fun s => (Tells T) s ∧ Tl s) (.slice R 0 k) wr) := ⟨R, 0, k, s, rfl, ho, ⟨hP, by rw [hs0]; simp [Tl]⟩, hN, hb, hs⟩
          clear ho hP hN hb hs hl hs0
          go_wp2_with fail
          go_meet
          exact HN.out
        · obtain ⟨o, hno⟩ : ∃ o, N = o + 1 := ⟨N - 1, by omega⟩
          have d1 : decide ((0 : Int) < (N : Int)) = true := by simp; omega
          have d1n : decide (0 < N) = true := by simp; omega
          have z1 : wrap64 ((N : Int) - 1) = (o : Int) := by unfold wrap64; omega
          obtain ⟨g2, rfl, hg2, hlt2, hcell⟩ := own_cell ho (by omega)
          have c1 : wr.cell? ⟨g2, o, none⟩ = some (.int .u8 ((s.getD o 0).toNat : Int)) := by
            rw [hcell o (by omega), cellsOf_get s o (by omega)]
          have hcap := (own_caps ho).1
          have i0 : (0 : Int) ≤ (o : Int) := by omega
          have iN : (o : Int) < (N : Int) := by omega
          have b3 : (o : Int) ≤ (k : Int) := by omega
          have b4 : o ≤ k := by omega
          by_cases h2 : s.getD o 0 = 48
          · rw [h2] at c1
            have c2 : wr.cell? ⟨g2, o, none⟩ = some (.int .u8 48) := c1
            have hsp : s = s.take o ++ [48] := by rw [← h2]; exact last_of hl hno
            have HN : Hid (StripAt wcD D (Tells T) (.slice (some ⟨g2, 0, none⟩) o k) wr) :=
              ⟨_, o, k, s.take o, rfl, by
                have h3 := own_cut ho o (by omega) (by omega)
                have h4 : cellsOf (s.take o) = (cellsOf s).take o := by simp [cellsOf]
                rw [h4]; exact h3, hP.cut hsp, by omega, hb, hs⟩
            have HO : Hid (o < N) := show _ < _ by omega
            clear ho hP hN hb hs hl h0 hno hg2 hlt2 hcell hcap h2 c1 hsp
            go_wp2_with fail
            go_roundw
            case rel => exact HN.out
            case measure => exact HO.out
          · have HN : Hid (StripAt wcD D (fun s => (Tells T) s ∧ Tl s) (.slice (some ⟨g2, 0, none⟩) N k) wr) := ⟨_, N, k, s, rfl, ho, ⟨hP, tl_of hl hno h2⟩, hN, hb, hs⟩
            generalize s.getD o 0 = ch at *
            have d2 : ((ch.toNat : Int) == 48) = false := by
              simp only [beq_eq_false_iff_ne]
              intro h
              exact h2 (UInt8.toNat_inj.1 (show ch.toNat = 48 by omega))
            clear ho hP hN hb hs hl h0 hno hg2 hlt2 hcell hcap h2
            go_wp2_with fail
            go_meet
            exact HN.out
    case rest =>
    obtain ⟨R, N, k8, s0, rfl, hown, ⟨⟨hdg, hnd⟩, htl⟩, hNb, hbl, hsz0⟩ := hcut
    have hsl : s0.length = N := by have := hown.1; rw [cellsOf_length] at this; omega
    have hT0 : 0 < T := by
      rw [hT.out, hT1.out]
      exact Nat.mul_pos (Nat.mul_pos HM0.out (Nat.two_pow_pos _)) (Nat.pow_pos (by decide))
    have hN0 : 0 < N := by
      rcases Nat.eq_zero_or_pos N with h | h
      · exfalso
        rw [h] at hsl
        rw [List.eq_nil_of_length_eq_zero hsl] at hnd
        simp [nd] at hnd
        omega
      · exact h
    obtain ⟨g2, rfl, hg2, hlt2, hcell⟩ := own_cell hown hN0
    obtain ⟨wd, hwd⟩ : ∃ v, v = wc := ⟨_, rfl⟩
    obtain ⟨E, hE0⟩ : ∃ E, E = wc.heap.size := ⟨_, rfl⟩
    have HGE : Hid (g2 < E) := show _ < _ by rw [hE0]; exact hlt2
    rw [← hwd] at hbl hcell hE0
    replace hwd := Lib.hid hwd
    obtain ⟨Y, hYY⟩ : ∃ Y : Int, Y = (N : Int) + if e < 0 then e else 0 := ⟨_, rfl⟩
    have HYE := hYY
    have hE := HE.out
    obtain ⟨t0, ht0⟩ : ∃ t0 : Int, t0 = (N : Int) - 1 := ⟨_, rfl⟩
    have zt : wrap64 ((N : Int) - 1) = t0 := by rw [ht0]; unfold wrap64; omega
    have HB1 : Hid (Below w.heap.size w wd) := HBW.out.trans (hbl.mono HDW.out)
    have HWE : Hid (w.heap.size ≤ E) := show _ ≤ _ by rw [hE0]; exact HB1.out.size
    have HEE := Lib.hid hE0; have HC := Lib.hid hcell; have HDG := Lib.hid hdg; have HND := Lib.hid hnd; have HTL := Lib.hid htl; have HNB := Lib.hid hNb; have HSL := Lib.hid hsl; have HT0 := Lib.hid hT0; have HYY := Lib.hid hYY; have Ht0 := Lib.hid ht0
    clear HO hown hdg hnd htl hNb hbl hsz0 hsl hT0 hN0 hg2 hlt2 hcell hE0 HR HX HV HN HBW HL HGD HDE hwD HYE ht0
    have HFI : Hid (∀ d z, d ++ List.replicate z 48 = s0.reverse → Tl d → Fine d Y Mx) := fun d z hz htl5 => by
      rw [hMx.out]
      exact fine_of HDG.out HTL.out HND.out HT0.out hz htl5 (by rw [hT.out, hT1.out]) HE.out.1 (by rw [HSL.out]; exact HYY.out)
    have hcase : (e < 0 ∧ ¬ 0 < e ∧ e ≤ 0 ∧ wrap64 ((N : Int) + e) = Y) ∨ (0 ≤ e ∧ ¬ e < 0 ∧ 0 < e ∧ wrap64 (N : Int) = Y) ∨ (e = 0 ∧ wrap64 (N : Int) = Y) := by
      have hn := HNB.out
      by_cases c0 : e < 0
      · rw [if_pos c0] at hYY
        exact .inl ⟨c0, by omega, by omega, by rw [hYY]; unfold wrap64; omega⟩
      · rw [if_neg c0] at hYY
        by_cases c1 : 0 < e
        · exact .inr (.inl ⟨by omega, c0, c1, by rw [hYY]; unfold wrap64; omega⟩)
        · exact .inr (.inr ⟨by omega, by rw [hYY]; unfold wrap64; omega⟩)
    clear hYY hE
    rcases hcase with ⟨f1, f3, f4, f2⟩ | ⟨f1, f3, f4, f2⟩ | ⟨f1, f2⟩
    all_goals
      try subst f1
      go_upto_block 16 with fail
      rw [zt]
      try rw [f2]
      clear f2 zt
      try clear f1 f3 f4
      go_cut [13, 14] (fun v13 _ wx => StripAt wd E (Front s0) v13 wx)
      case first =>
        go_wp2_with fail
        go_loopw [13, 14] (fun v13 v14 wx => ∃ (t : Nat) (K : Int) (R : Option Addr) (k : Nat), K = (t : Int) - 1 ∧ v14 = .int .i64 K ∧ t ≤ N ∧ v13 = .slice R (N - t) k ∧ wx.ownsRow E 5 1 (.slice R (N - t) k) (N - t) (cellsOf (s0.drop t).reverse) ∧ Below E wd wx ∧ E ≤ wx.heap.size) (fun _ v14 _ => (intOf v14 + 1).toNat)
        case atStart =>
          refine ⟨N, t0, none, 0, Ht0.out, rfl, Nat.le_refl _, by rw [Nat.sub_self], ?_, by rw [hwd.out]; exact Below.refl _ _, by rw [HEE.out, hwd.out]; exact Nat.le_refl _⟩
          rw [List.drop_eq_nil_of_le (by rw [HSL.out]; exact Nat.le_refl _), Nat.sub_self]
          exact World.ownsRow_nil _ _ _ _
        case round =>
          obtain ⟨t, K, R, k, hK, rfl, htN, rfl, hown, hbl, hsz0⟩ := hrel
          rcases Nat.eq_zero_or_pos t with h0 | h0
          · subst h0
            have d1 : decide ((0 : Int) ≤ K) = false := by simp; omega
            have HO : Hid (StripAt wd E (Front s0) (.slice R (N - 0) k) wr) := ⟨R, N, k, s0.reverse, rfl, by simpa using hown, ⟨0, by simp⟩, HNB.out, hbl, hsz0⟩
            clear hK htN hown hbl hsz0
            go_wp2_with fail
            go_meet
            exact HO.out
          · obtain ⟨o, rfl⟩ : ∃ o, t = o + 1 := ⟨t - 1, by omega⟩
            obtain rfl : K = (o : Int) := by omega
            have hon : o < s0.length := by rw [HSL.out]; omega
            have d1 : decide ((0 : Int) ≤ (o : Int)) = true := by simp
            have i0 : (0 : Int) ≤ (o : Int) := by omega
            have iN : (o : Int) < (N : Int) := by omega
            have x1 : wr.cell? ⟨g2, o, none⟩ = some (.int .u8 ((s0.getD o 0).toNat : Int)) := by
              rw [hbl.cell (p := ⟨g2, o, none⟩) HGE.out, HC.out o (by omega), cellsOf_get s0 o hon]
            have hdr : (s0.drop o).reverse = (s0.drop (o + 1)).reverse ++ [s0.getD o 0] := by
              rw [List.drop_eq_getElem_cons hon]
              simp [List.getD, hon]
            obtain ⟨ch, hch⟩ : ∃ ch, ch = s0.getD o 0 := ⟨_, rfl⟩
            rw [← hch] at x1 hdr
            have HDR := Lib.hid hdr
            obtain ⟨M, hM⟩ : ∃ M, M = N - (o + 1) := ⟨_, rfl⟩
            have HM1 : Hid (M + 1 = N - o ∧ o + 1 ≤ N) := show _ ∧ _ by omega
            rw [← hM] at hown
            rw [← hM]
            have hMb : M ≤ 20000 := by have := HNB.out; omega
            have HZ : Hid (wrap64 ((o : Int) - 1) = (o : Int) - 1) := show _ = _ by have := HNB.out; unfold wrap64; omega
            have l2 : M + 1 ≤ maxLen := by simp only [maxLen]; omega
            have l3 : (M + 1) * 1 ≤ 140737488355328 := by omega
            have hgn := heap_alloc_new wr (.cells #[.int .u8 (ch.toNat : Int)] 5)
            have HOA : Hid ((wr.alloc (.cells #[.int .u8 (ch.toNat : Int)] 5)).ownsRow E 5 1 (.slice R M k) M (cellsOf (s0.drop (o + 1)).reverse)) := hown.alloc _
            have HBA : Hid (Below E wd (wr.alloc (.cells #[.int .u8 (ch.toNat : Int)] 5))) := hbl.alloc hsz0 _
            have HSr : Hid (0 < 1 → ∃ ad, some (⟨wr.heap.size, 0, none⟩ : Addr) = some ad ∧ ∀ j u, ([.int .u8 (ch.toNat : Int)] : List Value)[j]? = some u → (wr.alloc (.cells #[.int .u8 (ch.toNat : Int)] 5)).cell? (ad.add j) = some u) := fun _ =>
              ⟨_, rfl, World.news_of_block (cs := #[.int .u8 (ch.toNat : Int)]) (t := 5) (fr := (0, 0)) hgn⟩
            have HSZ : Hid (E ≤ (wr.alloc (.cells #[.int .u8 (ch.toNat : Int)] 5)).heap.size) := Nat.le_trans hsz0 (by simp)
            have l4 : ∀ u ∈ ([.int .u8 (ch.toNat : Int)] : List Value), u.oneCell' = true := by simp [Value.oneCell']
            have hcb : ch.toNat < 256 := ch.toNat_lt
            have y3 : IntKind.u8.wrap (ch.toNat : Int) = (ch.toNat : Int) := by rw [IntKind.wrap_u8]; omega
            clear hcb hgn hown hbl hsz0 hdr hch hM hMb hon htN h0 hK
            go_wp2_with (first | (at_builtin; refine wpList_append_held _ rfl (.tmp 122) (.tmp 127) 75 rfl E 5 i8 _ 1 Tryz.underlying75 HI8.out HY0.out HY1.out HY2.out rfl _ M _ rfl HOA.out (some ⟨wr.heap.size, 0, none⟩) 1 1 [.int .u8 (ch.toNat : Int)] rfl rfl HSr.out l4 l2 l3 HSZ.out ?_))
            intro A6 c6 w6 ho6 hg6 _
            have HB6 : Hid (Below E wd w6) := HBA.out.grown hg6 HSZ.out (fun k hk => (HOA.out.lt k hk).1)
            have HO6 : Hid (w6.ownsRow E 5 1 (.slice A6 (M + 1) c6) (M + 1) (cellsOf (s0.drop o).reverse)) := by
              rw [HDR.out, cellsOf_append]
              exact ho6.out
            have HS6 : Hid (E ≤ w6.heap.size) := Nat.le_trans HSZ.out hg6.size
            clear ho6 hg6 HOA HBA HSr l4 HSZ l2 l3
            go_wp2_with fail
            go_roundw
            case rel => exact ⟨o, (o : Int) - 1, A6, c6, rfl, by rw [HZ.out], Nat.le_of_succ_le HM1.out.2, by rw [HM1.out.1], by rw [← HM1.out.1]; exact HO6.out, HB6.out, HS6.out⟩
            case measure =>
              rw [HZ.out]
              clear d1 i0 iN y3
              simp only [intOf]
              omega
      case rest =>
      have HSt := Lib.hid hcut
      clear hcut
      go_upto_block 18 with fail
      go_cut [13] (fun v wx => StripAt wd E (fun s => (Front s0) s ∧ Tl s) v wx)
      case first =>
        go_wp2_with fail
        go_loopw [13] (fun v wx => StripAt wd E (Front s0) v wx) (fun v _ => len12 v)
        case atStart => exact HSt.out
        case round =>
          obtain ⟨R, N, k, s, rfl, ho, hP, hN, hb, hs⟩ := hrel
          have hl : s.length = N := by have := ho.1; rw [cellsOf_length] at this; omega
          by_cases h0 : N = 0
          · subst h0
            have hs0 : s = [] := List.eq_nil_of_length_eq_zero hl
            have HN : Hid (StripAt wd E (fun s => (Front s0) s ∧ Tl s) (.slice R 0 k) wr) := ⟨R, 0, k, s, rfl, ho, ⟨hP, by rw [hs0]; simp [Tl]⟩, hN, hb, hs⟩
            clear ho hP hN hb hs hl hs0
            go_wp2_with fail
            go_meet
            exact HN.out
          · obtain ⟨o, hno⟩ : ∃ o, N = o + 1 := ⟨N - 1, by omega⟩
            have d1 : decide ((0 : Int) < (N : Int)) = true := by simp; omega
            have d1n : decide (0 < N) = true := by simp; omega
            have z1 : wrap64 ((N : Int) - 1) = (o : Int) := by unfold wrap64; omega
            obtain ⟨g2, rfl, hg2, hlt2, hcell⟩ := own_cell ho (by omega)
            have c1 : wr.cell? ⟨g2, o, none⟩ = some (.int .u8 ((s.getD o 0).toNat : Int)) := by
              rw [hcell o (by omega), cellsOf_get s o (by omega)]
            have hcap := (own_caps ho).1
            have i0 : (0 : Int) ≤ (o : Int) := by omega
            have iN : (o : Int) < (N : Int) := by omega
            have b3 : (o : Int) ≤ (k : Int) := by omega
            have b4 : o ≤ k := by omega
            by_cases h2 : s.getD o 0 = 48
            · rw [h2] at c1
              have c2 : wr.cell? ⟨g2, o, none⟩ = some (.int .u8 48) := c1
              have hsp : s = s.take o ++ [48] := by rw [← h2]; exact last_of hl hno
              have HN : Hid (StripAt wd E (Front s0) (.slice (some ⟨g2, 0, none⟩) o k) wr) :=
                ⟨_, o, k, s.take o, rfl, by
                  have h3 := own_cut ho o (by omega) (by omega)
                  have h4 : cellsOf (s.take o) = (cellsOf s).take o := by simp [cellsOf]
                  rw [h4]; exact h3, hP.cut hsp, by omega, hb, hs⟩
              have HO : Hid (o < N) := show _ < _ by omega
              clear ho hP hN hb hs hl h0 hno hg2 hlt2 hcell hcap h2 c1 hsp
              go_wp2_with fail
              go_roundw
              case rel => exact HN.out
              case measure => exact HO.out
            · have HN : Hid (StripAt wd E (fun s => (Front s0) s ∧ Tl s) (.slice (some ⟨g2, 0, none⟩) N k) wr) := ⟨_, N, k, s, rfl, ho, ⟨hP, tl_of hl hno h2⟩, hN, hb, hs⟩
              generalize s.getD o 0 = ch at *
              have d2 : ((ch.toNat : Int) == 48) = false := by
                simp only [beq_eq_false_iff_ne]
                intro h
                exact h2 (UInt8.toNat_inj.1 (show ch.toNat = 48 by omega))
              clear ho hP hN hb hs hl h0 hno hg2 hlt2 hcell hcap h2
              go_wp2_with fail
              go_meet
              exact HN.out
      case rest =>
      obtain ⟨R5, N5, k5, d5, rfl, hown, ⟨⟨z, hz⟩, htl5⟩, hNb5, hbl, hsz5⟩ := hcut
      have hh := own_bytes hown
      have hst := run_string 75 9 5 Tryz.underlying75 Tryz.underlying5 Tryz.underlying9 hh k5
      have HF : Hid (Fine d5 Y Mx) := HFI.out d5 z hz htl5
      have HBF : Hid (Below w.heap.size w wc) := HB1.out.trans (hbl.mono HWE.out)
      clear HSt hown hz htl5 hNb5 hbl hsz5 hh
      go_wp2_with fail
      go_ret2
      exact ⟨⟨d5, Y, rfl, HF.out⟩, HBF.out⟩
end Go.Proofs.YtojpfmlmalmlcaaGreatDoor
