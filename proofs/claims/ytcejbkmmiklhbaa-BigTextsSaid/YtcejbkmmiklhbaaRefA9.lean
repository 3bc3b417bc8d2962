/-
  What the document's Add and Sub do. No condition beyond what each contract says.
-/
import Derived.Test.YtcejbkmmiklhbaaBigH
namespace Go.Proofs.Ytcejbkmmiklhbaa
open Go.RowKit

theorem quoB {t q : Nat} (h : q = t / 65536) : (t : Int).tdiv 65536 = (q : Int) := by rw [h]; simp
theorem remB {t r : Nat} (h : r = t % 65536) : (t : Int).tmod 65536 = (r : Int) := by rw [Int.tmod_eq_emod_of_nonneg (by omega)]; omega
theorem gt0_t {x : Nat} (h : 0 < x) : decide ((0 : Int) < (x : Int)) = true := by simp; omega
theorem gt0_f {x : Nat} (h : x = 0) : decide ((0 : Int) < (x : Int)) = false := by subst h; rfl

theorem len_room (i n : Nat) (h : i < n) (hn : n ≤ 1000) : i + 1 ≤ maxLen := by unfold maxLen; omega
theorem add_step {Z c s v X Y p x y : Nat} (h : Z + p * c = X + Y) (hs : s = c + x) (hv : v = s + y) : Z + p * (v % 65536) + p * 65536 * (v / 65536) = (X + p * x) + (Y + p * y) := by
  have h1 : v = 65536 * (v / 65536) + v % 65536 := (Nat.div_add_mod v 65536).symm
  generalize v / 65536 = q at *
  generalize v % 65536 = r at *
  have h2 : p * c + p * x + p * y = p * (65536 * q + r) := by rw [← h1, hv, hs]; grind
  grind

/-- What holds at the head of the document's Add. -/
def AddI (w : World) (a b : Nat) (v5 v6 v7 : Value) (wr : World) : Prop :=
  ∃ (i c k : Nat) (R : Option Addr) (zs : List Nat), v5 = .slice R i k ∧ v6 = .int .i64 (c : Int) ∧ v7 = .int .i64 (i : Int) ∧ c ≤ 1 ∧ i ≤ 1001 ∧ wr.ownsRow w.heap.size 45 1 (.slice R i k) i (dc zs) ∧ Dg zs ∧
    nv zs + 65536 ^ i * c = nv ((dg a).take i) + nv ((dg b).take i) ∧ (i = 0 ∨ 65536 ^ (i - 1) ≤ a + b) ∧ Below w.heap.size w wr

theorem add_room {a b c i n m Z : Nat} (h1 : (dg a).length = n) (h2 : (dg b).length = m) (hZ : Z + 65536 ^ i * c = nv ((dg a).take i) + nv ((dg b).take i)) (h : i < n ∨ i < m ∨ 0 < c) : 65536 ^ i ≤ a + b ∧ (n ≤ i → m ≤ i → n ≤ 1000 → m ≤ 1000 → i ≤ 1000) := by
  have key : 65536 ^ i ≤ a + b := by
    rcases Nat.lt_or_ge i n with h3 | h3
    · exact Nat.le_trans (nv_dg_ge (n := a) (by omega)) (by omega)
    · rcases Nat.lt_or_ge i m with h4 | h4
      · exact Nat.le_trans (nv_dg_ge (n := b) (by omega)) (by omega)
      · have hc : 0 < c := by omega
        rw [List.take_of_length_le (by omega), List.take_of_length_le (by omega), nv_dg, nv_dg] at hZ
        have : 65536 ^ i * 1 ≤ 65536 ^ i * c := Nat.mul_le_mul_left _ hc
        omega
  refine ⟨key, fun hn hm n1 m1 => ?_⟩
  rcases Nat.lt_or_ge 1000 i with hi | hi
  · exfalso
    have la := (dg_len a n).1 (by omega)
    have lb := (dg_len b m).1 (by omega)
    obtain ⟨K, hK⟩ : ∃ K, K = 1000 := ⟨_, rfl⟩
    have pa : 65536 ^ n ≤ 65536 ^ K := Nat.pow_le_pow_right (by omega) (by omega)
    have pb : 65536 ^ m ≤ 65536 ^ K := Nat.pow_le_pow_right (by omega) (by omega)
    have pc : 65536 ^ (K + 1) ≤ 65536 ^ i := Nat.pow_le_pow_right (by omega) (by omega)
    rw [Nat.pow_succ] at pc
    generalize 65536 ^ K = P at *
    omega
  · exact hi

set_option maxHeartbeats 8000000 in
theorem refAdd_any (A : Option Addr) (n c0 : Nat) (a : Nat) (B : Option Addr) (m d0 : Nat) (b : Nat) (w : World) (h1 : Digs w A n (dg a)) (h2 : Digs w B m (dg b)) (hn : n ≤ 1000) (hm : m ≤ 1000) :
    Calls Try.prog 17 #[.slice A n c0, .slice B m d0] w fun e w' => ∃ R k, e = .returned (.slice R (dg (a + b)).length k) ∧ Digs w' R (dg (a + b)).length (dg (a + b)) ∧ Below w.heap.size w w' := by
  have H1 := Lib.hid h1; have H2 := Lib.hid h2
  have L1 := Lib.hid h1.1; have L2 := Lib.hid h2.1
  obtain ⟨i0', hi0, hz0, hz1, hz2⟩ := info_parts info_u16
  have HZ0 := Lib.hid hz0; have HI0 := Lib.hid hi0; have HZ1 := Lib.hid hz1; have HZ2 := Lib.hid hz2
  clear hz0 hi0 hz1 hz2 h1 h2
  go_enter Try.func17, Try.ntmps17
  go_wp2_with fail
  go_loopw [5, 6, 7] (fun v5 v6 v7 wr => AddI w a b v5 v6 v7 wr) (fun _ _ v _ => 1002 - (intOf v).toNat)
  case atStart => exact ⟨0, 0, 0, none, [], rfl, rfl, rfl, by omega, by omega, World.ownsRow_nil _ _ _ _, Dg.nil, by simp [nv], .inl rfl, Below.refl _ _⟩
  case round =>
    obtain ⟨i, c, k, R, zs, rfl, rfl, rfl, hc, hi, hO, hz, hv, hp, B1⟩ := hrel
    have HO := Lib.hid hO; have HZ := Lib.hid hz; have HV := Lib.hid hv; have HP := Lib.hid hp; have HB := Lib.hid B1
    clear hO hz hv hp B1
    by_cases hin : i < n
    · by_cases him : i < m
      · have dp : decide ((i : Int) < (n : Int)) = true := lt_t hin
        have dpn : decide (i < n) = true := ltn_t hin
        have dq : decide ((i : Int) < (m : Int)) = true := lt_t him
        have dqn : decide (i < m) = true := ltn_t him
        have hroom := add_room L1.out L2.out HV.out (.inl hin)
        have HR1 : Hid (65536 ^ i ≤ a + b) := hroom.1
        have hi9 : i ≤ 1000 := by omega
        have i0 : (0 : Int) ≤ (i : Int) := by omega
        have iN : (i : Int) < (n : Int) := by omega
        have iM : (i : Int) < (m : Int) := by omega
        have hx := H1.out.2.1.get i
        have hy := H2.out.2.1.get i
        have tx := take_nv' (dg a) i
        have ty := take_nv' (dg b) i
        obtain ⟨b0, o, rfl, m1, hc1⟩ := H1.out.2.2 (by omega)
        have x1 := (HB.out.cell (p := ⟨b0, o + i, none⟩) m1).trans (hc1 i hin)
        obtain ⟨b1, o1, rfl, m2, hc2⟩ := H2.out.2.2 (by omega)
        have x2 := (HB.out.cell (p := ⟨b1, o1 + i, none⟩) m2).trans (hc2 i him)
        generalize (dg a).getD i 0 = x at *
        generalize (dg b).getD i 0 = y at *
        obtain ⟨s, hs⟩ : ∃ s, s = c + x := ⟨_, rfl⟩
        obtain ⟨v, hv⟩ : ∃ v, v = s + y := ⟨_, rfl⟩
        have HS := Lib.hid (add_step HV.out hs hv)
        rw [← tx, ← ty] at HS
        obtain ⟨d, hd⟩ : ∃ d, d = v % 65536 := ⟨_, rfl⟩
        obtain ⟨e, he⟩ : ∃ e, e = v / 65536 := ⟨_, rfl⟩
        rw [← hd, ← he] at HS
        have HD : Hid (d < 65536) := show _ < _ by omega
        have HE : Hid (e ≤ 1) := show _ ≤ _ by omega
        have HLz : Hid (zs.length = i) := show _ = _ by
          have := HO.out.1
          rw [dc_length] at this
          omega
        have ws : s < 4611686018427387904 := by omega
        have wv : v < 4611686018427387904 := by omega
        have wd : e < 4611686018427387904 := by omega
        have z1 : (c : Int) + (x : Int) = (s : Int) := by omega
        have z2 : (s : Int) + (y : Int) = (v : Int) := by omega
        have z3 := quoB he
        have z4 := remB hd
        have z5 := wr16 HD.out
        have z6 := wr64 wd
        have z7 := wr64 wv
        have z8 := wr64 ws
        have zx := wr64 (Nat.lt_trans hx (by decide))
        have zy := wr64 (Nat.lt_trans hy (by decide))
        clear hroom tx ty hd he ws wv wd hx hy hc hc1 m1 hc2 m2
        have hgn := heap_alloc_new wr (.cells #[.int .u16 (d : Int)] 45)
        have HOA : Hid ((wr.alloc (.cells #[.int .u16 (d : Int)] 45)).ownsRow w.heap.size 45 1 (.slice R i k) i (dc zs)) := HO.out.alloc _
        have BA : Below w.heap.size w (wr.alloc (.cells #[.int .u16 (d : Int)] 45)) := HB.out.alloc HB.out.size _
        have HSr : Hid (0 < 1 → ∃ ad, some (⟨wr.heap.size, 0, none⟩ : Addr) = some ad ∧ ∀ j u, ([.int .u16 (d : Int)] : List Value)[j]? = some u → (wr.alloc (.cells #[.int .u16 (d : Int)] 45)).cell? (ad.add j) = some u) := fun _ =>
          ⟨_, rfl, World.news_of_block (cs := #[.int .u16 (d : Int)]) (t := 45) (fr := (0, 0)) hgn⟩
        have l2 : i + 1 ≤ maxLen := by unfold maxLen; clear z3 z4 z5 z6 z7 z8 zx zy; omega
        have l3 : (i + 1) * 2 ≤ 140737488355328 := by clear z3 z4 z5 z6 z7 z8 zx zy; omega
        have hsz : w.heap.size ≤ (wr.alloc (.cells #[.int .u16 (d : Int)] 45)).heap.size := by have := HB.out.size; simp; clear z3 z4 z5 z6 z7 z8 zx zy; omega
        have l4 : ∀ u ∈ ([.int .u16 (d : Int)] : List Value), u.oneCell' = true := by simp [Value.oneCell']
        have HBA := Lib.hid BA
        have HI9 := Lib.hid hi9
        clear hgn HO BA hi hs hv
        go_wp2_with (first | (at_builtin; refine wpList_append_held _ rfl (.tmp 46) (.tmp 50) 22 rfl w.heap.size 45 i0' _ 2 Try.underlying22 HI0.out HZ0.out HZ1.out HZ2.out rfl _ i _ rfl HOA.out (some ⟨wr.heap.size, 0, none⟩) 1 1 [.int .u16 (d : Int)] rfl rfl HSr.out l4 l2 l3 hsz ?_))
        intro A5 c5 w9 ho9 hg9 _
        have B9 : Below w.heap.size w w9 := HBA.out.grown hg9 HBA.out.size (fun k hk => (HOA.out.lt k hk).1)
        have HO9 : Hid (w9.ownsRow w.heap.size 45 1 (.slice A5 (i + 1) c5) (i + 1) (dc (zs ++ [d]))) := by
          rw [dc_append]
          exact ho9.out
        have HB9 := Lib.hid B9
        clear ho9 hg9 HOA HBA HSr hsz l4 l2 l3 B9
        go_wp2_with fail
        go_roundw
        case rel =>
          refine ⟨i + 1, e, c5, A5, zs ++ [d], rfl, by first | rfl | exact ret_val z6, ret_val (by omega), HE.out, by have := HI9.out; omega, HO9.out, HZ.out.append (Dg.one HD.out), ?_, .inr HR1.out, HB9.out⟩
          rw [nv_snoc, HLz.out, Nat.pow_succ]
          exact HS.out
        case measure => simp [intOf]; have := HI9.out; omega
      · have him := Nat.le_of_not_lt him
        have dp : decide ((i : Int) < (n : Int)) = true := lt_t hin
        have dpn : decide (i < n) = true := ltn_t hin
        have dq : decide ((i : Int) < (m : Int)) = false := lt_f him
        have dqn : decide (i < m) = false := ltn_f him
        have hroom := add_room L1.out L2.out HV.out (.inl hin)
        have HR1 : Hid (65536 ^ i ≤ a + b) := hroom.1
        have hi9 : i ≤ 1000 := by omega
        have i0 : (0 : Int) ≤ (i : Int) := by omega
        have iN : (i : Int) < (n : Int) := by omega
        have hx := H1.out.2.1.get i
        have hy := H2.out.2.1.get i
        have tx := take_nv' (dg a) i
        have ty := take_nv' (dg b) i
        obtain ⟨b0, o, rfl, m1, hc1⟩ := H1.out.2.2 (by omega)
        have x1 := (HB.out.cell (p := ⟨b0, o + i, none⟩) m1).trans (hc1 i hin)
        have y0 : (dg b).getD i 0 = 0 := nv_past (by rw [L2.out]; exact him)
        generalize (dg a).getD i 0 = x at *
        generalize (dg b).getD i 0 = y at *
        obtain ⟨s, hs⟩ : ∃ s, s = c + x := ⟨_, rfl⟩
        obtain ⟨v, hv⟩ : ∃ v, v = s + y := ⟨_, rfl⟩
        have HS := Lib.hid (add_step HV.out hs hv)
        rw [← tx, ← ty] at HS
        obtain ⟨d, hd⟩ : ∃ d, d = v % 65536 := ⟨_, rfl⟩
        obtain ⟨e, he⟩ : ∃ e, e = v / 65536 := ⟨_, rfl⟩
        rw [← hd, ← he] at HS
        have HD : Hid (d < 65536) := show _ < _ by omega
        have HE : Hid (e ≤ 1) := show _ ≤ _ by omega
        have HLz : Hid (zs.length = i) := show _ = _ by
          have := HO.out.1
          rw [dc_length] at this
          omega
        have evs : v = s := by omega
        have ws : s < 4611686018427387904 := by omega
        have wv : v < 4611686018427387904 := by omega
        have wd : e < 4611686018427387904 := by omega
        have z1 : (c : Int) + (x : Int) = (s : Int) := by omega
        have z3 := quoB he
        have z4 := remB hd
        have z5 := wr16 HD.out
        have z6 := wr64 wd
        have z7 := wr64 wv
        have z8 := wr64 ws
        subst evs
        have zx := wr64 (Nat.lt_trans hx (by decide))
        have zy := wr64 (Nat.lt_trans hy (by decide))
        clear hroom tx ty hd he ws wv wd hx hy hc hc1 m1 y0
        have hgn := heap_alloc_new wr (.cells #[.int .u16 (d : Int)] 45)
        have HOA : Hid ((wr.alloc (.cells #[.int .u16 (d : Int)] 45)).ownsRow w.heap.size 45 1 (.slice R i k) i (dc zs)) := HO.out.alloc _
        have BA : Below w.heap.size w (wr.alloc (.cells #[.int .u16 (d : Int)] 45)) := HB.out.alloc HB.out.size _
        have HSr : Hid (0 < 1 → ∃ ad, some (⟨wr.heap.size, 0, none⟩ : Addr) = some ad ∧ ∀ j u, ([.int .u16 (d : Int)] : List Value)[j]? = some u → (wr.alloc (.cells #[.int .u16 (d : Int)] 45)).cell? (ad.add j) = some u) := fun _ =>
          ⟨_, rfl, World.news_of_block (cs := #[.int .u16 (d : Int)]) (t := 45) (fr := (0, 0)) hgn⟩
        have l2 : i + 1 ≤ maxLen := by unfold maxLen; clear z3 z4 z5 z6 z7 z8 zx zy; omega
        have l3 : (i + 1) * 2 ≤ 140737488355328 := by clear z3 z4 z5 z6 z7 z8 zx zy; omega
        have hsz : w.heap.size ≤ (wr.alloc (.cells #[.int .u16 (d : Int)] 45)).heap.size := by have := HB.out.size; simp; clear z3 z4 z5 z6 z7 z8 zx zy; omega
        have l4 : ∀ u ∈ ([.int .u16 (d : Int)] : List Value), u.oneCell' = true := by simp [Value.oneCell']
        have HBA := Lib.hid BA
        have HI9 := Lib.hid hi9
        clear hgn HO BA hi hs hv
        go_wp2_with (first | (at_builtin; refine wpList_append_held _ rfl (.tmp 46) (.tmp 50) 22 rfl w.heap.size 45 i0' _ 2 Try.underlying22 HI0.out HZ0.out HZ1.out HZ2.out rfl _ i _ rfl HOA.out (some ⟨wr.heap.size, 0, none⟩) 1 1 [.int .u16 (d : Int)] rfl rfl HSr.out l4 l2 l3 hsz ?_))
        intro A5 c5 w9 ho9 hg9 _
        have B9 : Below w.heap.size w w9 := HBA.out.grown hg9 HBA.out.size (fun k hk => (HOA.out.lt k hk).1)
        have HO9 : Hid (w9.ownsRow w.heap.size 45 1 (.slice A5 (i + 1) c5) (i + 1) (dc (zs ++ [d]))) := by
          rw [dc_append]
          exact ho9.out
        have HB9 := Lib.hid B9
        clear ho9 hg9 HOA HBA HSr hsz l4 l2 l3 B9
        go_wp2_with fail
        go_roundw
        case rel =>
          refine ⟨i + 1, e, c5, A5, zs ++ [d], rfl, by first | rfl | exact ret_val z6, ret_val (by omega), HE.out, by have := HI9.out; omega, HO9.out, HZ.out.append (Dg.one HD.out), ?_, .inr HR1.out, HB9.out⟩
          rw [nv_snoc, HLz.out, Nat.pow_succ]
          exact HS.out
        case measure => simp [intOf]; have := HI9.out; omega
    · have hin := Nat.le_of_not_lt hin
      by_cases him : i < m
      · have dp : decide ((i : Int) < (n : Int)) = false := lt_f hin
        have dpn : decide (i < n) = false := ltn_f hin
        have dq : decide ((i : Int) < (m : Int)) = true := lt_t him
        have dqn : decide (i < m) = true := ltn_t him
        have hroom := add_room L1.out L2.out HV.out (.inr (.inl him))
        have HR1 : Hid (65536 ^ i ≤ a + b) := hroom.1
        have hi9 : i ≤ 1000 := by omega
        have i0 : (0 : Int) ≤ (i : Int) := by omega
        have iM : (i : Int) < (m : Int) := by omega
        have hx := H1.out.2.1.get i
        have hy := H2.out.2.1.get i
        have tx := take_nv' (dg a) i
        have ty := take_nv' (dg b) i
        have x0 : (dg a).getD i 0 = 0 := nv_past (by rw [L1.out]; exact hin)
        obtain ⟨b1, o1, rfl, m2, hc2⟩ := H2.out.2.2 (by omega)
        have x2 := (HB.out.cell (p := ⟨b1, o1 + i, none⟩) m2).trans (hc2 i him)
        generalize (dg a).getD i 0 = x at *
        generalize (dg b).getD i 0 = y at *
        obtain ⟨s, hs⟩ : ∃ s, s = c + x := ⟨_, rfl⟩
        obtain ⟨v, hv⟩ : ∃ v, v = s + y := ⟨_, rfl⟩
        have HS := Lib.hid (add_step HV.out hs hv)
        rw [← tx, ← ty] at HS
        obtain ⟨d, hd⟩ : ∃ d, d = v % 65536 := ⟨_, rfl⟩
        obtain ⟨e, he⟩ : ∃ e, e = v / 65536 := ⟨_, rfl⟩
        rw [← hd, ← he] at HS
        have HD : Hid (d < 65536) := show _ < _ by omega
        have HE : Hid (e ≤ 1) := show _ ≤ _ by omega
        have HLz : Hid (zs.length = i) := show _ = _ by
          have := HO.out.1
          rw [dc_length] at this
          omega
        have ecs : s = c := by omega
        have ws : s < 4611686018427387904 := by omega
        have wv : v < 4611686018427387904 := by omega
        have wd : e < 4611686018427387904 := by omega
        have z2 : (s : Int) + (y : Int) = (v : Int) := by omega
        have z3 := quoB he
        have z4 := remB hd
        have z5 := wr16 HD.out
        have z6 := wr64 wd
        have z7 := wr64 wv
        have z8 := wr64 ws
        subst ecs
        have zx := wr64 (Nat.lt_trans hx (by decide))
        have zy := wr64 (Nat.lt_trans hy (by decide))
        clear hroom tx ty hd he ws wv wd hx hy hc x0 hc2 m2
        have hgn := heap_alloc_new wr (.cells #[.int .u16 (d : Int)] 45)
        have HOA : Hid ((wr.alloc (.cells #[.int .u16 (d : Int)] 45)).ownsRow w.heap.size 45 1 (.slice R i k) i (dc zs)) := HO.out.alloc _
        have BA : Below w.heap.size w (wr.alloc (.cells #[.int .u16 (d : Int)] 45)) := HB.out.alloc HB.out.size _
        have HSr : Hid (0 < 1 → ∃ ad, some (⟨wr.heap.size, 0, none⟩ : Addr) = some ad ∧ ∀ j u, ([.int .u16 (d : Int)] : List Value)[j]? = some u → (wr.alloc (.cells #[.int .u16 (d : Int)] 45)).cell? (ad.add j) = some u) := fun _ =>
          ⟨_, rfl, World.news_of_block (cs := #[.int .u16 (d : Int)]) (t := 45) (fr := (0, 0)) hgn⟩
        have l2 : i + 1 ≤ maxLen := by unfold maxLen; clear z3 z4 z5 z6 z7 z8 zx zy; omega
        have l3 : (i + 1) * 2 ≤ 140737488355328 := by clear z3 z4 z5 z6 z7 z8 zx zy; omega
        have hsz : w.heap.size ≤ (wr.alloc (.cells #[.int .u16 (d : Int)] 45)).heap.size := by have := HB.out.size; simp; clear z3 z4 z5 z6 z7 z8 zx zy; omega
        have l4 : ∀ u ∈ ([.int .u16 (d : Int)] : List Value), u.oneCell' = true := by simp [Value.oneCell']
        have HBA := Lib.hid BA
        have HI9 := Lib.hid hi9
        clear hgn HO BA hi hs hv
        go_wp2_with (first | (at_builtin; refine wpList_append_held _ rfl (.tmp 46) (.tmp 50) 22 rfl w.heap.size 45 i0' _ 2 Try.underlying22 HI0.out HZ0.out HZ1.out HZ2.out rfl _ i _ rfl HOA.out (some ⟨wr.heap.size, 0, none⟩) 1 1 [.int .u16 (d : Int)] rfl rfl HSr.out l4 l2 l3 hsz ?_))
        intro A5 c5 w9 ho9 hg9 _
        have B9 : Below w.heap.size w w9 := HBA.out.grown hg9 HBA.out.size (fun k hk => (HOA.out.lt k hk).1)
        have HO9 : Hid (w9.ownsRow w.heap.size 45 1 (.slice A5 (i + 1) c5) (i + 1) (dc (zs ++ [d]))) := by
          rw [dc_append]
          exact ho9.out
        have HB9 := Lib.hid B9
        clear ho9 hg9 HOA HBA HSr hsz l4 l2 l3 B9
        go_wp2_with fail
        go_roundw
        case rel =>
          refine ⟨i + 1, e, c5, A5, zs ++ [d], rfl, by first | rfl | exact ret_val z6, ret_val (by omega), HE.out, by have := HI9.out; omega, HO9.out, HZ.out.append (Dg.one HD.out), ?_, .inr HR1.out, HB9.out⟩
          rw [nv_snoc, HLz.out, Nat.pow_succ]
          exact HS.out
        case measure => simp [intOf]; have := HI9.out; omega
      · have him := Nat.le_of_not_lt him
        by_cases hcp : 0 < c
        · have dp : decide ((i : Int) < (n : Int)) = false := lt_f hin
          have dpn : decide (i < n) = false := ltn_f hin
          have dq : decide ((i : Int) < (m : Int)) = false := lt_f him
          have dqn : decide (i < m) = false := ltn_f him
          have dc0 := gt0_t hcp
          have dc0n : decide (0 < c) = true := by simp; omega
          have hroom := add_room L1.out L2.out HV.out (.inr (.inr hcp))
          have HR1 : Hid (65536 ^ i ≤ a + b) := hroom.1
          have hi9 : i ≤ 1000 := by exact hroom.2 hin him hn hm
          have i0 : (0 : Int) ≤ (i : Int) := by omega
          have hx := H1.out.2.1.get i
          have hy := H2.out.2.1.get i
          have tx := take_nv' (dg a) i
          have ty := take_nv' (dg b) i
          have x0 : (dg a).getD i 0 = 0 := nv_past (by rw [L1.out]; exact hin)
          have y0 : (dg b).getD i 0 = 0 := nv_past (by rw [L2.out]; exact him)
          generalize (dg a).getD i 0 = x at *
          generalize (dg b).getD i 0 = y at *
          obtain ⟨s, hs⟩ : ∃ s, s = c + x := ⟨_, rfl⟩
          obtain ⟨v, hv⟩ : ∃ v, v = s + y := ⟨_, rfl⟩
          have HS := Lib.hid (add_step HV.out hs hv)
          rw [← tx, ← ty] at HS
          obtain ⟨d, hd⟩ : ∃ d, d = v % 65536 := ⟨_, rfl⟩
          obtain ⟨e, he⟩ : ∃ e, e = v / 65536 := ⟨_, rfl⟩
          rw [← hd, ← he] at HS
          have HD : Hid (d < 65536) := show _ < _ by omega
          have HE : Hid (e ≤ 1) := show _ ≤ _ by omega
          have HLz : Hid (zs.length = i) := show _ = _ by
            have := HO.out.1
            rw [dc_length] at this
            omega
          have ecs : s = c := by omega
          have evs : v = s := by omega
          have ws : s < 4611686018427387904 := by omega
          have wv : v < 4611686018427387904 := by omega
          have wd : e < 4611686018427387904 := by omega
          have z3 := quoB he
          have z4 := remB hd
          have z5 := wr16 HD.out
          have z6 := wr64 wd
          have z7 := wr64 wv
          have z8 := wr64 ws
          subst ecs
          subst evs
          have zx := wr64 (Nat.lt_trans hx (by decide))
          have zy := wr64 (Nat.lt_trans hy (by decide))
          clear hroom tx ty hd he ws wv wd hx hy hc x0 y0
          have hgn := heap_alloc_new wr (.cells #[.int .u16 (d : Int)] 45)
          have HOA : Hid ((wr.alloc (.cells #[.int .u16 (d : Int)] 45)).ownsRow w.heap.size 45 1 (.slice R i k) i (dc zs)) := HO.out.alloc _
          have BA : Below w.heap.size w (wr.alloc (.cells #[.int .u16 (d : Int)] 45)) := HB.out.alloc HB.out.size _
          have HSr : Hid (0 < 1 → ∃ ad, some (⟨wr.heap.size, 0, none⟩ : Addr) = some ad ∧ ∀ j u, ([.int .u16 (d : Int)] : List Value)[j]? = some u → (wr.alloc (.cells #[.int .u16 (d : Int)] 45)).cell? (ad.add j) = some u) := fun _ =>
            ⟨_, rfl, World.news_of_block (cs := #[.int .u16 (d : Int)]) (t := 45) (fr := (0, 0)) hgn⟩
          have l2 : i + 1 ≤ maxLen := by unfold maxLen; clear z3 z4 z5 z6 z7 z8 zx zy; omega
          have l3 : (i + 1) * 2 ≤ 140737488355328 := by clear z3 z4 z5 z6 z7 z8 zx zy; omega
          have hsz : w.heap.size ≤ (wr.alloc (.cells #[.int .u16 (d : Int)] 45)).heap.size := by have := HB.out.size; simp; clear z3 z4 z5 z6 z7 z8 zx zy; omega
          have l4 : ∀ u ∈ ([.int .u16 (d : Int)] : List Value), u.oneCell' = true := by simp [Value.oneCell']
          have HBA := Lib.hid BA
          have HI9 := Lib.hid hi9
          clear hgn HO BA hi hs hv
          go_wp2_with (first | (at_builtin; refine wpList_append_held _ rfl (.tmp 46) (.tmp 50) 22 rfl w.heap.size 45 i0' _ 2 Try.underlying22 HI0.out HZ0.out HZ1.out HZ2.out rfl _ i _ rfl HOA.out (some ⟨wr.heap.size, 0, none⟩) 1 1 [.int .u16 (d : Int)] rfl rfl HSr.out l4 l2 l3 hsz ?_))
          intro A5 c5 w9 ho9 hg9 _
          have B9 : Below w.heap.size w w9 := HBA.out.grown hg9 HBA.out.size (fun k hk => (HOA.out.lt k hk).1)
          have HO9 : Hid (w9.ownsRow w.heap.size 45 1 (.slice A5 (i + 1) c5) (i + 1) (dc (zs ++ [d]))) := by
            rw [dc_append]
            exact ho9.out
          have HB9 := Lib.hid B9
          clear ho9 hg9 HOA HBA HSr hsz l4 l2 l3 B9
          go_wp2_with fail
          go_roundw
          case rel =>
            refine ⟨i + 1, e, c5, A5, zs ++ [d], rfl, by first | rfl | exact ret_val z6, ret_val (by omega), HE.out, by have := HI9.out; omega, HO9.out, HZ.out.append (Dg.one HD.out), ?_, .inr HR1.out, HB9.out⟩
            rw [nv_snoc, HLz.out, Nat.pow_succ]
            exact HS.out
          case measure => simp [intOf]; have := HI9.out; omega
        · obtain rfl : c = 0 := by omega
          have dp := lt_f hin
          have dpn := ltn_f hin
          have dq := lt_f him
          have dqn := ltn_f him
          have hV := HV.out
          rw [Nat.mul_zero, Nat.add_zero, List.take_of_length_le (l := dg a) (by rw [L1.out]; exact hin), List.take_of_length_le (l := dg b) (by rw [L2.out]; exact him), nv_dg, nv_dg] at hV
          have hLz : zs.length = i := by
            have := HO.out.1
            rw [dc_length] at this
            omega
          have hE : dg (a + b) = zs := by
            rw [← hV]
            refine dg_ge HZ.out ?_
            rw [hLz, hV]
            exact HP.out
          have HE := Lib.hid hE
          have HD := Lib.hid (own_digs HO.out HZ.out)
          have HLz := Lib.hid hLz
          clear hV hLz hE
          go_wp2_with fail
          go_ret
          rw [HE.out, HLz.out]
          exact ⟨R, k, rfl, HD.out, HB.out⟩

/-- What holds at the head of the document's Sub. -/
def SubI (w : World) (a b n : Nat) (v5 v6 v7 : Value) (wr : World) : Prop :=
  ∃ (i c k : Nat) (R : Option Addr) (zs : List Nat), v5 = .slice R i k ∧ v6 = .int .i64 (c : Int) ∧ v7 = .int .i64 (i : Int) ∧ c ≤ 1 ∧ i ≤ n ∧ wr.ownsRow w.heap.size 45 1 (.slice R i k) i (dc zs) ∧ Dg zs ∧
    nv zs + nv ((dg b).take i) = nv ((dg a).take i) + 65536 ^ i * c ∧ Below w.heap.size w wr
theorem sub_step {Z c X Y p x y d e : Nat} (h : Z + Y = X + p * c) (hv : d + y + c = x + 65536 * e) : Z + p * d + (Y + p * y) = (X + p * x) + p * 65536 * e := by
  have h2 : p * d + p * y + p * c = p * x + p * (65536 * e) := by rw [← Nat.mul_add, ← Nat.mul_add, ← Nat.mul_add, hv]
  grind

set_option maxHeartbeats 8000000 in
theorem refSub_any (A : Option Addr) (n c0 : Nat) (a : Nat) (B : Option Addr) (m d0 : Nat) (b : Nat) (w : World) (h1 : Digs w A n (dg a)) (h2 : Digs w B m (dg b)) (hn : n ≤ 1000) (hm : m ≤ 1000) (hle : b ≤ a) :
    Calls Try.prog 18 #[.slice A n c0, .slice B m d0] w fun e w' => ∃ R k, e = .returned (.slice R (dg (a - b)).length k) ∧ Digs w' R (dg (a - b)).length (dg (a - b)) ∧ Below w.heap.size w w' := by
  have H1 := Lib.hid h1; have H2 := Lib.hid h2
  have L1 := Lib.hid h1.1; have L2 := Lib.hid h2.1
  have HM : Hid (m ≤ n) := show _ ≤ _ by
    have := dg_small hle
    rw [h1.1, h2.1] at this
    exact this
  have HLE := Lib.hid hle
  obtain ⟨i0', hi0, hz0, hz1, hz2⟩ := info_parts info_u16
  have HZ0 := Lib.hid hz0; have HI0 := Lib.hid hi0; have HZ1 := Lib.hid hz1; have HZ2 := Lib.hid hz2
  clear hz0 hi0 hz1 hz2 h1 h2 hle
  go_enter Try.func18, Try.ntmps18
  go_wp2_with fail
  go_loopw [5, 6, 7] (fun v5 v6 v7 wr => SubI w a b n v5 v6 v7 wr) (fun _ _ v _ => n - (intOf v).toNat)
  case atStart => exact ⟨0, 0, 0, none, [], rfl, rfl, rfl, by omega, by omega, World.ownsRow_nil _ _ _ _, Dg.nil, by simp [nv], Below.refl _ _⟩
  case round =>
    obtain ⟨i, c, k, R, zs, rfl, rfl, rfl, hc, hi, hO, hz, hv, B1⟩ := hrel
    have HO := Lib.hid hO; have HZ := Lib.hid hz; have HV := Lib.hid hv; have HB := Lib.hid B1
    clear hO hz hv B1
    by_cases hin : i < n
    · have dp := lt_t hin
      have dpn := ltn_t hin
      have i0 : (0 : Int) ≤ (i : Int) := by omega
      have iN : (i : Int) < (n : Int) := by omega
      have hx := H1.out.2.1.get i
      have hy := H2.out.2.1.get i
      have tx := take_nv' (dg a) i
      have ty := take_nv' (dg b) i
      obtain ⟨b0, o, rfl, m1, hc1⟩ := H1.out.2.2 (by omega)
      have x1 := (HB.out.cell (p := ⟨b0, o + i, none⟩) m1).trans (hc1 i hin)
      have HLz : Hid (zs.length = i) := show _ = _ by
        have := HO.out.1
        rw [dc_length] at this
        omega
      clear hc1 m1
      by_cases him : i < m
      · have dq := lt_t him
        have dqn := ltn_t him
        have iM : (i : Int) < (m : Int) := by omega
        obtain ⟨b1, o1, rfl, m2, hc2⟩ := H2.out.2.2 (by omega)
        have x2 := (HB.out.cell (p := ⟨b1, o1 + i, none⟩) m2).trans (hc2 i him)
        clear hc2 m2
        generalize (dg a).getD i 0 = x at *
        generalize (dg b).getD i 0 = y at *
        obtain ⟨s, hs⟩ : ∃ s : Int, s = (x : Int) - (c : Int) := ⟨_, rfl⟩
        obtain ⟨v, hvv⟩ : ∃ v : Int, v = s - (y : Int) := ⟨_, rfl⟩
        by_cases hneg : v < 0
        · have dn : decide (v < 0) = true := by simp; omega
          obtain ⟨d, hd⟩ : ∃ d : Nat, (d : Int) = v + 65536 := ⟨(v + 65536).toNat, by omega⟩
          have HS := Lib.hid (sub_step (p := 65536 ^ i) (x := x) (y := y) (d := d) (e := 1) HV.out (by omega))
          rw [← tx, ← ty] at HS
          have HD : Hid (d < 65536) := show _ < _ by omega
          have z1 : (x : Int) - (c : Int) = s := hs.symm
          have z1w : wrap64 s = s := by clear hvv hd; unfold wrap64; omega
          have z2 : s - (y : Int) = v := hvv.symm
          have z2w : wrap64 v = v := by clear z1w hd; unfold wrap64; omega
          have z3 : v + 65536 = (d : Int) := hd.symm
          have wd := wr64 (Nat.lt_trans HD.out (by decide))
          have z5 := wr16 HD.out
          have zx := wr64 (Nat.lt_trans hx (by decide))
          have zy := wr64 (Nat.lt_trans hy (by decide))
          clear tx ty hx hy hc hvv hs hneg hd
          have hgn := heap_alloc_new wr (.cells #[.int .u16 (d : Int)] 45)
          have HOA : Hid ((wr.alloc (.cells #[.int .u16 (d : Int)] 45)).ownsRow w.heap.size 45 1 (.slice R i k) i (dc zs)) := HO.out.alloc _
          have BA : Below w.heap.size w (wr.alloc (.cells #[.int .u16 (d : Int)] 45)) := HB.out.alloc HB.out.size _
          have HSr : Hid (0 < 1 → ∃ ad, some (⟨wr.heap.size, 0, none⟩ : Addr) = some ad ∧ ∀ j u, ([.int .u16 (d : Int)] : List Value)[j]? = some u → (wr.alloc (.cells #[.int .u16 (d : Int)] 45)).cell? (ad.add j) = some u) := fun _ =>
            ⟨_, rfl, World.news_of_block (cs := #[.int .u16 (d : Int)]) (t := 45) (fr := (0, 0)) hgn⟩
          have l2 : i + 1 ≤ maxLen := len_room i n hin hn
          have l3 : (i + 1) * 2 ≤ 140737488355328 := by clear z5 zx zy z1w z2w wd; omega
          have hsz : w.heap.size ≤ (wr.alloc (.cells #[.int .u16 (d : Int)] 45)).heap.size := Nat.le_trans HB.out.size (by simp)
          have l4 : ∀ u ∈ ([.int .u16 (d : Int)] : List Value), u.oneCell' = true := by simp [Value.oneCell']
          have HBA := Lib.hid BA
          have HI9 := Lib.hid hin
          clear hgn HO BA hi
          go_wp2_with (first | (at_builtin; refine wpList_append_held _ rfl (.tmp 37) (.tmp 40) 22 rfl w.heap.size 45 i0' _ 2 Try.underlying22 HI0.out HZ0.out HZ1.out HZ2.out rfl _ i _ rfl HOA.out (some ⟨wr.heap.size, 0, none⟩) 1 1 [.int .u16 (d : Int)] rfl rfl HSr.out l4 l2 l3 hsz ?_))
          intro A5 c5 w9 ho9 hg9 _
          have B9 : Below w.heap.size w w9 := HBA.out.grown hg9 HBA.out.size (fun k hk => (HOA.out.lt k hk).1)
          have HO9 : Hid (w9.ownsRow w.heap.size 45 1 (.slice A5 (i + 1) c5) (i + 1) (dc (zs ++ [d]))) := by
            rw [dc_append]
            exact ho9.out
          have HB9 := Lib.hid B9
          clear ho9 hg9 HOA HBA HSr hsz l4 l2 l3 B9
          go_wp2_with fail
          go_roundw
          case rel =>
            refine ⟨i + 1, 1, c5, A5, zs ++ [d], rfl, rfl, ret_val (by omega), by omega, HI9.out, HO9.out, HZ.out.append (Dg.one HD.out), ?_, HB9.out⟩
            rw [nv_snoc, HLz.out, Nat.pow_succ]
            exact HS.out
          case measure => simp [intOf]; have := HI9.out; omega
        · have dn : decide (v < 0) = false := by simp; omega
          obtain ⟨d, hd⟩ : ∃ d : Nat, (d : Int) = v := ⟨v.toNat, by omega⟩
          have HS := Lib.hid (sub_step (p := 65536 ^ i) (x := x) (y := y) (d := d) (e := 0) HV.out (by omega))
          rw [← tx, ← ty] at HS
          have HD : Hid (d < 65536) := show _ < _ by omega
          have z1 : (x : Int) - (c : Int) = s := hs.symm
          have z1w : wrap64 s = s := by clear hvv hd; unfold wrap64; omega
          have z2 : s - (y : Int) = v := hvv.symm
          have z2w : wrap64 v = v := by clear z1w hd; unfold wrap64; omega
          have z5 := wr16 HD.out
          subst hd
          have zx := wr64 (Nat.lt_trans hx (by decide))
          have zy := wr64 (Nat.lt_trans hy (by decide))
          clear tx ty hx hy hc hvv hs hneg
          have hgn := heap_alloc_new wr (.cells #[.int .u16 (d : Int)] 45)
          have HOA : Hid ((wr.alloc (.cells #[.int .u16 (d : Int)] 45)).ownsRow w.heap.size 45 1 (.slice R i k) i (dc zs)) := HO.out.alloc _
          have BA : Below w.heap.size w (wr.alloc (.cells #[.int .u16 (d : Int)] 45)) := HB.out.alloc HB.out.size _
          have HSr : Hid (0 < 1 → ∃ ad, some (⟨wr.heap.size, 0, none⟩ : Addr) = some ad ∧ ∀ j u, ([.int .u16 (d : Int)] : List Value)[j]? = some u → (wr.alloc (.cells #[.int .u16 (d : Int)] 45)).cell? (ad.add j) = some u) := fun _ =>
            ⟨_, rfl, World.news_of_block (cs := #[.int .u16 (d : Int)]) (t := 45) (fr := (0, 0)) hgn⟩
          have l2 : i + 1 ≤ maxLen := len_room i n hin hn
          have l3 : (i + 1) * 2 ≤ 140737488355328 := by clear z5 zx zy z1w z2w; omega
          have hsz : w.heap.size ≤ (wr.alloc (.cells #[.int .u16 (d : Int)] 45)).heap.size := Nat.le_trans HB.out.size (by simp)
          have l4 : ∀ u ∈ ([.int .u16 (d : Int)] : List Value), u.oneCell' = true := by simp [Value.oneCell']
          have HBA := Lib.hid BA
          have HI9 := Lib.hid hin
          clear hgn HO BA hi
          go_wp2_with (first | (at_builtin; refine wpList_append_held _ rfl (.tmp 37) (.tmp 40) 22 rfl w.heap.size 45 i0' _ 2 Try.underlying22 HI0.out HZ0.out HZ1.out HZ2.out rfl _ i _ rfl HOA.out (some ⟨wr.heap.size, 0, none⟩) 1 1 [.int .u16 (d : Int)] rfl rfl HSr.out l4 l2 l3 hsz ?_))
          intro A5 c5 w9 ho9 hg9 _
          have B9 : Below w.heap.size w w9 := HBA.out.grown hg9 HBA.out.size (fun k hk => (HOA.out.lt k hk).1)
          have HO9 : Hid (w9.ownsRow w.heap.size 45 1 (.slice A5 (i + 1) c5) (i + 1) (dc (zs ++ [d]))) := by
            rw [dc_append]
            exact ho9.out
          have HB9 := Lib.hid B9
          clear ho9 hg9 HOA HBA HSr hsz l4 l2 l3 B9
          go_wp2_with fail
          go_roundw
          case rel =>
            refine ⟨i + 1, 0, c5, A5, zs ++ [d], rfl, rfl, ret_val (by omega), by omega, HI9.out, HO9.out, HZ.out.append (Dg.one HD.out), ?_, HB9.out⟩
            rw [nv_snoc, HLz.out, Nat.pow_succ]
            exact HS.out
          case measure => simp [intOf]; have := HI9.out; omega
      · have him := Nat.le_of_not_lt him
        have dq := lt_f him
        have dqn := ltn_f him
        have y0 : (dg b).getD i 0 = 0 := nv_past (by rw [L2.out]; exact him)
        generalize (dg a).getD i 0 = x at *
        generalize (dg b).getD i 0 = y at *
        obtain ⟨s, hs⟩ : ∃ s : Int, s = (x : Int) - (c : Int) := ⟨_, rfl⟩
        obtain ⟨v, hvv⟩ : ∃ v : Int, v = s - (y : Int) := ⟨_, rfl⟩
        by_cases hneg : v < 0
        · have dn : decide (v < 0) = true := by simp; omega
          obtain ⟨d, hd⟩ : ∃ d : Nat, (d : Int) = v + 65536 := ⟨(v + 65536).toNat, by omega⟩
          have HS := Lib.hid (sub_step (p := 65536 ^ i) (x := x) (y := y) (d := d) (e := 1) HV.out (by omega))
          rw [← tx, ← ty] at HS
          have HD : Hid (d < 65536) := show _ < _ by omega
          have z1 : (x : Int) - (c : Int) = s := hs.symm
          have z1w : wrap64 s = s := by clear hvv hd; unfold wrap64; omega
          have evs : v = s := by omega
          have z3 : v + 65536 = (d : Int) := hd.symm
          have wd := wr64 (Nat.lt_trans HD.out (by decide))
          have z5 := wr16 HD.out
          subst evs
          have zx := wr64 (Nat.lt_trans hx (by decide))
          have zy := wr64 (Nat.lt_trans hy (by decide))
          clear tx ty hx hy hc hvv hs hneg hd y0
          have hgn := heap_alloc_new wr (.cells #[.int .u16 (d : Int)] 45)
          have HOA : Hid ((wr.alloc (.cells #[.int .u16 (d : Int)] 45)).ownsRow w.heap.size 45 1 (.slice R i k) i (dc zs)) := HO.out.alloc _
          have BA : Below w.heap.size w (wr.alloc (.cells #[.int .u16 (d : Int)] 45)) := HB.out.alloc HB.out.size _
          have HSr : Hid (0 < 1 → ∃ ad, some (⟨wr.heap.size, 0, none⟩ : Addr) = some ad ∧ ∀ j u, ([.int .u16 (d : Int)] : List Value)[j]? = some u → (wr.alloc (.cells #[.int .u16 (d : Int)] 45)).cell? (ad.add j) = some u) := fun _ =>
            ⟨_, rfl, World.news_of_block (cs := #[.int .u16 (d : Int)]) (t := 45) (fr := (0, 0)) hgn⟩
          have l2 : i + 1 ≤ maxLen := len_room i n hin hn
          have l3 : (i + 1) * 2 ≤ 140737488355328 := by clear z5 zx zy z1w wd; omega
          have hsz : w.heap.size ≤ (wr.alloc (.cells #[.int .u16 (d : Int)] 45)).heap.size := Nat.le_trans HB.out.size (by simp)
          have l4 : ∀ u ∈ ([.int .u16 (d : Int)] : List Value), u.oneCell' = true := by simp [Value.oneCell']
          have HBA := Lib.hid BA
          have HI9 := Lib.hid hin
          clear hgn HO BA hi
          go_wp2_with (first | (at_builtin; refine wpList_append_held _ rfl (.tmp 37) (.tmp 40) 22 rfl w.heap.size 45 i0' _ 2 Try.underlying22 HI0.out HZ0.out HZ1.out HZ2.out rfl _ i _ rfl HOA.out (some ⟨wr.heap.size, 0, none⟩) 1 1 [.int .u16 (d : Int)] rfl rfl HSr.out l4 l2 l3 hsz ?_))
          intro A5 c5 w9 ho9 hg9 _
          have B9 : Below w.heap.size w w9 := HBA.out.grown hg9 HBA.out.size (fun k hk => (HOA.out.lt k hk).1)
          have HO9 : Hid (w9.ownsRow w.heap.size 45 1 (.slice A5 (i + 1) c5) (i + 1) (dc (zs ++ [d]))) := by
            rw [dc_append]
            exact ho9.out
          have HB9 := Lib.hid B9
          clear ho9 hg9 HOA HBA HSr hsz l4 l2 l3 B9
          go_wp2_with fail
          go_roundw
          case rel =>
            refine ⟨i + 1, 1, c5, A5, zs ++ [d], rfl, rfl, ret_val (by omega), by omega, HI9.out, HO9.out, HZ.out.append (Dg.one HD.out), ?_, HB9.out⟩
            rw [nv_snoc, HLz.out, Nat.pow_succ]
            exact HS.out
          case measure => simp [intOf]; have := HI9.out; omega
        · have dn : decide (v < 0) = false := by simp; omega
          obtain ⟨d, hd⟩ : ∃ d : Nat, (d : Int) = v := ⟨v.toNat, by omega⟩
          have HS := Lib.hid (sub_step (p := 65536 ^ i) (x := x) (y := y) (d := d) (e := 0) HV.out (by omega))
          rw [← tx, ← ty] at HS
          have HD : Hid (d < 65536) := show _ < _ by omega
          have z1 : (x : Int) - (c : Int) = s := hs.symm
          have z1w : wrap64 s = s := by clear hvv hd; unfold wrap64; omega
          have evs : v = s := by omega
          have z5 := wr16 HD.out
          subst hd
          subst evs
          have zx := wr64 (Nat.lt_trans hx (by decide))
          have zy := wr64 (Nat.lt_trans hy (by decide))
          clear tx ty hx hy hc hvv hs hneg y0
          have hgn := heap_alloc_new wr (.cells #[.int .u16 (d : Int)] 45)
          have HOA : Hid ((wr.alloc (.cells #[.int .u16 (d : Int)] 45)).ownsRow w.heap.size 45 1 (.slice R i k) i (dc zs)) := HO.out.alloc _
          have BA : Below w.heap.size w (wr.alloc (.cells #[.int .u16 (d : Int)] 45)) := HB.out.alloc HB.out.size _
          have HSr : Hid (0 < 1 → ∃ ad, some (⟨wr.heap.size, 0, none⟩ : Addr) = some ad ∧ ∀ j u, ([.int .u16 (d : Int)] : List Value)[j]? = some u → (wr.alloc (.cells #[.int .u16 (d : Int)] 45)).cell? (ad.add j) = some u) := fun _ =>
            ⟨_, rfl, World.news_of_block (cs := #[.int .u16 (d : Int)]) (t := 45) (fr := (0, 0)) hgn⟩
          have l2 : i + 1 ≤ maxLen := len_room i n hin hn
          have l3 : (i + 1) * 2 ≤ 140737488355328 := by clear z5 zx zy z1w; omega
          have hsz : w.heap.size ≤ (wr.alloc (.cells #[.int .u16 (d : Int)] 45)).heap.size := Nat.le_trans HB.out.size (by simp)
          have l4 : ∀ u ∈ ([.int .u16 (d : Int)] : List Value), u.oneCell' = true := by simp [Value.oneCell']
          have HBA := Lib.hid BA
          have HI9 := Lib.hid hin
          clear hgn HO BA hi
          go_wp2_with (first | (at_builtin; refine wpList_append_held _ rfl (.tmp 37) (.tmp 40) 22 rfl w.heap.size 45 i0' _ 2 Try.underlying22 HI0.out HZ0.out HZ1.out HZ2.out rfl _ i _ rfl HOA.out (some ⟨wr.heap.size, 0, none⟩) 1 1 [.int .u16 (d : Int)] rfl rfl HSr.out l4 l2 l3 hsz ?_))
          intro A5 c5 w9 ho9 hg9 _
          have B9 : Below w.heap.size w w9 := HBA.out.grown hg9 HBA.out.size (fun k hk => (HOA.out.lt k hk).1)
          have HO9 : Hid (w9.ownsRow w.heap.size 45 1 (.slice A5 (i + 1) c5) (i + 1) (dc (zs ++ [d]))) := by
            rw [dc_append]
            exact ho9.out
          have HB9 := Lib.hid B9
          clear ho9 hg9 HOA HBA HSr hsz l4 l2 l3 B9
          go_wp2_with fail
          go_roundw
          case rel =>
            refine ⟨i + 1, 0, c5, A5, zs ++ [d], rfl, rfl, ret_val (by omega), by omega, HI9.out, HO9.out, HZ.out.append (Dg.one HD.out), ?_, HB9.out⟩
            rw [nv_snoc, HLz.out, Nat.pow_succ]
            exact HS.out
          case measure => simp [intOf]; have := HI9.out; omega
    · obtain rfl : i = n := by omega
      have dp := lt_f (Nat.le_refl i)
      have dpn := ltn_f (Nat.le_refl i)
      have hV := HV.out
      rw [List.take_of_length_le (l := dg a) (by rw [L1.out]; exact Nat.le_refl _), List.take_of_length_le (l := dg b) (by rw [L2.out]; exact HM.out), nv_dg, nv_dg] at hV
      have hLz : zs.length = i := by
        have := HO.out.1
        rw [dc_length] at this
        omega
      have hlt := nv_lt HZ.out
      rw [hLz] at hlt
      have hE : nv zs = a - b := by
        have hle := HLE.out
        have hc0 : c = 0 := by
          rcases Nat.eq_zero_or_pos c with h | h
          · exact h
          · exfalso
            have : 65536 ^ i * 1 ≤ 65536 ^ i * c := Nat.mul_le_mul_left _ h
            omega
        rw [hc0, Nat.mul_zero] at hV
        omega
      have hcp := own_cap HO.out
      have cT := Lib.hid (refTrim_any R i k zs wr (own_digs HO.out HZ.out) (by omega) hcp.1 hcp.2)
      rw [hE] at cT
      clear hV hLz hlt hE hcp hc HO HZ HV
      go_wp2_with fail
      refine cT.out.mono ?_
      rintro e v1 ⟨rfl, hD, _, hw⟩; subst v1
      have HD := Lib.hid hD
      clear hD
      go_wp2_with fail
      go_ret
      exact ⟨_, _, rfl, HD.out, HB.out⟩

end Go.Proofs.Ytcejbkmmiklhbaa
