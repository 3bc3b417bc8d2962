/-
  What the law's few and value do. No condition beyond what each contract says.
-/
import Derived.Test.YtdclgdpifamomaaAwake8
import Derived.Test.YtdclgdpifamomaaPoly8
namespace Go.Proofs.Ytdclgdpifamomaa
open Go.RowKit

theorem i64_and15 (n : Int) : bits .and .i64 n 32767 = n % 32768 := by
  have hn : (BitVec.ofInt 64 n &&& BitVec.ofInt 64 32767).toNat = (n % (2 : Int) ^ 64).toNat % 32768 := by
    have h3 : (BitVec.ofInt 64 (32767 : Int)).toNat = 2 ^ 15 - 1 := by decide
    rw [BitVec.toNat_and, BitVec.toNat_ofInt, h3, Nat.and_two_pow_sub_one_eq_mod]
    norm_cast
  show IntKind.i64.wrap ((BitVec.ofInt 64 n &&& BitVec.ofInt 64 32767).toNat : Int) = n % 32768
  rw [hn, IntKind.wrap_i64]
  omega

theorem info_int : (Try.prog.info? 3).map (fun i => (i.zero, i.size, i.bytes)) = some (some (.int .i64 0), 1, 8) := by kernel_rfl

/-- The loop of few. -/
def FewAt (w : World) (xs : List Int) (v3 v4 : Value) (wr : World) : Prop :=
  ∃ (i : Nat) (A : Option Addr) (c : Nat), i ≤ xs.length ∧ v3 = .slice A i c ∧ v4 = .int .i64 (i : Int) ∧ wr.ownsRow w.heap.size 3 1 (.slice A i c) i (intCells (fewL (xs.take i))) ∧ Below w.heap.size w wr

set_option maxHeartbeats 4000000 in
theorem few_any (A : Option Addr) (n c : Nat) (xs : List Int) (w : World) (h : Ints w (· < w.heap.size) A n xs) (hn : n ≤ 1000000) :
    Calls Try.prog 17 #[.slice A n c] w fun e w' => ∃ R k, e = .returned (.slice R n k) ∧ Ints w' (· < w'.heap.size) R n (fewL xs) ∧ Below w.heap.size w w' := by
  have H := Lib.hid h
  have hxl := Lib.hid h.1
  clear h
  go_enter Try.func17, Try.ntmps17
  go_wp2_with fail
  go_loopw [3, 4] (fun v3 v4 wr => FewAt w xs v3 v4 wr) (fun _ v4 _ => n - (intOf v4).toNat)
  case atStart => exact ⟨0, none, 0, by omega, rfl, rfl, World.ownsRow_nil _ _ _ _, Below.refl _ _⟩
  case round =>
    obtain ⟨i, R, k, hi, rfl, rfl, hO, B⟩ := hrel
    have HO := Lib.hid hO
    clear hO
    by_cases hlt : i < n
    · have d1 : decide ((i : Int) < (n : Int)) = true := by simp; omega
      have d1n : decide (i < n) = true := by simp; omega
      obtain ⟨b0, o, rfl, m1, hc⟩ := H.out.2 (by omega)
      have x1 := (B.cell (p := ⟨b0, o + i, none⟩) m1).trans (hc i hlt)
      have a1 := i64_and15 (xs.getD i 0)
      have HS := Lib.hid (fewL_snoc xs i (by rw [hxl.out]; exact hlt))
      generalize xs.getD i 0 = x at *
      obtain ⟨y, hy⟩ : ∃ y, y = x % 32768 := ⟨_, rfl⟩
      rw [← hy] at a1 HS
      clear hy hc m1
      obtain ⟨i0, hi0, hz0, hz1, hz2⟩ := info_parts info_int
      have HZ := Lib.hid hz0; have HI0 := Lib.hid hi0; have H1 := Lib.hid hz1; have H2 := Lib.hid hz2
      clear hz0 hi0 hz1 hz2
      have hgn := heap_alloc_new wr (.cells #[.int .i64 y] 3)
      have HOA : Hid ((wr.alloc (.cells #[.int .i64 y] 3)).ownsRow w.heap.size 3 1 (.slice R i k) i (intCells (fewL (xs.take i)))) := HO.out.alloc _
      have BA : Below w.heap.size w (wr.alloc (.cells #[.int .i64 y] 3)) := B.alloc B.size _
      have HSr : Hid (0 < 1 → ∃ ad, some (⟨wr.heap.size, 0, none⟩ : Addr) = some ad ∧ ∀ j u, ([.int .i64 y] : List Value)[j]? = some u → (wr.alloc (.cells #[.int .i64 y] 3)).cell? (ad.add j) = some u) := fun _ =>
        ⟨_, rfl, World.news_of_block (cs := #[.int .i64 y]) (t := 3) (fr := (0, 0)) hgn⟩
      have l2 : i + 1 ≤ maxLen := by simp only [maxLen]; omega
      have l3 : (i + 1) * 8 ≤ 140737488355328 := by omega
      have hsz : w.heap.size ≤ (wr.alloc (.cells #[.int .i64 y] 3)).heap.size := by have := B.size; simp; omega
      have l4 : ∀ u ∈ ([.int .i64 y] : List Value), u.oneCell' = true := by simp [Value.oneCell']
      have HI := Lib.hid hlt
      have HBA := Lib.hid BA
      clear hgn HO B BA hi
      go_wp2_with (first | (at_builtin; refine wpList_append_held _ rfl (.tmp 11) (.tmp 17) 35 rfl w.heap.size 3 i0 _ 8 Try.underlying35 HI0.out HZ.out H1.out H2.out rfl _ i _ rfl HOA.out (some ⟨wr.heap.size, 0, none⟩) 1 1 [.int .i64 y] rfl rfl HSr.out l4 l2 l3 hsz ?_))
      intro A5 c5 w9 ho9 hg9 _
      have B9 : Below w.heap.size w w9 := HBA.out.grown hg9 HBA.out.size (fun k hk => (HOA.out.lt k hk).1)
      have HO9 : Hid (w9.ownsRow w.heap.size 3 1 (.slice A5 (i + 1) c5) (i + 1) (intCells (fewL (xs.take (i + 1))))) := by
        rw [HS.out]
        unfold intCells
        rw [List.map_append]
        exact ho9.out
      have HB9 := Lib.hid B9
      clear ho9 hg9 HOA HBA HSr hsz l4 l2 l3 B9 x1
      go_wp2_with fail
      go_roundw
      case rel => exact ⟨i + 1, A5, c5, by rw [hxl.out]; exact HI.out, rfl, ret_val (by have := HI.out; omega), HO9.out, HB9.out⟩
      case measure => simp [intOf]; have := HI.out; omega
    · obtain rfl : i = n := by have := hxl.out; omega
      have d1 : decide ((i : Int) < (i : Int)) = false := by simp
      have hO := HO.out
      rw [List.take_of_length_le (by rw [hxl.out]; exact Nat.le_refl _)] at hO
      have HF := Lib.hid (own_ints hO)
      have HB := Lib.hid B
      clear hO HO B hi hlt
      go_wp2_with fail
      go_ret
      exact ⟨R, k, rfl, HF.out, HB.out⟩

/-- The loop of value: i numbers are left. -/
def ValAt (w : World) (xs : List Int) (X : Int) (v5 v6 : Value) (wr : World) : Prop :=
  wr = w ∧ ∃ i : Nat, i ≤ xs.length ∧ v5 = .int .u64 (ev X (xs.drop i) % 18446744073709551616) ∧ v6 = .int .i64 ((i : Int) - 1)
theorem ev_drop (X : Int) (xs : List Int) (k : Nat) (h : k < xs.length) : ev X (xs.drop k) = xs.getD k 0 + X * ev X (xs.drop (k + 1)) := by
  rw [List.drop_eq_getElem_cons h]
  show xs[k] + X * ev X (xs.drop (k + 1)) = _
  simp [List.getD, h]
theorem horner (e X l : Int) : ((e % 18446744073709551616 * X) % 18446744073709551616 + l % 18446744073709551616) % 18446744073709551616 = (l + X * e) % 18446744073709551616 := by
  rw [← Int.add_emod, Int.add_comm, Int.add_emod, Int.mul_emod, Int.emod_emod, ← Int.mul_emod, ← Int.add_emod, Int.mul_comm]

set_option maxHeartbeats 4000000 in
theorem value_any (A : Option Addr) (n c : Nat) (xs : List Int) (X : Int) (w : World) (h : Ints w (· < w.heap.size) A n xs) (hn : n ≤ 1000000) :
    Calls Try.prog 18 #[.slice A n c, .int .u64 X] w fun e w' => e = .returned (.int .u64 (ev X xs % 18446744073709551616)) ∧ w' = w := by
  have H := Lib.hid h
  have hxl := Lib.hid h.1
  obtain ⟨E, hE⟩ : ∃ E, E = ev X xs % 18446744073709551616 := ⟨_, rfl⟩
  rw [← hE]
  have HE := Lib.hid hE
  clear h hE
  go_enter Try.func18, Try.ntmps18
  go_wp2_with fail
  go_loopw [5, 6] (fun v5 v6 wr => ValAt w xs X v5 v6 wr) (fun _ v6 _ => (intOf v6 + 1).toNat)
  case atStart => exact ⟨rfl, n, by rw [hxl.out]; exact Nat.le_refl _, by rw [List.drop_eq_nil_of_le (by rw [hxl.out]; exact Nat.le_refl _)]; rfl, rfl⟩
  case round =>
    obtain ⟨rfl, i, hi, rfl, rfl⟩ := hrel
    cases i with
    | zero =>
      have e0 : (((0 : Nat) : Int) - 1) = -1 := by decide
      have HR : Hid (ev X (xs.drop 0) % 18446744073709551616 = E) := show _ = _ by rw [HE.out]; rfl
      rw [e0, HR.out]
      clear e0 hi
      go_wp2_with fail
      go_ret
      exact ⟨rfl, rfl⟩
    | succ k =>
      have e0 : (((k + 1 : Nat) : Int) - 1) = (k : Int) := by omega
      rw [e0]
      have hkn : k < n := by have := hxl.out; omega
      have d1 : decide ((0 : Int) ≤ (k : Int)) = true := by simp
      have k0 : (0 : Int) ≤ (k : Int) := by omega
      have kn : (k : Int) < (n : Int) := by omega
      obtain ⟨b0, o, rfl, m1, hc⟩ := H.out.2 (by omega)
      have x1 := hc k hkn
      have HS := Lib.hid (ev_drop X xs k (by rw [hxl.out]; exact hkn))
      have HH := Lib.hid (horner (ev X (xs.drop (k + 1))) X (xs.getD k 0))
      generalize ev X (xs.drop (k + 1)) = ee at *
      generalize xs.getD k 0 = l at *
      obtain ⟨v, hv⟩ : ∃ v, v = ee % 18446744073709551616 := ⟨_, rfl⟩
      rw [← hv] at HH ⊢
      obtain ⟨p, hp⟩ : ∃ p, p = v * X % 18446744073709551616 := ⟨_, rfl⟩
      obtain ⟨q, hq⟩ : ∃ q, q = l % 18446744073709551616 := ⟨_, rfl⟩
      obtain ⟨r, hr⟩ : ∃ r, r = (p + q) % 18446744073709551616 := ⟨_, rfl⟩
      rw [← hp, ← hq, ← hr] at HH
      have w1 : IntKind.u64.wrap (v * X) = p := by rw [IntKind.wrap_u64, hp]
      have w2 : IntKind.u64.wrap l = q := by rw [IntKind.wrap_u64, hq]
      have w3 : IntKind.u64.wrap (p + q) = r := by rw [IntKind.wrap_u64, hr]
      have HK := Lib.hid hkn
      clear hv hp hq hr hc m1 hi e0 hkn
      go_wp2_with fail
      go_roundw
      case rel => exact ⟨by trivial, k, by have := HK.out; have := hxl.out; omega, by rw [HS.out, ← HH.out], by first | rfl | exact ret_val (by omega)⟩
      case measure => simp [intOf]

end Go.Proofs.Ytdclgdpifamomaa
