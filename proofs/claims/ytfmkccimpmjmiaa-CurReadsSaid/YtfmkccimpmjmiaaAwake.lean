/-
  The law's first question (what the document's examples tell) is answered true, and nothing that was there is written; no condition.
-/
import Derived.Test.YtfmkccimpmjmiaaCurC
import Derived.Test.YtfmkccimpmjmiaaCurE
namespace Go.Proofs.Ytfmkccimpmjmiaa
open Go.RowKit

theorem held_12 (w : World) : Held (w.alloc (.cells #[.int .u8 1, .int .u8 2] 5)) (· = w.heap.size) (some ⟨w.heap.size, 0, none⟩) 2 [1, 2] :=
  Held.of_row (heap_alloc_new w _) rfl rfl
theorem le_12 : leNat (([1, 2] : List UInt8).drop 0 |>.take 2) = 513 := by decide
theorem be_12 : beNat (([1, 2] : List UInt8).drop 0 |>.take 2) = 258 := by decide
theorem be_258 : ([] : List UInt8) ++ beTo 258 2 2 = [1, 2] := by decide

set_option maxHeartbeats 1000000 in
theorem awake_any (w : World) : Calls Try.prog 8 #[] w fun e w' => e = .returned (.bool true) ∧ Below w.heap.size w w' := by
  go_enter Try.func8, Try.ntmps8
  go_wp2_with fail
  refine (new_any _ 2 2 [1, 2] _ _ (held_12 w) (by rintro k rfl; simp) (by omega)).mono ?_
  rintro e w1 ⟨q1, g1, rfl, hr1, hb1, hq1, hg1⟩
  have B1 : Below w.heap.size w w1 := ((Below.refl _ _).alloc (Nat.le_refl _) _).trans (hb1.mono (by simp))
  have hz1 : w.heap.size < q1 := by simp at hq1; omega
  have HR1 := Lib.hid hr1
  clear hr1 hb1 hq1 hg1
  go_wp2_with fail
  refine (rlow_ok q1 g1 [1, 2] 0 2 _ HR1.out (by omega) (by omega) (by simp)).mono ?_
  rintro e w2 ⟨rfl, hr2, hk2⟩
  rw [le_12]
  have B2 : Below w.heap.size w w2 := B1.trans (hk2.below B1.size (fun k hk e => by omega))
  clear hr2 hk2
  go_wp2_with fail
  refine (new_any _ 2 2 [1, 2] _ _ (held_12 w2) (by rintro k rfl; simp) (by omega)).mono ?_
  rintro e w3 ⟨q3, g3, rfl, hr3, hb3, hq3, hg3⟩
  have B3 : Below w.heap.size w w3 := (B2.alloc B2.size _).trans (hb3.mono (by have := B2.size; simp; omega))
  have hz3 : w.heap.size < q3 := by have := B2.size; simp at hq3; omega
  have HR3 := Lib.hid hr3
  clear hr3 hb3 hq3 hg3
  go_wp2_with fail
  refine (rhigh_ok q3 g3 [1, 2] 0 2 _ HR3.out (by omega) (by omega) (by simp)).mono ?_
  rintro e w4 ⟨rfl, hr4, hk4⟩
  rw [be_12]
  have B4 : Below w.heap.size w w4 := B3.trans (hk4.below B3.size (fun k hk e => by omega))
  clear hr4 hk4
  go_wp2_with fail
  refine (lay_any _).mono ?_
  rintro e w5 ⟨rfl, rfl⟩
  have HW := Lib.hid (Wr.start w4 w4.heap.size (Nat.le_refl _))
  have B5 : Below w.heap.size w (w4.alloc (.cells #[.slice none 0 0] 60)) := B4.alloc B4.size _
  go_wp2_with fail
  refine (whigh_ok w4.heap.size w4.heap.size _ [] 258 2 _ HW.out (by omega) (by omega) (by omega) (by simp)).mono ?_
  rintro e w6 ⟨rfl, v6, hw6, hk6, hn6⟩
  rw [be_258] at hw6
  have B6 : Below w.heap.size w w6 := B5.trans (hk6.below B5.size (fun k hk e => by
    rcases e with e | e
    · have := B4.size; omega
    · cases e))
  have HW6 := Lib.hid hw6
  clear hw6 hk6 hn6
  go_wp2_with fail
  refine (bytes_any w4.heap.size w4.heap.size v6 [1, 2] _ HW6.out).mono ?_
  rintro e w7 ⟨rfl, hg7, hb7⟩
  have B7 : Below w.heap.size w w7 := B6.trans (hb7.mono B6.size)
  have hs := run_string (P := Try.prog) 22 9 5 Try.underlying22 Try.underlying5 Try.underlying9 (Held.of_row (M := fun _ => True) (n := 2) (bs := [1, 2]) hg7 rfl trivial) 2
  clear hg7 hb7
  go_wp2_with fail
  go_ret
  exact ⟨rfl, B7⟩

/-- What a walk is told of a slice of integers that came in: nil, or a row of 'cap' cells, the numbers 'zs', of which the first 'len' are its elements. -/
def IsRow (k : IntKind) (w : World) (a : Option Addr) (len cap : Nat) (zs : List Int) : Prop :=
  (a = none ∧ len = 0 ∧ cap = 0 ∧ zs = []) ∨
  ∃ x, a = some x ∧ len ≤ cap ∧ cap ≤ maxLen ∧ zs.length = cap ∧ (∀ i, i < zs.length → w.cell? (x.add i) = some (.int k (zs.getD i 0))) ∧ ∀ n ∈ zs, (Lit.int k n).wf = true
/-- Of bytes that came in. -/
theorem IsRow.held {w : World} {a : Option Addr} {len cap : Nat} {zs : List Int} (h : IsRow .u8 w a len cap zs) : ∃ bs, Held w (· < w.heap.size) a len bs ∧ len ≤ cap := by
  rcases h with ⟨rfl, rfl, rfl, rfl⟩ | ⟨x, rfl, hl, hm, hz, hc, hw⟩
  · exact ⟨[], Held.nothing rfl, Nat.le_refl _⟩
  · refine ⟨(zs.take len).map fun n => UInt8.ofNat n.toNat, ⟨by simp; omega, fun hn => ?_⟩, hl⟩
    obtain ⟨b, o, sp⟩ := x
    have hsp : sp = none := by
      have := World.cell?_spot (hc 0 (by omega))
      simpa [Addr.add] using this
    subst hsp
    refine ⟨b, o, rfl, World.block_lt_of_cell? w ⟨b, o, none⟩ (by simpa [Addr.add] using hc 0 (by omega)), fun i hi => ?_⟩
    have h1 := hc i (by omega)
    rw [Addr.add_lit] at h1
    rw [h1]
    have h2 := hw (zs.getD i 0) (by simp [List.getD, show i < zs.length by omega])
    have h3 : 0 ≤ zs.getD i 0 ∧ zs.getD i 0 ≤ 255 := Go.bounds_u8 h2
    have h4 : ((zs.take len).map fun n => UInt8.ofNat n.toNat).getD i 0 = UInt8.ofNat (zs.getD i 0).toNat := by
      simp [List.getD, hi, show i < zs.length by omega]
    rw [h4]
    generalize zs.getD i 0 = z at h3 ⊢
    simp
    omega

end Go.Proofs.Ytfmkccimpmjmiaa
