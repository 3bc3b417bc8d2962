/-
  What the document's longer does (chapter 17): a path and one number more; no condition but bounds.
-/
import Derived.Test.YtmkgcifcfgfegaaTreeAt
import Derived.Test.YtmkgcifcfgfegaaRefA17
import Derived.Test.YtmkgcifcfgfegaaOwnRow

namespace Go.Proofs.Ytmkgcifcfgfegaa
set_option maxRecDepth 100000
open Go.RowKit
theorem info_int : (Try.prog.info? 3).map (fun i => (i.zero, i.size, i.bytes)) = some (some (.int .i64 0), 1, 8) := by kernel_rfl
theorem Ints.cellsAt {w : World} {M : Nat → Prop} {A : Option Addr} {n : Nat} {xs : List Int} (h : Ints w M A n xs) (hn : 0 < n) : ∃ ad, A = some ad ∧ ∀ j v, (intCells xs)[j]? = some v → w.cell? (ad.add j) = some v := by
  obtain ⟨b, o, e, _, hc⟩ := h.2 hn
  refine ⟨_, e, fun j v hj => ?_⟩
  have hl : j < xs.length := by
    have := (List.getElem?_eq_some_iff.1 hj).1
    simpa [intCells] using this
  rw [Addr.add_lit, hc j (by have := h.1; omega), ← hj]
  simp [intCells, List.getD, hl]
theorem own_ints_new {w : World} {base n c : Nat} {e : TypeId} {A : Option Addr} {xs : List Int} (h : w.ownsRow base e 1 (.slice A n c) n (intCells xs)) : Ints w (fun b => base ≤ b ∧ b < w.heap.size) A n xs := by
  have hl : xs.length = n := by have := h.1; simp [intCells] at this; omega
  refine ⟨hl, fun hn => ?_⟩
  obtain ⟨g, e, hb, hlt, hc⟩ := own_cell h hn
  refine ⟨g, 0, e, ⟨hb, hlt⟩, fun i hi => ?_⟩
  rw [Nat.zero_add, hc i hi]
  have : i < xs.length := by omega
  simp [intCells, List.getD, this]
set_option maxHeartbeats 1000000 in
theorem longer_new (A : Option Addr) (n c : Nat) (xs : List Int) (k : Int) (w : World) (h : Ints w (· < w.heap.size) A n xs) (hn : n ≤ 1000000) :
    Calls Try.prog 40 #[.slice A n c, .int .i64 k] w fun e w' => (∃ A' c', e = .returned (.slice A' (n + 1) c') ∧ Ints w' (fun b => w.heap.size ≤ b ∧ b < w'.heap.size) A' (n + 1) (xs ++ [k])) ∧ Below w.heap.size w w' := by
  obtain ⟨i0, hi0, hz0, hz1, hz2⟩ := info_parts info_int
  have HZ := Lib.hid hz0; have HI := Lib.hid hi0; have H1 := Lib.hid hz1; have H2 := Lib.hid hz2
  have HA := Lib.hid h
  clear h hz0 hi0 hz1 hz2
  have HA3 : Hid (Ints (w.alloc (.cells #[] 3)) (· < w.heap.size) A n xs) := HA.out.keep (fun k hk => Below.heap_alloc _ _ _ hk)
  have HO3 : Hid ((w.alloc (.cells #[] 3)).ownsRow w.heap.size 3 1 (.slice (some ⟨w.heap.size, 0, none⟩) 0 0) 0 []) := World.ownsRow_lit w #[] 0 (Nat.le_refl _) (Nat.zero_le _) rfl
  have L1 : Hid ((intCells xs).length = n) := show _ = _ by simp [intCells, HA.out.1]
  have L2 : 0 + n ≤ maxLen := by simp only [maxLen]; omega
  have L3 : (0 + n) * 8 ≤ 140737488355328 := by omega
  have B3 : Below w.heap.size w (w.alloc (.cells #[] 3)) := (Below.refl _ _).alloc (Nat.le_refl _) _
  have M2 : n + 1 ≤ maxLen := by simp only [maxLen]; omega
  have M3 : (n + 1) * 8 ≤ 140737488355328 := by omega
  have l4 : ∀ u ∈ ([.int .i64 k] : List Value), u.oneCell' = true := by simp [Value.oneCell']
  go_enter Try.func40, Try.ntmps40
  go_wp2_with (first | (at_builtin; refine wpList_append_held _ rfl (.tmp 5) (.tmp 6) 27 rfl w.heap.size 3 i0 _ 8 Try.underlying27 HI.out HZ.out H1.out H2.out rfl _ 0 [] rfl HO3.out A n c (intCells xs) rfl L1.out HA3.out.cellsAt (intCells_one xs) L2 L3 (by simp) ?_))
  intro A4 c4 w4 ho4 hg4 _
  have B4 : Below w.heap.size w w4 := B3.grown hg4 (by simp) (fun k hk => (HO3.out.lt k hk).1)
  have HO4 : Hid (w4.ownsRow w.heap.size 3 1 (.slice A4 n c4) n (intCells xs)) := show World.ownsRow _ _ _ _ _ _ _ from by
    have := ho4.out
    simpa using this
  have h34 : w.heap.size ≤ w4.heap.size := B4.size
  have hgn := heap_alloc_new w4 (.cells #[.int .i64 k] 3)
  have HOA : Hid ((w4.alloc (.cells #[.int .i64 k] 3)).ownsRow w.heap.size 3 1 (.slice A4 n c4) n (intCells xs)) := HO4.out.alloc _
  have BA : Below w.heap.size w (w4.alloc (.cells #[.int .i64 k] 3)) := B4.alloc B4.size _
  have HSr : Hid (0 < 1 → ∃ ad, some (⟨w4.heap.size, 0, none⟩ : Addr) = some ad ∧ ∀ j u, ([.int .i64 k] : List Value)[j]? = some u → (w4.alloc (.cells #[.int .i64 k] 3)).cell? (ad.add j) = some u) := fun _ =>
    ⟨_, rfl, World.news_of_block (cs := #[.int .i64 k]) (t := 3) (fr := (0, 0)) hgn⟩
  have hsz : w.heap.size ≤ (w4.alloc (.cells #[.int .i64 k] 3)).heap.size := BA.size
  clear ho4 hg4 HO3 HA3 hgn B4
  go_wp2_with (first | (at_builtin; refine wpList_append_held _ rfl (.tmp 7) (.tmp 9) 27 rfl w.heap.size 3 i0 _ 8 Try.underlying27 HI.out HZ.out H1.out H2.out rfl _ n (intCells xs) rfl HOA.out (some ⟨w4.heap.size, 0, none⟩) 1 1 [.int .i64 k] rfl rfl HSr.out l4 M2 M3 hsz ?_))
  intro A5 c5 w5 ho5 hg5 _
  have HB5 := Lib.hid (BA.grown hg5 BA.size (fun k hk => (HOA.out.lt k hk).1))
  have H5 : Hid (Ints w5 (fun b => w.heap.size ≤ b ∧ b < w5.heap.size) A5 (n + 1) (xs ++ [k])) := by
    have := ho5.out
    exact own_ints_new (by unfold intCells; rw [List.map_append]; exact this)
  clear ho5 hg5 HO4 HOA BA HSr hsz l4 M2 M3 h34
  go_wp2_with fail
  go_ret
  exact ⟨⟨_, _, rfl, H5.out⟩, HB5.out⟩
theorem Ints.weaken {w : World} {M M' : Nat → Prop} {A : Option Addr} {n : Nat} {xs : List Int} (h : Ints w M A n xs) (hk : ∀ k, M k → M' k) : Ints w M' A n xs :=
  ⟨h.1, fun hn => by
    obtain ⟨b, o, e, hm, hc⟩ := h.2 hn
    exact ⟨b, o, e, hk b hm, hc⟩⟩
theorem longer_any (A : Option Addr) (n c : Nat) (xs : List Int) (k : Int) (w : World) (h : Ints w (· < w.heap.size) A n xs) (hn : n ≤ 1000000) :
    Calls Try.prog 40 #[.slice A n c, .int .i64 k] w fun e w' => (∃ A' c', e = .returned (.slice A' (n + 1) c') ∧ Ints w' (· < w'.heap.size) A' (n + 1) (xs ++ [k])) ∧ Below w.heap.size w w' :=
  (longer_new A n c xs k w h hn).mono fun _ _ ⟨⟨A', c', e, hi⟩, hb⟩ => ⟨⟨A', c', e, hi.weaken fun _ h => h.2⟩, hb⟩
end Go.Proofs.Ytmkgcifcfgfegaa
