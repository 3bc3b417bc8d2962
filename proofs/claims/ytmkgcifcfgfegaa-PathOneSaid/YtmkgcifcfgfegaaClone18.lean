/-
  What slices.Clone does at bytes, numbers, Kids (chapter 18): a row of the call's own with the same cells; no condition but bounds.
-/
import Derived.Test.YtmkgcifcfgfegaaPathPure
import Derived.Lib.SliceRun
namespace Go.Proofs.Ytmkgcifcfgfegaa
set_option maxRecDepth 100000
open Go.RowKit

/-- The cells of a row lie there. -/
def Lie (w : World) (A : Option Addr) (n : Nat) (xs : List Value) : Prop :=
  0 < n → ∃ b o, A = some ⟨b, o, none⟩ ∧ b < w.heap.size ∧ ∀ j u, xs[j]? = some u → w.cell? ⟨b, o + j, none⟩ = some u
theorem lie_bytes {w : World} {A : Option Addr} {n : Nat} {bs : List UInt8} (h : Held w (· < w.heap.size) A n bs) : Lie w A n (cellsOf bs) := fun hn => by
  obtain ⟨b, o, e, hb, hc⟩ := h.2 hn
  refine ⟨b, o, e, hb, fun j u hj => ?_⟩
  have hj' : j < bs.length := by
    have := (List.getElem?_eq_some_iff.1 hj).1
    rwa [cellsOf_length] at this
  rw [cellsOf_get bs j hj'] at hj
  rw [hc j (by have := h.1; omega), ← hj]
theorem lie_ints {w : World} {A : Option Addr} {n : Nat} {xs : List Int} (h : Ints w (· < w.heap.size) A n xs) : Lie w A n (intCells xs) := fun hn => by
  obtain ⟨b, o, e, hb, hc⟩ := h.2 hn
  refine ⟨b, o, e, hb, fun j u hj => ?_⟩
  have hj' : j < xs.length := by
    have := (List.getElem?_eq_some_iff.1 hj).1
    simpa [intCells] using this
  have e2 : (intCells xs)[j]? = some (.int .i64 (xs.getD j 0)) := by simp [intCells, List.getD, hj']
  rw [e2] at hj
  rw [hc j (by have := h.1; omega), ← hj]
theorem info_byte : (Try.prog.info? 5).map (fun i => (i.zero, i.size, i.bytes)) = some (some (.int .u8 0), 1, 1) := by kernel_rfl
theorem eqnil_B (A : Option Addr) (n c : Nat) (w : World) : (binOp .eql 23 (.slice A n c) (.slice none 0 0)).run Try.prog w = .ok (.bool A.isNone) w := Lib.run_eql_slice_nil w _ _ A n c 0 0 Try.underlying23
set_option maxHeartbeats 2000000 in
theorem cloneB_any (A : Option Addr) (n c : Nat) (xs : List Value) (w : World) (hl : xs.length = n) (h : Lie w A n xs) (h1 : ∀ u ∈ xs, u.oneCell' = true) (hn : n ≤ 100000000) :
    Calls Try.prog 34 #[.slice A n c] w fun e w' => (∃ A' c', e = .returned (.slice A' n c') ∧ w'.ownsRow w.heap.size 5 1 (.slice A' n c') n xs) ∧ Below w.heap.size w w' := by
  obtain ⟨i0, hi0, hz0, hz1, hz2⟩ := info_parts info_byte
  obtain ⟨z0, ez⟩ : ∃ z, z = Value.int .u8 0 := ⟨_, rfl⟩
  rw [← ez] at hz0
  have hz3 : z0.cells.size = 1 := by rw [ez]; rfl
  have HZ0 := Lib.hid hz0; have HI0 := Lib.hid hi0; have HZ1 := Lib.hid hz1; have HZ2 := Lib.hid hz2; have HZ3 := Lib.hid hz3
  have HL : Hid (xs.length = n * 1) := show _ = _ by omega
  clear hi0 hz0 hz1 hz2 hz3
  cases A with
  | none =>
    have h0 : n = 0 := by
      rcases Nat.eq_zero_or_pos n with h0 | h0
      · exact h0
      · obtain ⟨b, o, e, _⟩ := h h0
        cases e
    subst h0
    have q0 : ∀ w, (binOp .eql 23 (.slice none 0 c) (.slice none 0 0)).run Try.prog w = .ok (.bool true) w := fun w => eqnil_B none 0 c w
    have ex : xs = [] := List.eq_nil_of_length_eq_zero (by omega)
    subst ex
    clear h h1 hl HL
    go_enter Try.func34, Try.ntmps34
    go_wp2_with fail
    go_ret
    exact ⟨⟨none, 0, rfl, World.ownsRow_nil _ _ _ _⟩, Below.refl _ _⟩
  | some ad =>
    have HO1 : Hid ((w.alloc (.cells #[] 5)).ownsRow w.heap.size 5 1 (.slice (some ⟨w.heap.size, 0, none⟩) 0 0) 0 []) := World.ownsRow_lit w #[] 0 (Nat.le_refl _) (Nat.zero_le _) rfl
    have B0 : Below w.heap.size w (w.alloc (.cells #[] 5)) := (Below.refl _ _).alloc (Nat.le_refl _) _
    have HP : Hid (0 < n → ∃ a2, some ad = some a2 ∧ ∀ j u, xs[j]? = some u → (w.alloc (.cells #[] 5)).cell? (a2.add j) = some u) := fun hpos => by
      obtain ⟨b, o, e, hb, hc⟩ := h hpos
      refine ⟨_, e, fun j u hj => ?_⟩
      rw [Addr.add_lit]
      exact (B0.cell (p := ⟨b, o + j, none⟩) hb).trans (hc j u hj)
    have hsz : w.heap.size ≤ (w.alloc (.cells #[] 5)).heap.size := by simp
    have HB0 := Lib.hid B0
    have l2 : 0 + n ≤ maxLen := by unfold maxLen; omega
    have l3 : (0 + n) * 1 ≤ 140737488355328 := by omega
    have L4 := Lib.hid h1
    have q0 : ∀ w, (binOp .eql 23 (.slice (some ad) n c) (.slice none 0 0)).run Try.prog w = .ok (.bool false) w := fun w => eqnil_B (some ad) n c w
    clear h h1 hl B0
    go_enter Try.func34, Try.ntmps34
    go_wp2_with (first | (at_builtin; refine wpList_append_rows _ rfl (.tmp 5) (.tmp 6) 23 rfl w.heap.size 5 i0 z0 1 1 Try.underlying23 HI0.out HZ0.out HZ1.out HZ2.out HZ3.out (by decide) _ 0 [] rfl HO1.out (some ad) n c xs rfl HL.out HP.out L4.out l2 l3 hsz ?_))
    intro A5 c5 w9 ho9 hg9 _
    have HB9 := Lib.hid (HB0.out.grown hg9 hsz (fun k hk => (HO1.out.lt k hk).1))
    have HO9 : Hid (w9.ownsRow w.heap.size 5 1 (.slice A5 n c5) n xs) := show World.ownsRow _ _ _ _ _ _ _ by
      have := ho9.out
      simpa using this
    clear ho9 hg9 HO1 HB0 HP hsz L4 l2 l3
    go_wp2_with fail
    go_ret
    exact ⟨⟨A5, c5, rfl, HO9.out⟩, HB9.out⟩
theorem eqnil_I (A : Option Addr) (n c : Nat) (w : World) : (binOp .eql 27 (.slice A n c) (.slice none 0 0)).run Try.prog w = .ok (.bool A.isNone) w := Lib.run_eql_slice_nil w _ _ A n c 0 0 Try.underlying27
set_option maxHeartbeats 2000000 in
theorem cloneI_any (A : Option Addr) (n c : Nat) (xs : List Value) (w : World) (hl : xs.length = n) (h : Lie w A n xs) (h1 : ∀ u ∈ xs, u.oneCell' = true) (hn : n ≤ 100000000) :
    Calls Try.prog 42 #[.slice A n c] w fun e w' => (∃ A' c', e = .returned (.slice A' n c') ∧ w'.ownsRow w.heap.size 3 1 (.slice A' n c') n xs) ∧ Below w.heap.size w w' := by
  obtain ⟨i0, hi0, hz0, hz1, hz2⟩ := info_parts info_int
  obtain ⟨z0, ez⟩ : ∃ z, z = Value.int .i64 0 := ⟨_, rfl⟩
  rw [← ez] at hz0
  have hz3 : z0.cells.size = 1 := by rw [ez]; rfl
  have HZ0 := Lib.hid hz0; have HI0 := Lib.hid hi0; have HZ1 := Lib.hid hz1; have HZ2 := Lib.hid hz2; have HZ3 := Lib.hid hz3
  have HL : Hid (xs.length = n * 1) := show _ = _ by omega
  clear hi0 hz0 hz1 hz2 hz3
  cases A with
  | none =>
    have h0 : n = 0 := by
      rcases Nat.eq_zero_or_pos n with h0 | h0
      · exact h0
      · obtain ⟨b, o, e, _⟩ := h h0
        cases e
    subst h0
    have q0 : ∀ w, (binOp .eql 27 (.slice none 0 c) (.slice none 0 0)).run Try.prog w = .ok (.bool true) w := fun w => eqnil_I none 0 c w
    have ex : xs = [] := List.eq_nil_of_length_eq_zero (by omega)
    subst ex
    clear h h1 hl HL
    go_enter Try.func42, Try.ntmps42
    go_wp2_with fail
    go_ret
    exact ⟨⟨none, 0, rfl, World.ownsRow_nil _ _ _ _⟩, Below.refl _ _⟩
  | some ad =>
    have HO1 : Hid ((w.alloc (.cells #[] 3)).ownsRow w.heap.size 3 1 (.slice (some ⟨w.heap.size, 0, none⟩) 0 0) 0 []) := World.ownsRow_lit w #[] 0 (Nat.le_refl _) (Nat.zero_le _) rfl
    have B0 : Below w.heap.size w (w.alloc (.cells #[] 3)) := (Below.refl _ _).alloc (Nat.le_refl _) _
    have HP : Hid (0 < n → ∃ a2, some ad = some a2 ∧ ∀ j u, xs[j]? = some u → (w.alloc (.cells #[] 3)).cell? (a2.add j) = some u) := fun hpos => by
      obtain ⟨b, o, e, hb, hc⟩ := h hpos
      refine ⟨_, e, fun j u hj => ?_⟩
      rw [Addr.add_lit]
      exact (B0.cell (p := ⟨b, o + j, none⟩) hb).trans (hc j u hj)
    have hsz : w.heap.size ≤ (w.alloc (.cells #[] 3)).heap.size := by simp
    have HB0 := Lib.hid B0
    have l2 : 0 + n ≤ maxLen := by unfold maxLen; omega
    have l3 : (0 + n) * 8 ≤ 140737488355328 := by omega
    have L4 := Lib.hid h1
    have q0 : ∀ w, (binOp .eql 27 (.slice (some ad) n c) (.slice none 0 0)).run Try.prog w = .ok (.bool false) w := fun w => eqnil_I (some ad) n c w
    clear h h1 hl B0
    go_enter Try.func42, Try.ntmps42
    go_wp2_with (first | (at_builtin; refine wpList_append_rows _ rfl (.tmp 5) (.tmp 6) 27 rfl w.heap.size 3 i0 z0 1 8 Try.underlying27 HI0.out HZ0.out HZ1.out HZ2.out HZ3.out (by decide) _ 0 [] rfl HO1.out (some ad) n c xs rfl HL.out HP.out L4.out l2 l3 hsz ?_))
    intro A5 c5 w9 ho9 hg9 _
    have HB9 := Lib.hid (HB0.out.grown hg9 hsz (fun k hk => (HO1.out.lt k hk).1))
    have HO9 : Hid (w9.ownsRow w.heap.size 3 1 (.slice A5 n c5) n xs) := show World.ownsRow _ _ _ _ _ _ _ by
      have := ho9.out
      simpa using this
    clear ho9 hg9 HO1 HB0 HP hsz L4 l2 l3
    go_wp2_with fail
    go_ret
    exact ⟨⟨A5, c5, rfl, HO9.out⟩, HB9.out⟩
theorem eqnil_F (A : Option Addr) (n c : Nat) (w : World) : (binOp .eql 24 (.slice A n c) (.slice none 0 0)).run Try.prog w = .ok (.bool A.isNone) w := Lib.run_eql_slice_nil w _ _ A n c 0 0 Try.underlying24
set_option maxHeartbeats 2000000 in
theorem cloneF_any (A : Option Addr) (n c : Nat) (xs : List Value) (w : World) (hl : xs.length = n * 10) (h : Lie w A n xs) (h1 : ∀ u ∈ xs, u.oneCell' = true) (hn : n ≤ 100000000) :
    Calls Try.prog 35 #[.slice A n c] w fun e w' => (∃ A' c', e = .returned (.slice A' n c') ∧ w'.ownsRow w.heap.size 46 10 (.slice A' n c') n xs) ∧ Below w.heap.size w w' := by
  obtain ⟨i0, z0, hi0, hz0, hz1, hz2, hz3⟩ := field_parts
  have HZ0 := Lib.hid hz0; have HI0 := Lib.hid hi0; have HZ1 := Lib.hid hz1; have HZ2 := Lib.hid hz2; have HZ3 := Lib.hid hz3
  have HL : Hid (xs.length = n * 10) := show _ = _ by omega
  clear hi0 hz0 hz1 hz2 hz3
  cases A with
  | none =>
    have h0 : n = 0 := by
      rcases Nat.eq_zero_or_pos n with h0 | h0
      · exact h0
      · obtain ⟨b, o, e, _⟩ := h h0
        cases e
    subst h0
    have q0 : ∀ w, (binOp .eql 24 (.slice none 0 c) (.slice none 0 0)).run Try.prog w = .ok (.bool true) w := fun w => eqnil_F none 0 c w
    have ex : xs = [] := List.eq_nil_of_length_eq_zero (by omega)
    subst ex
    clear h h1 hl HL
    go_enter Try.func35, Try.ntmps35
    go_wp2_with fail
    go_ret
    exact ⟨⟨none, 0, rfl, World.ownsRow_nil _ _ _ _⟩, Below.refl _ _⟩
  | some ad =>
    have HO1 : Hid ((w.alloc (.cells #[] 46)).ownsRow w.heap.size 46 10 (.slice (some ⟨w.heap.size, 0, none⟩) 0 0) 0 []) := World.ownsRow_lit w #[] 0 (Nat.le_refl _) (Nat.zero_le _) rfl
    have B0 : Below w.heap.size w (w.alloc (.cells #[] 46)) := (Below.refl _ _).alloc (Nat.le_refl _) _
    have HP : Hid (0 < n → ∃ a2, some ad = some a2 ∧ ∀ j u, xs[j]? = some u → (w.alloc (.cells #[] 46)).cell? (a2.add j) = some u) := fun hpos => by
      obtain ⟨b, o, e, hb, hc⟩ := h hpos
      refine ⟨_, e, fun j u hj => ?_⟩
      rw [Addr.add_lit]
      exact (B0.cell (p := ⟨b, o + j, none⟩) hb).trans (hc j u hj)
    have hsz : w.heap.size ≤ (w.alloc (.cells #[] 46)).heap.size := by simp
    have HB0 := Lib.hid B0
    have l2 : 0 + n ≤ maxLen := by unfold maxLen; omega
    have l3 : (0 + n) * 136 ≤ 140737488355328 := by omega
    have L4 := Lib.hid h1
    have q0 : ∀ w, (binOp .eql 24 (.slice (some ad) n c) (.slice none 0 0)).run Try.prog w = .ok (.bool false) w := fun w => eqnil_F (some ad) n c w
    clear h h1 hl B0
    go_enter Try.func35, Try.ntmps35
    go_wp2_with (first | (at_builtin; refine wpList_append_rows _ rfl (.tmp 5) (.tmp 6) 24 rfl w.heap.size 46 i0 z0 10 136 Try.underlying24 HI0.out HZ0.out HZ1.out HZ2.out HZ3.out (by decide) _ 0 [] rfl HO1.out (some ad) n c xs rfl HL.out HP.out L4.out l2 l3 hsz ?_))
    intro A5 c5 w9 ho9 hg9 _
    have HB9 := Lib.hid (HB0.out.grown hg9 hsz (fun k hk => (HO1.out.lt k hk).1))
    have HO9 : Hid (w9.ownsRow w.heap.size 46 10 (.slice A5 n c5) n xs) := show World.ownsRow _ _ _ _ _ _ _ by
      have := ho9.out
      simpa using this
    clear ho9 hg9 HO1 HB0 HP hsz L4 l2 l3
    go_wp2_with fail
    go_ret
    exact ⟨⟨A5, c5, rfl, HO9.out⟩, HB9.out⟩
end Go.Proofs.Ytmkgcifcfgfegaa
