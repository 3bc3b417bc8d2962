/-
  The law TreeRegular (chapter 17) at any two numbers; no condition but that the words and the powers of ten are laid.
-/
import Derived.Test.YtfpocpmcoobjkaaDoorReg17
namespace Go.Proofs.YtfpocpmcoobjkaaDoor
set_option maxRecDepth 100000
open Go.RowKit
open Go.Lib (decDigits)

theorem field_parts : ∃ i z, Tryd.prog.info? 48 = some i ∧ i.zero = some z ∧ i.size = 10 ∧ i.bytes = 136 ∧ z.cells.size = 10 := by
  have h := info_field
  cases hi : Tryd.prog.info? 48 with
  | none => rw [hi] at h; cases h
  | some i =>
    rw [hi] at h
    simp only [Option.map_some, Option.some.injEq, Prod.mk.injEq, Option.map_eq_some_iff] at h
    obtain ⟨h1, h2, z, h3, h4⟩ := h
    exact ⟨i, z, rfl, h3, h1, h2, h4⟩
theorem own_rows {w : World} {base n c sz : Nat} {e : TypeId} {A : Option Addr} {xs : List Value} (h : w.ownsRow base e sz (.slice A n c) n xs) (hn : 0 < n) :
    ∃ g, A = some ⟨g, 0, none⟩ ∧ base ≤ g ∧ g < w.heap.size ∧ n ≤ c ∧ c ≤ maxLen ∧ xs.length = n * sz ∧ ∀ i u, xs[i]? = some u → w.cell? ⟨g, i, none⟩ = some u := by
  rcases h.2 with ⟨_, e⟩ | ⟨g, cap, cur, e, hb, hg, hnc, hc, hs, ht⟩
  · omega
  · injection e with e1 e2 e3
    subst e3
    refine ⟨g, e1, hb, block_lt hg, hnc, hc, h.1, fun i u hi => ?_⟩
    rw [block_cell hg]
    rw [← ht, List.getElem?_take] at hi
    split at hi
    · simpa using hi
    · cases hi
theorem owns_up {w w' : World} {base : Nat} {e : TypeId} {sz : Nat} {v : Value} {n : Nat} {xs : List Value} (h : w.ownsRow base e sz v n xs) (hB : Below w.heap.size w w') : w'.ownsRow base e sz v n xs := by
  refine ⟨h.1, ?_⟩
  rcases h.2 with h2 | ⟨g, cap, cur, e1, hb, hg, r⟩
  · exact .inl h2
  · exact .inr ⟨g, cap, cur, e1, hb, (hB.block g (block_lt hg)).trans hg, r⟩
set_option maxHeartbeats 8000000 in
theorem reg17 (a k : Int) (w : World) (hW : Words w) (hP : Tens w) :
    Calls Tryd.prog 8 #[.int .i64 a, .int .i64 k] w fun e w' => e = .returned (.bool true) ∧ Below w.heap.size w w' := by
  have cA := Lib.hid (awake_any w hW)
  have HP := Lib.hid hP
  clear hW hP
  by_cases h2 : a < 2
  · have d1 : decide (a < 2) = true := decide_eq_true h2
    go_enter Tryd.func8, Tryd.ntmps8
    go_wp2_with fail
    refine (cA.out).mono ?_
    rintro e w1 ⟨rfl, B1⟩
    have HB1 := Lib.hid B1
    clear B1 cA
    go_wp2_with fail
    go_ret
    exact ⟨rfl, HB1.out⟩
  have d1 : decide (a < 2) = false := decide_eq_false h2
  by_cases h3 : 200 < a
  · have d2 : decide (200 < a) = true := decide_eq_true h3
    go_enter Tryd.func8, Tryd.ntmps8
    go_wp2_with fail
    refine (cA.out).mono ?_
    rintro e w1 ⟨rfl, B1⟩
    have HB1 := Lib.hid B1
    clear B1 cA
    go_wp2_with fail
    go_ret
    exact ⟨rfl, HB1.out⟩
  obtain ⟨n, rfl⟩ : ∃ n : Nat, a = (n : Int) := ⟨a.toNat, by omega⟩
  have d2 : decide (200 < (n : Int)) = false := decide_eq_false h3
  have H2 : Hid (2 ≤ n ∧ n ≤ 200) := ⟨by omega, by omega⟩
  clear h2 h3
  obtain ⟨i0, z0, hi0, hz0, hz1, hz2, hz3⟩ := field_parts
  have HZ0 := Lib.hid hz0; have HI0 := Lib.hid hi0; have HZ1 := Lib.hid hz1; have HZ2 := Lib.hid hz2; have HZ3 := Lib.hid hz3
  clear hi0 hz0 hz1 hz2 hz3
  go_enter Tryd.func8, Tryd.ntmps8
  go_wp2_with fail
  refine (cA.out).mono ?_
  rintro e w1 ⟨rfl, B1⟩
  have HB1 := Lib.hid B1
  clear B1 cA
  go_wp2_with fail
  clear d1 d2
  go_loopw [5, 6] (fun v i wr => Below w.heap.size w wr ∧ ∃ (j : Nat) (C : Option Addr) (c : Nat), j ≤ n ∧ i = .int .i64 (j : Int) ∧ v = .slice C j c ∧ wr.ownsRow w.heap.size 48 10 (.slice C j c) j (rowF (digs j))) (fun _ i _ => n - natV i)
  case atStart => exact ⟨HB1.out, 0, none, 0, Nat.zero_le _, rfl, rfl, World.ownsRow_nil _ _ _ _⟩
  case round =>
    obtain ⟨hB, j, C, c, hj, rfl, rfl, ho⟩ := hrel
    have HB := Lib.hid hB
    have HO := Lib.hid ho
    clear hB ho HB1
    by_cases hlt : j < n
    · have d1 : decide ((j : Int) < (n : Int)) = true := decide_eq_true (by omega)
      have d1n : decide (j < n) = true := decide_eq_true hlt
      have hn := H2.out
      have u3 : IntKind.u64.wrap (j : Int) = (j : Int) := by rw [IntKind.wrap_u64]; omega
      have cD := Lib.hid fun V => refDigits_any j (by unfold most64; omega) V
      obtain ⟨D, hD⟩ : ∃ D, D = decDigits j := ⟨_, rfl⟩
      have HJ1 : Hid (j + 1 ≤ n) := hlt
      have HD := Lib.hid hD
      rw [← hD] at cD
      have u2 : Hid (wrap64 ((j : Int) + 1) = ((j + 1 : Nat) : Int)) := show _ = _ from w64 (by omega) (by omega)
      clear hD hn hj
      go_wp2_with fail
      refine (cD.out _).mono ?_
      rintro e w3 ⟨rfl, B3⟩
      have HB3 := Lib.hid (low17 HB.out B3)
      have HO3 := Lib.hid (owns_up HO.out B3)
      clear B3 cD u3 HO HB
      have hgn := heap_alloc_new w3 (.cells #[.string ⟨D.toArray⟩, .int .i64 0, .int .u64 0, .int .u64 0, .int .u64 0, .string ⟨#[]⟩, .string ⟨#[]⟩, .int .i64 0, .slice none 0 0, .slice none 0 0] 48)
      have HOA := Lib.hid (HO3.out.alloc (.cells #[.string ⟨D.toArray⟩, .int .i64 0, .int .u64 0, .int .u64 0, .int .u64 0, .string ⟨#[]⟩, .string ⟨#[]⟩, .int .i64 0, .slice none 0 0, .slice none 0 0] 48))
      have BA : Below w.heap.size w (w3.alloc (.cells #[.string ⟨D.toArray⟩, .int .i64 0, .int .u64 0, .int .u64 0, .int .u64 0, .string ⟨#[]⟩, .string ⟨#[]⟩, .int .i64 0, .slice none 0 0, .slice none 0 0] 48)) := HB3.out.alloc HB3.out.size _
      have HSr : Hid (0 < 1 → ∃ ad, some (⟨w3.heap.size, 0, none⟩ : Addr) = some ad ∧ ∀ j u, (fCells D)[j]? = some u → (w3.alloc (.cells #[.string ⟨D.toArray⟩, .int .i64 0, .int .u64 0, .int .u64 0, .int .u64 0, .string ⟨#[]⟩, .string ⟨#[]⟩, .int .i64 0, .slice none 0 0, .slice none 0 0] 48)).cell? (ad.add j) = some u) := fun _ =>
        ⟨_, rfl, World.news_of_block (fr := (0, 0)) hgn⟩
      have l4 : ∀ u ∈ fCells D, u.oneCell' = true := fun u hu => rowF_one [D] u (by show u ∈ fCells D ++ []; rw [List.append_nil]; exact hu)
      have hn := H2.out
      have hj1 := HJ1.out
      have M2 : j + 1 ≤ maxLen := by simp only [maxLen]; omega
      have M3 : (j + 1) * 136 ≤ 140737488355328 := by omega
      have hsz : w.heap.size ≤ (w3.alloc (.cells #[.string ⟨D.toArray⟩, .int .i64 0, .int .u64 0, .int .u64 0, .int .u64 0, .string ⟨#[]⟩, .string ⟨#[]⟩, .int .i64 0, .slice none 0 0, .slice none 0 0] 48)).heap.size := BA.size
      clear hgn HO3 hn hj1
      go_wp2_with (first | (at_builtin; refine wpList_append_rows _ rfl (.tmp 23) (.tmp 28) 24 rfl w.heap.size 48 i0 z0 10 136 Tryd.underlying24 HI0.out HZ0.out HZ1.out HZ2.out HZ3.out (by decide) _ j (rowF (digs j)) rfl HOA.out (some ⟨w3.heap.size, 0, none⟩) 1 1 (fCells D) rfl rfl HSr.out l4 M2 M3 hsz ?_))
      intro A5 c5 w5 ho5 hg5 _
      have HB6 := Lib.hid (BA.grown hg5 BA.size (fun k hk => (HOA.out.lt k hk).1))
      have HO5 : Hid (w5.ownsRow w.heap.size 48 10 (.slice A5 (j + 1) c5) (j + 1) (rowF (digs (j + 1)))) := show World.ownsRow _ _ _ _ _ _ _ from by
        have := ho5.out
        rw [digs_succ, ← HD.out, rowF_append]
        show World.ownsRow _ _ _ _ _ _ (rowF (digs j) ++ (fCells D ++ []))
        rw [List.append_nil]
        exact this
      clear ho5 hg5 HOA BA HSr hsz l4 M2 M3 HB3
      go_wp2_with fail
      go_roundw
      case rel => exact ⟨HB6.out, j + 1, A5, c5, HJ1.out, by rw [u2.out], rfl, HO5.out⟩
      case measure => rw [u2.out]; have := HJ1.out; simp [natV]; omega
    · obtain rfl : j = n := by omega
      have d1 : decide ((j : Int) < (j : Int)) = false := decide_eq_false (by omega)
      have d1n : decide (j < j) = false := decide_eq_false (by omega)
      clear hlt hj
      have hn := H2.out
      have u5 : wrap64 ((j : Int) - 1) = ((j - 1 : Nat) : Int) := w64 (by omega) (by omega)
      have cP := Lib.hid fun V => place_any k (j - 1) V (by omega) (by omega)
      clear hn
      go_wp2_with fail
      refine (cP.out _).mono ?_
      rintro e w5 ⟨⟨at_, hat, rfl⟩, hw⟩; subst w5
      clear cP u5
      obtain ⟨g, rfl, hbg, hlg, hjc, hcm, hxl, hcell⟩ := own_rows HO.out (by have := H2.out; omega)
      have hn := H2.out
      have q1 : wrap64 ((at_ : Int) + 1) = ((at_ + 1 : Nat) : Int) := w64 (by omega) (by omega)
      have s1 : decide ((0 : Int) ≤ (at_ : Int)) = true := decide_eq_true (by omega)
      have HCELL := Lib.hid hcell
      have Hjc := Lib.hid hjc
      have Hcm := Lib.hid hcm
      have Hat := Lib.hid hat
      have Hbg := Lib.hid hbg
      have Hlg := Lib.hid hlg
      have t1 : (at_ : Int) ≤ (c : Int) := by omega
      have t2 : ((at_ + 1 : Nat) : Int) ≤ (j : Int) := by omega
      have t3 : (j : Int) ≤ (c : Int) := by omega
      have t4 : ¬ c = at_ + 1 := by omega
      have q2 : IntKind.i64.wrap ((at_ : Int) + 1) = ((at_ + 1 : Nat) : Int) := by rw [IntKind.wrap_i64]; omega
      have t9 : (at_ : Int) + 1 ≤ (j : Int) := by omega
      have t10 : (0 : Int) ≤ (at_ : Int) + 1 := by omega
      have t11 : (0 : Int) ≤ ((at_ + 1 : Nat) : Int) := by omega
      have t5 : ¬ c = at_ := by omega
      have t6 : at_ ≤ c := by omega
      have t7 : at_ + 1 ≤ j := by omega
      have t8 : j ≤ c := by omega
      have n1 : at_ ≤ maxLen := by simp only [maxLen]; omega
      have HO1 : Hid ((wr.alloc (.cells #[] 48)).ownsRow wr.heap.size 48 10 (.slice (some ⟨wr.heap.size, 0, none⟩) 0 0) 0 []) := World.ownsRow_lit wr #[] 0 (Nat.le_refl _) (Nat.zero_le _) rfl
      have HS1 : Hid ((rowF (digs at_)).length = at_ * 10) := show _ = _ by rw [rowF_len, digs_len]
      have HN1 : Hid (0 < at_ → ∃ ad, some (⟨g, 0, none⟩ : Addr) = some ad ∧ ∀ i u, (rowF (digs at_))[i]? = some u → (wr.alloc (.cells #[] 48)).cell? (ad.add i) = some u) := fun _ => ⟨_, rfl, fun i u hi => by
        rw [Addr.add_lit, Nat.zero_add]
        have hk : (rowF (digs j))[i]? = some u := by
          have e : digs j = digs at_ ++ (digs j).drop at_ := by
            have := List.take_append_drop at_ (digs j)
            rw [digs_take (by omega)] at this
            exact this.symm
          rw [e, rowF_append, List.getElem?_append_left (List.getElem?_eq_some_iff.1 hi).1]
          exact hi
        exact (Below.cell ((Below.refl wr.heap.size wr).alloc (Nat.le_refl _) (.cells #[] 48)) (p := ⟨g, i, none⟩) hlg).trans (hcell i u hk)⟩
      have HM1 : Hid (0 + at_ ≤ maxLen) := show _ ≤ _ by omega
      have HM2 : Hid ((0 + at_) * 136 ≤ 140737488355328) := show _ ≤ _ by omega
      have HM3 : Hid (wr.heap.size ≤ (wr.alloc (.cells #[] 48)).heap.size) := show _ ≤ _ by simp
      have HS2 : Hid ((rowF ((digs j).drop (at_ + 1))).length = (j - (at_ + 1)) * 10) := show _ = _ by rw [rowF_len, List.length_drop, digs_len]
      have HN2 : Hid (∀ V, Below wr.heap.size wr V → 0 < j - (at_ + 1) → ∃ ad, some (⟨g, (at_ + 1) * 10, none⟩ : Addr) = some ad ∧ ∀ i u, (rowF ((digs j).drop (at_ + 1)))[i]? = some u → V.cell? (ad.add i) = some u) := fun V hV _ => ⟨_, rfl, fun i u hi => by
        rw [Addr.add_lit]
        have hk : (rowF (digs j))[(at_ + 1) * 10 + i]? = some u := by
          have e : digs j = digs (at_ + 1) ++ (digs j).drop (at_ + 1) := by
            have := List.take_append_drop (at_ + 1) (digs j)
            rw [digs_take (by omega)] at this
            exact this.symm
          rw [e, rowF_append, List.getElem?_append_right (by rw [rowF_len, digs_len]; omega), rowF_len, digs_len, Nat.add_sub_cancel_left]
          exact hi
        exact (Below.cell hV (p := ⟨g, (at_ + 1) * 10 + i, none⟩) hlg).trans (hcell _ u hk)⟩
      have HM4 : Hid (0 + at_ + (j - (at_ + 1)) ≤ maxLen) := show _ ≤ _ by omega
      have HM5 : Hid ((0 + at_ + (j - (at_ + 1))) * 136 ≤ 140737488355328) := show _ ≤ _ by omega
      clear hcell hjc hcm hat hbg hlg hn
      go_upto_region 11 with fail
      go_region_held3 (fun V : World => True) (exact trivial)
        (first | (refine step_append_rows rfl (.tmp 34) (.tmp 37) 24 rfl wr.heap.size 48 i0 z0 10 136 Tryd.underlying24 HI0.out HZ0.out HZ1.out HZ2.out HZ3.out (by decide) _ 0 [] rfl HO1.out (some ⟨g, 0, none⟩) at_ c (rowF (digs at_)) rfl HS1.out HN1.out (rowF_one _) HM1.out HM2.out HM3.out ?_; intro A6 c6 w6 ho6 hg6 hs6; have B6 := (((Below.refl wr.heap.size wr).alloc (Nat.le_refl _) (.cells #[] 48)).drew).grown hg6 HM3.out (fun k hk => (HO1.out.lt k hk).1)) | (refine step_append_rows rfl (.tmp 38) (.tmp 42) 24 rfl wr.heap.size 48 i0 z0 10 136 Tryd.underlying24 HI0.out HZ0.out HZ1.out HZ2.out HZ3.out (by decide) _ (0 + at_) ([] ++ rowF (digs at_)) rfl ho6.out (some ⟨g, (at_ + 1) * 10, none⟩) (j - (at_ + 1)) (c - (at_ + 1)) (rowF ((digs j).drop (at_ + 1))) rfl HS2.out (HN2.out w6 B6) (rowF_one _) HM4.out HM5.out B6.size ?_; intro A7 c7 w7 ho7 hg7 hs7; have B7 := B6.grown hg7 B6.size (fun k hk => (ho6.out.lt k hk).1)))
      have HL7 : Hid (w7.ownsRow wr.heap.size 48 10 (.slice A7 (0 + at_ + (j - (at_ + 1))) c7) (0 + at_ + (j - (at_ + 1))) (rowF (lessN j at_))) := show World.ownsRow _ _ _ _ _ _ _ from by
        have := ho7.out
        unfold lessN
        rw [digs_take (by have := Hat.out; omega), rowF_append]
        simpa using this
      have HB7 := Lib.hid B7
      have HM3b : Hid (w7.heap.size ≤ (w7.alloc (.cells #[] 48)).heap.size) := show _ ≤ _ by simp
      have HO8 : Hid ((w7.alloc (.cells #[] 48)).ownsRow w7.heap.size 48 10 (.slice (some ⟨w7.heap.size, 0, none⟩) 0 0) 0 []) := World.ownsRow_lit w7 #[] 0 (Nat.le_refl _) (Nat.zero_le _) rfl
      have HN8 : Hid (0 < j → ∃ ad, some (⟨g, 0, none⟩ : Addr) = some ad ∧ ∀ i u, (rowF (digs j))[i]? = some u → (w7.alloc (.cells #[] 48)).cell? (ad.add i) = some u) := fun _ => ⟨_, rfl, fun i u hi => by
        rw [Addr.add_lit, Nat.zero_add]
        exact (Below.cell (HB7.out.alloc HB7.out.size (.cells #[] 48)) (p := ⟨g, i, none⟩) Hlg.out).trans (HCELL.out i u hi)⟩
      have l8 : (rowF (digs j)).length = j * 10 := hxl
      have M8 : 0 + j ≤ maxLen := by have := H2.out; simp only [maxLen]; omega
      have M9 : (0 + j) * 136 ≤ 140737488355328 := by have := H2.out; omega
      clear B6 B7 ho6 ho7 hg6 hg7 hs6 hs7 HS1 HN1 HS2 HN2 HM1 HM2 HM3 HM4 HM5 HO1 q1 q2 s1 t2 t9 t10 t11 t4 t5
      go_wp2_with (first | (at_builtin; refine wpList_append_rows _ rfl (.tmp 44) (.tmp 45) 24 rfl w7.heap.size 48 i0 z0 10 136 Tryd.underlying24 HI0.out HZ0.out HZ1.out HZ2.out HZ3.out (by decide) _ 0 [] rfl HO8.out (some ⟨g, 0, none⟩) j c (rowF (digs j)) rfl l8 HN8.out (rowF_one _) M8 M9 HM3b.out ?_))
      intro A9 c9 w9 ho9 hg9 _
      have HB9 := Lib.hid (HB7.out.trans ((((Below.refl w7.heap.size w7).alloc (Nat.le_refl _) (.cells #[] 48)).grown hg9 HM3b.out (fun k hk => (HO8.out.lt k hk).1)).mono HB7.out.size))
      have HC9 := Lib.hid (((Below.refl w7.heap.size w7).alloc (Nat.le_refl _) (.cells #[] 48)).grown hg9 HM3b.out (fun k hk => (HO8.out.lt k hk).1))
      obtain ⟨g9, rfl, hb9, hl9, hjc9, _, _, hc9⟩ := own_rows ho9.out (by have := H2.out; omega)
      have HO9 := Lib.hid ho9.out
      have HL7b : Hid (w7.ownsRow wr.heap.size 48 10 (.slice A7 (at_ + (j - (at_ + 1))) c7) (at_ + (j - (at_ + 1))) (rowF (lessN j at_))) := show World.ownsRow _ _ _ _ _ _ _ from by have := HL7.out; rwa [Nat.zero_add] at this
      have HL9 : Hid (w9.ownsRow wr.heap.size 48 10 (.slice A7 (at_ + (j - (at_ + 1))) c7) (at_ + (j - (at_ + 1))) (rowF (lessN j at_))) := show World.ownsRow _ _ _ _ _ _ _ from by have := owns_up HL7.out HC9.out; rwa [Nat.zero_add] at this
      have HCELL9 := Lib.hid hc9
      have Hb9 := Lib.hid hb9
      have Hl9 := Lib.hid hl9
      clear ho9 hg9 HO8 HN8 l8 M8 M9 HM3b hc9 hb9 hl9
      obtain ⟨D0, hD0⟩ : ∃ D, D = decDigits at_ := ⟨_, rfl⟩
      obtain ⟨D1, hD1⟩ : ∃ D, D = decDigits (at_ + 1) := ⟨_, rfl⟩
      obtain ⟨p, hp⟩ : ∃ p, at_ * 10 = p := ⟨_, rfl⟩
      have hp2 : (at_ + 1) * 10 = p + 10 := by omega
      have y0 : w9.cell? ⟨g, p, none⟩ = some (.string ⟨D0.toArray⟩) := (HB9.out.cell Hlg.out).trans (HCELL.out _ _ (by rw [show p = at_ * 10 + 0 by omega, rowF_get _ _ _ (by decide), digs_get (by have := Hat.out; omega)]; first | rfl | (rw [hD0]; rfl) | (rw [hD1]; rfl)))
      have y1 : w9.cell? ⟨g, p + 1, none⟩ = some (.int .i64 0) := (HB9.out.cell Hlg.out).trans (HCELL.out _ _ (by rw [show p + 1 = at_ * 10 + 1 by omega, rowF_get _ _ _ (by decide), digs_get (by have := Hat.out; omega)]; first | rfl | (rw [hD0]; rfl) | (rw [hD1]; rfl)))
      have y2 : w9.cell? ⟨g, p + 2, none⟩ = some (.int .u64 0) := (HB9.out.cell Hlg.out).trans (HCELL.out _ _ (by rw [show p + 2 = at_ * 10 + 2 by omega, rowF_get _ _ _ (by decide), digs_get (by have := Hat.out; omega)]; first | rfl | (rw [hD0]; rfl) | (rw [hD1]; rfl)))
      have y3 : w9.cell? ⟨g, p + 3, none⟩ = some (.int .u64 0) := (HB9.out.cell Hlg.out).trans (HCELL.out _ _ (by rw [show p + 3 = at_ * 10 + 3 by omega, rowF_get _ _ _ (by decide), digs_get (by have := Hat.out; omega)]; first | rfl | (rw [hD0]; rfl) | (rw [hD1]; rfl)))
      have y4 : w9.cell? ⟨g, p + 4, none⟩ = some (.int .u64 0) := (HB9.out.cell Hlg.out).trans (HCELL.out _ _ (by rw [show p + 4 = at_ * 10 + 4 by omega, rowF_get _ _ _ (by decide), digs_get (by have := Hat.out; omega)]; first | rfl | (rw [hD0]; rfl) | (rw [hD1]; rfl)))
      have y5 : w9.cell? ⟨g, p + 5, none⟩ = some (.string ⟨#[]⟩) := (HB9.out.cell Hlg.out).trans (HCELL.out _ _ (by rw [show p + 5 = at_ * 10 + 5 by omega, rowF_get _ _ _ (by decide), digs_get (by have := Hat.out; omega)]; first | rfl | (rw [hD0]; rfl) | (rw [hD1]; rfl)))
      have y6 : w9.cell? ⟨g, p + 6, none⟩ = some (.string ⟨#[]⟩) := (HB9.out.cell Hlg.out).trans (HCELL.out _ _ (by rw [show p + 6 = at_ * 10 + 6 by omega, rowF_get _ _ _ (by decide), digs_get (by have := Hat.out; omega)]; first | rfl | (rw [hD0]; rfl) | (rw [hD1]; rfl)))
      have y7 : w9.cell? ⟨g, p + 7, none⟩ = some (.int .i64 0) := (HB9.out.cell Hlg.out).trans (HCELL.out _ _ (by rw [show p + 7 = at_ * 10 + 7 by omega, rowF_get _ _ _ (by decide), digs_get (by have := Hat.out; omega)]; first | rfl | (rw [hD0]; rfl) | (rw [hD1]; rfl)))
      have y8 : w9.cell? ⟨g, p + 8, none⟩ = some (.slice none 0 0) := (HB9.out.cell Hlg.out).trans (HCELL.out _ _ (by rw [show p + 8 = at_ * 10 + 8 by omega, rowF_get _ _ _ (by decide), digs_get (by have := Hat.out; omega)]; first | rfl | (rw [hD0]; rfl) | (rw [hD1]; rfl)))
      have y9 : w9.cell? ⟨g, p + 9, none⟩ = some (.slice none 0 0) := (HB9.out.cell Hlg.out).trans (HCELL.out _ _ (by rw [show p + 9 = at_ * 10 + 9 by omega, rowF_get _ _ _ (by decide), digs_get (by have := Hat.out; omega)]; first | rfl | (rw [hD0]; rfl) | (rw [hD1]; rfl)))
      have y10 : w9.cell? ⟨g, p + 10, none⟩ = some (.string ⟨D1.toArray⟩) := (HB9.out.cell Hlg.out).trans (HCELL.out _ _ (by rw [show p + 10 = (at_ + 1) * 10 + 0 by omega, rowF_get _ _ _ (by decide), digs_get (by have := Hat.out; omega)]; first | rfl | (rw [hD0]; rfl) | (rw [hD1]; rfl)))
      have y11 : w9.cell? ⟨g, p + 11, none⟩ = some (.int .i64 0) := (HB9.out.cell Hlg.out).trans (HCELL.out _ _ (by rw [show p + 11 = (at_ + 1) * 10 + 1 by omega, rowF_get _ _ _ (by decide), digs_get (by have := Hat.out; omega)]; first | rfl | (rw [hD0]; rfl) | (rw [hD1]; rfl)))
      have y12 : w9.cell? ⟨g, p + 12, none⟩ = some (.int .u64 0) := (HB9.out.cell Hlg.out).trans (HCELL.out _ _ (by rw [show p + 12 = (at_ + 1) * 10 + 2 by omega, rowF_get _ _ _ (by decide), digs_get (by have := Hat.out; omega)]; first | rfl | (rw [hD0]; rfl) | (rw [hD1]; rfl)))
      have y13 : w9.cell? ⟨g, p + 13, none⟩ = some (.int .u64 0) := (HB9.out.cell Hlg.out).trans (HCELL.out _ _ (by rw [show p + 13 = (at_ + 1) * 10 + 3 by omega, rowF_get _ _ _ (by decide), digs_get (by have := Hat.out; omega)]; first | rfl | (rw [hD0]; rfl) | (rw [hD1]; rfl)))
      have y14 : w9.cell? ⟨g, p + 14, none⟩ = some (.int .u64 0) := (HB9.out.cell Hlg.out).trans (HCELL.out _ _ (by rw [show p + 14 = (at_ + 1) * 10 + 4 by omega, rowF_get _ _ _ (by decide), digs_get (by have := Hat.out; omega)]; first | rfl | (rw [hD0]; rfl) | (rw [hD1]; rfl)))
      have y15 : w9.cell? ⟨g, p + 15, none⟩ = some (.string ⟨#[]⟩) := (HB9.out.cell Hlg.out).trans (HCELL.out _ _ (by rw [show p + 15 = (at_ + 1) * 10 + 5 by omega, rowF_get _ _ _ (by decide), digs_get (by have := Hat.out; omega)]; first | rfl | (rw [hD0]; rfl) | (rw [hD1]; rfl)))
      have y16 : w9.cell? ⟨g, p + 16, none⟩ = some (.string ⟨#[]⟩) := (HB9.out.cell Hlg.out).trans (HCELL.out _ _ (by rw [show p + 16 = (at_ + 1) * 10 + 6 by omega, rowF_get _ _ _ (by decide), digs_get (by have := Hat.out; omega)]; first | rfl | (rw [hD0]; rfl) | (rw [hD1]; rfl)))
      have y17 : w9.cell? ⟨g, p + 17, none⟩ = some (.int .i64 0) := (HB9.out.cell Hlg.out).trans (HCELL.out _ _ (by rw [show p + 17 = (at_ + 1) * 10 + 7 by omega, rowF_get _ _ _ (by decide), digs_get (by have := Hat.out; omega)]; first | rfl | (rw [hD0]; rfl) | (rw [hD1]; rfl)))
      have y18 : w9.cell? ⟨g, p + 18, none⟩ = some (.slice none 0 0) := (HB9.out.cell Hlg.out).trans (HCELL.out _ _ (by rw [show p + 18 = (at_ + 1) * 10 + 8 by omega, rowF_get _ _ _ (by decide), digs_get (by have := Hat.out; omega)]; first | rfl | (rw [hD0]; rfl) | (rw [hD1]; rfl)))
      have y19 : w9.cell? ⟨g, p + 19, none⟩ = some (.slice none 0 0) := (HB9.out.cell Hlg.out).trans (HCELL.out _ _ (by rw [show p + 19 = (at_ + 1) * 10 + 9 by omega, rowF_get _ _ _ (by decide), digs_get (by have := Hat.out; omega)]; first | rfl | (rw [hD0]; rfl) | (rw [hD1]; rfl)))
      have x0 : w9.cell? ⟨g9, p, none⟩ = some (.string ⟨D0.toArray⟩) := HCELL9.out _ _ (by rw [show p = at_ * 10 + 0 by omega, rowF_get _ _ _ (by decide), digs_get (by have := Hat.out; omega)]; first | rfl | (rw [hD0]; rfl) | (rw [hD1]; rfl))
      have x1 : w9.cell? ⟨g9, p + 1, none⟩ = some (.int .i64 0) := HCELL9.out _ _ (by rw [show p + 1 = at_ * 10 + 1 by omega, rowF_get _ _ _ (by decide), digs_get (by have := Hat.out; omega)]; first | rfl | (rw [hD0]; rfl) | (rw [hD1]; rfl))
      have x2 : w9.cell? ⟨g9, p + 2, none⟩ = some (.int .u64 0) := HCELL9.out _ _ (by rw [show p + 2 = at_ * 10 + 2 by omega, rowF_get _ _ _ (by decide), digs_get (by have := Hat.out; omega)]; first | rfl | (rw [hD0]; rfl) | (rw [hD1]; rfl))
      have x3 : w9.cell? ⟨g9, p + 3, none⟩ = some (.int .u64 0) := HCELL9.out _ _ (by rw [show p + 3 = at_ * 10 + 3 by omega, rowF_get _ _ _ (by decide), digs_get (by have := Hat.out; omega)]; first | rfl | (rw [hD0]; rfl) | (rw [hD1]; rfl))
      have x4 : w9.cell? ⟨g9, p + 4, none⟩ = some (.int .u64 0) := HCELL9.out _ _ (by rw [show p + 4 = at_ * 10 + 4 by omega, rowF_get _ _ _ (by decide), digs_get (by have := Hat.out; omega)]; first | rfl | (rw [hD0]; rfl) | (rw [hD1]; rfl))
      have x5 : w9.cell? ⟨g9, p + 5, none⟩ = some (.string ⟨#[]⟩) := HCELL9.out _ _ (by rw [show p + 5 = at_ * 10 + 5 by omega, rowF_get _ _ _ (by decide), digs_get (by have := Hat.out; omega)]; first | rfl | (rw [hD0]; rfl) | (rw [hD1]; rfl))
      have x6 : w9.cell? ⟨g9, p + 6, none⟩ = some (.string ⟨#[]⟩) := HCELL9.out _ _ (by rw [show p + 6 = at_ * 10 + 6 by omega, rowF_get _ _ _ (by decide), digs_get (by have := Hat.out; omega)]; first | rfl | (rw [hD0]; rfl) | (rw [hD1]; rfl))
      have x7 : w9.cell? ⟨g9, p + 7, none⟩ = some (.int .i64 0) := HCELL9.out _ _ (by rw [show p + 7 = at_ * 10 + 7 by omega, rowF_get _ _ _ (by decide), digs_get (by have := Hat.out; omega)]; first | rfl | (rw [hD0]; rfl) | (rw [hD1]; rfl))
      have x8 : w9.cell? ⟨g9, p + 8, none⟩ = some (.slice none 0 0) := HCELL9.out _ _ (by rw [show p + 8 = at_ * 10 + 8 by omega, rowF_get _ _ _ (by decide), digs_get (by have := Hat.out; omega)]; first | rfl | (rw [hD0]; rfl) | (rw [hD1]; rfl))
      have x9 : w9.cell? ⟨g9, p + 9, none⟩ = some (.slice none 0 0) := HCELL9.out _ _ (by rw [show p + 9 = at_ * 10 + 9 by omega, rowF_get _ _ _ (by decide), digs_get (by have := Hat.out; omega)]; first | rfl | (rw [hD0]; rfl) | (rw [hD1]; rfl))
      have x10 : w9.cell? ⟨g9, p + 10, none⟩ = some (.string ⟨D1.toArray⟩) := HCELL9.out _ _ (by rw [show p + 10 = (at_ + 1) * 10 + 0 by omega, rowF_get _ _ _ (by decide), digs_get (by have := Hat.out; omega)]; first | rfl | (rw [hD0]; rfl) | (rw [hD1]; rfl))
      have x11 : w9.cell? ⟨g9, p + 11, none⟩ = some (.int .i64 0) := HCELL9.out _ _ (by rw [show p + 11 = (at_ + 1) * 10 + 1 by omega, rowF_get _ _ _ (by decide), digs_get (by have := Hat.out; omega)]; first | rfl | (rw [hD0]; rfl) | (rw [hD1]; rfl))
      have x12 : w9.cell? ⟨g9, p + 12, none⟩ = some (.int .u64 0) := HCELL9.out _ _ (by rw [show p + 12 = (at_ + 1) * 10 + 2 by omega, rowF_get _ _ _ (by decide), digs_get (by have := Hat.out; omega)]; first | rfl | (rw [hD0]; rfl) | (rw [hD1]; rfl))
      have x13 : w9.cell? ⟨g9, p + 13, none⟩ = some (.int .u64 0) := HCELL9.out _ _ (by rw [show p + 13 = (at_ + 1) * 10 + 3 by omega, rowF_get _ _ _ (by decide), digs_get (by have := Hat.out; omega)]; first | rfl | (rw [hD0]; rfl) | (rw [hD1]; rfl))
      have x14 : w9.cell? ⟨g9, p + 14, none⟩ = some (.int .u64 0) := HCELL9.out _ _ (by rw [show p + 14 = (at_ + 1) * 10 + 4 by omega, rowF_get _ _ _ (by decide), digs_get (by have := Hat.out; omega)]; first | rfl | (rw [hD0]; rfl) | (rw [hD1]; rfl))
      have x15 : w9.cell? ⟨g9, p + 15, none⟩ = some (.string ⟨#[]⟩) := HCELL9.out _ _ (by rw [show p + 15 = (at_ + 1) * 10 + 5 by omega, rowF_get _ _ _ (by decide), digs_get (by have := Hat.out; omega)]; first | rfl | (rw [hD0]; rfl) | (rw [hD1]; rfl))
      have x16 : w9.cell? ⟨g9, p + 16, none⟩ = some (.string ⟨#[]⟩) := HCELL9.out _ _ (by rw [show p + 16 = (at_ + 1) * 10 + 6 by omega, rowF_get _ _ _ (by decide), digs_get (by have := Hat.out; omega)]; first | rfl | (rw [hD0]; rfl) | (rw [hD1]; rfl))
      have x17 : w9.cell? ⟨g9, p + 17, none⟩ = some (.int .i64 0) := HCELL9.out _ _ (by rw [show p + 17 = (at_ + 1) * 10 + 7 by omega, rowF_get _ _ _ (by decide), digs_get (by have := Hat.out; omega)]; first | rfl | (rw [hD0]; rfl) | (rw [hD1]; rfl))
      have x18 : w9.cell? ⟨g9, p + 18, none⟩ = some (.slice none 0 0) := HCELL9.out _ _ (by rw [show p + 18 = (at_ + 1) * 10 + 8 by omega, rowF_get _ _ _ (by decide), digs_get (by have := Hat.out; omega)]; first | rfl | (rw [hD0]; rfl) | (rw [hD1]; rfl))
      have x19 : w9.cell? ⟨g9, p + 19, none⟩ = some (.slice none 0 0) := HCELL9.out _ _ (by rw [show p + 19 = (at_ + 1) * 10 + 9 by omega, rowF_get _ _ _ (by decide), digs_get (by have := Hat.out; omega)]; first | rfl | (rw [hD0]; rfl) | (rw [hD1]; rfl))
      have f0 : w9.frozen? ⟨g9, p, none⟩ = false := World.ownsRow.frozenAt HO9.out _
      have f1 : w9.frozen? ⟨g9, p + 1, none⟩ = false := World.ownsRow.frozenAt HO9.out _
      have f2 : w9.frozen? ⟨g9, p + 2, none⟩ = false := World.ownsRow.frozenAt HO9.out _
      have f3 : w9.frozen? ⟨g9, p + 3, none⟩ = false := World.ownsRow.frozenAt HO9.out _
      have f4 : w9.frozen? ⟨g9, p + 4, none⟩ = false := World.ownsRow.frozenAt HO9.out _
      have f5 : w9.frozen? ⟨g9, p + 5, none⟩ = false := World.ownsRow.frozenAt HO9.out _
      have f6 : w9.frozen? ⟨g9, p + 6, none⟩ = false := World.ownsRow.frozenAt HO9.out _
      have f7 : w9.frozen? ⟨g9, p + 7, none⟩ = false := World.ownsRow.frozenAt HO9.out _
      have f8 : w9.frozen? ⟨g9, p + 8, none⟩ = false := World.ownsRow.frozenAt HO9.out _
      have f9 : w9.frozen? ⟨g9, p + 9, none⟩ = false := World.ownsRow.frozenAt HO9.out _
      have f10 : w9.frozen? ⟨g9, p + 10, none⟩ = false := World.ownsRow.frozenAt HO9.out _
      have f11 : w9.frozen? ⟨g9, p + 11, none⟩ = false := World.ownsRow.frozenAt HO9.out _
      have f12 : w9.frozen? ⟨g9, p + 12, none⟩ = false := World.ownsRow.frozenAt HO9.out _
      have f13 : w9.frozen? ⟨g9, p + 13, none⟩ = false := World.ownsRow.frozenAt HO9.out _
      have f14 : w9.frozen? ⟨g9, p + 14, none⟩ = false := World.ownsRow.frozenAt HO9.out _
      have f15 : w9.frozen? ⟨g9, p + 15, none⟩ = false := World.ownsRow.frozenAt HO9.out _
      have f16 : w9.frozen? ⟨g9, p + 16, none⟩ = false := World.ownsRow.frozenAt HO9.out _
      have f17 : w9.frozen? ⟨g9, p + 17, none⟩ = false := World.ownsRow.frozenAt HO9.out _
      have f18 : w9.frozen? ⟨g9, p + 18, none⟩ = false := World.ownsRow.frozenAt HO9.out _
      have f19 : w9.frozen? ⟨g9, p + 19, none⟩ = false := World.ownsRow.frozenAt HO9.out _
      have hat := Hat.out
      have hn := H2.out
      have q1 : wrap64 ((at_ : Int) + 1) = ((at_ + 1 : Nat) : Int) := w64 (by omega) (by omega)
      have q2 : IntKind.i64.wrap ((at_ : Int) + 1) = ((at_ + 1 : Nat) : Int) := by rw [IntKind.wrap_i64]; omega
      have s1 : (0 : Int) ≤ (at_ : Int) := by omega
      have s2 : (at_ : Int) < (j : Int) := by omega
      have s3 : ((at_ + 1 : Nat) : Int) < (j : Int) := by omega
      have s4 : (at_ : Int) + 1 < (j : Int) := by omega
      have s5 : (0 : Int) ≤ (at_ : Int) + 1 := by omega
      have s6 : (0 : Int) ≤ ((at_ + 1 : Nat) : Int) := by omega
      have HP2 : Hid (at_ * 10 = p ∧ (at_ + 1) * 10 = p + 10) := ⟨hp, hp2⟩
      have HGG : Hid (g < wr.heap.size ∧ w7.heap.size ≤ g9 ∧ wr.heap.size ≤ w7.heap.size) := ⟨Hlg.out, Hb9.out, HB7.out.size⟩
      have ng : ¬ g = g9 := by have := HGG.out; omega
      have ng2 : ¬ g9 = g := by have := HGG.out; omega
      have HD0 := Lib.hid hD0
      have HD1 := Lib.hid hD1
      clear hat hn t1 t3 t6 t7 t8 n1 hD0 hD1
      go_upto_region 13 with fail
      obtain ⟨W, hW, hb10, ht10, hs10⟩ := turned_world (by have := Hat.out; omega) Hb9.out Hl9.out HCELL9.out HC9.out HD0.out HD1.out hp
      have HWW := Lib.hid hW
      have HB10 := Lib.hid hb10
      have HT10 := Lib.hid ht10
      have HS10 := Lib.hid hs10
      clear hW hb10 ht10 hs10
      go_region_law (fail)
      all_goals
        clear y0 y1 y2 y3 y4 y5 y6 y7 y8 y9 y10 y11 y12 y13 y14 y15 y16 y17 y18 y19 x0 x1 x2 x3 x4 x5 x6 x7 x8 x9 x10 x11 x12 x13 x14 x15 x16 x17 x18 x19 f0 f1 f2 f3 f4 f5 f6 f7 f8 f9 f10 f11 f12 f13 f14 f15 f16 f17 f18 f19 ng ng2 hp hp2 q1 q2 s1 s2 s3 s4 s5 s6
        rw [← cells_chain]
        rw [← HWW.out]
        have HBW := Lib.hid (HB7.out.trans (HB10.out.mono HB7.out.size))
        have hat := Hat.out
        have hn := H2.out
        have cR : Hid (∀ V, Below W.heap.size W V → ∀ k, k ≤ j → Calls Tryd.prog 20 #[.slice (some ⟨g, 0, none⟩) k c] V fun e w' => e = .returned (.bool true) ∧ Below V.heap.size V w') := fun V hV k hk => by
          have := reg_call (A := some ⟨g, 0, none⟩) (n := k) (c := c) (ns := digs k) (V := V) ((HP.out.up HB.out).up (low17 HBW.out hV)) (digs_len k) (by omega) (digs_short (by omega)) (fun _ => ⟨g, 0, rfl, Nat.lt_of_lt_of_le Hlg.out (low17 HBW.out hV).size, fun i u hi => by
            rw [Nat.zero_add]
            have hk2 : (rowF (digs j))[i]? = some u := by
              have e : digs j = digs k ++ (digs j).drop k := by
                have := List.take_append_drop k (digs j)
                rw [digs_take hk] at this
                exact this.symm
              rw [e, rowF_append, List.getElem?_append_left (List.getElem?_eq_some_iff.1 hi).1]
              exact hi
            exact ((low17 HBW.out hV).cell (p := ⟨g, i, none⟩) Hlg.out).trans (HCELL.out i u hk2)⟩)
          rwa [reg_digs] at this
        have cL : Hid (∀ V, Below W.heap.size W V → Calls Tryd.prog 20 #[.slice A7 (at_ + (j - (at_ + 1))) c7] V fun e w' => e = .returned (.bool false) ∧ Below V.heap.size V w') := fun V hV => by
          have := reg_call (A := A7) (n := at_ + (j - (at_ + 1))) (c := c7) (ns := lessN j at_) (V := V) ((HP.out.up HB.out).up (low17 HBW.out hV)) (less_len (by omega)) (by omega) (less_short hn.2) (fun h0 => by
            obtain ⟨g7, e7, _, hl7, _, _, _, hc7⟩ := own_rows (owns_up HL7b.out (low17 HB10.out hV)) h0
            exact ⟨g7, 0, e7, hl7, fun i u hi => by rw [Nat.zero_add]; exact hc7 i u hi⟩)
          rwa [reg_less (by omega)] at this
        have cT : Hid (∀ V, Below W.heap.size W V → Calls Tryd.prog 20 #[.slice (some ⟨g9, 0, none⟩) j c9] V fun e w' => e = .returned (.bool false) ∧ Below V.heap.size V w') := fun V hV => by
          have := reg_call (A := some ⟨g9, 0, none⟩) (n := j) (c := c9) (ns := turnN j at_) (V := V) ((HP.out.up HB.out).up (low17 HBW.out hV)) (turnN_len _ _) (by omega) (turn_short hn.2 (by omega)) (fun _ => ⟨g9, 0, rfl, Nat.lt_of_lt_of_le HS10.out hV.size, fun i u hi => by
            rw [Nat.zero_add]
            exact (hV.cell (p := ⟨g9, i, none⟩) HS10.out).trans (HT10.out i u hi)⟩)
          rwa [reg_turn (by omega)] at this
        have cN : Hid (∀ V, Below W.heap.size W V → Calls Tryd.prog 20 #[.slice none 0 0] V fun e w' => e = .returned (.bool true) ∧ Below V.heap.size V w') := fun V hV =>
          reg_call (A := none) (n := 0) (c := 0) (ns := []) (V := V) ((HP.out.up HB.out).up (low17 HBW.out hV)) rfl (by omega) (fun x hx => by cases hx) (fun h => absurd h (Nat.lt_irrefl _))
        have HAJ : Hid (at_ ≤ j ∧ j ≤ c) := ⟨by omega, Hjc.out⟩
        have s1 : (0 : Int) ≤ (at_ : Int) := by omega
        have s2 : (at_ : Int) ≤ (c : Int) := by have := HAJ.out; omega
        have s3 : at_ ≤ c := by have := HAJ.out; omega
        clear hat hn
        go_wp2_with fail
        refine (cR.out _ (Below.refl _ _) j (Nat.le_refl _)).mono ?_
        rintro e v1 ⟨rfl, b1⟩
        have HV1 := Lib.hid b1
        clear b1
        go_wp2_with fail
        refine (cL.out _ HV1.out).mono ?_
        rintro e v2 ⟨rfl, b2⟩
        have HV2 := Lib.hid (low17 HV1.out b2)
        clear b2
        go_wp2_with fail
        refine (cT.out _ HV2.out).mono ?_
        rintro e v3 ⟨rfl, b3⟩
        have HV3 := Lib.hid (low17 HV2.out b3)
        clear b3
        go_wp2_with fail
        refine (cN.out _ HV3.out).mono ?_
        rintro e v4 ⟨rfl, b4⟩
        have HV4 := Lib.hid (low17 HV3.out b4)
        clear b4
        go_wp2_with fail
        refine (cR.out _ HV4.out at_ HAJ.out.1).mono ?_
        rintro e v5 ⟨rfl, b5⟩
        have HV5 := Lib.hid (low17 HV4.out b5)
        clear b5
        go_wp2_with fail
        go_ret
        exact ⟨rfl, low17 (HB.out.trans (HBW.out.mono HB.out.size)) HV5.out⟩
end Go.Proofs.YtfpocpmcoobjkaaDoor
