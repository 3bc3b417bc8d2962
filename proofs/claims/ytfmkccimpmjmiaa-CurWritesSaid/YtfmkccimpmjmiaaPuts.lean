/-
  A slice of Puts that came in, as the walk is told of it; nothing is assumed beyond that it can be read.
-/
import Derived.Test.YtfmkccimpmjmiaaWritesWalk
import Derived.Test.YtfmkccimpmjmiaaStruct
namespace Go.Proofs.Ytfmkccimpmjmiaa
open Go.ChangeShapes Go.WideShapes Go.ChangeAt Go.RowKit Go.Deep

theorem puts_of {H : Type} {enc : TypeId × Value → H} {w : World} {base : Nat} {held : Bool} {a : Option Addr} {len cap : Nat} {fuel : Nat} {x : DataW H × List MemPlace}
    (h : DataW.trod enc Try.prog w base (fun _ => true) held fuel 39 [.slice a len cap] = some x) : ∃ ps, Puts w (· < w.heap.size) a len ps := by
  rcases open_slice Try.underlying39 h with ⟨hcs, _⟩ | ⟨ad, len', cap', m, n, D, Pl, hcs, _, hl, hm, hmm, _, hi⟩
  · simp only [List.cons.injEq, Value.slice.injEq, and_true] at hcs
    obtain ⟨rfl, rfl, rfl⟩ := hcs
    exact ⟨[], rfl, fun h => absurd h (by omega), fun i hi => absurd hi (by omega)⟩
  · simp only [List.cons.injEq, Value.slice.injEq, and_true] at hcs
    obtain ⟨rfl, rfl, rfl⟩ := hcs
    have hm' : m = cap := by simpa using hmm
    subst hm'
    have hC : Try.prog.cellsOf 43 = 5 := by kernel_rfl
    have hel : ∀ i, i < len → ∃ p : PutD, (∀ f, f < 5 → w.cell? ((ad.add (i * 5)).add f) = p.cells[f]?) ∧ Held w (· < w.heap.size) p.A p.l p.b ∧ p.x < 18446744073709551616 ∧
        (-9223372036854775808 ≤ p.n ∧ p.n ≤ 9223372036854775807) ∧ (-9223372036854775808 ≤ p.at_ ∧ p.at_ ≤ 9223372036854775807) := by
      intro i hi'
      obtain ⟨cs, hc, ht⟩ := hi i (by omega)
      obtain ⟨hcl, k, hf⟩ := fields_of Try.underlying43 (by kernel_rfl) (by kernel_rfl) ht
      rw [hC] at hc
      obtain ⟨_, _, hat⟩ := World.cells?_some hc
      match cs, hcl with
      | [c0, c1, c2, c3, c4], _ =>
        obtain ⟨y0, h0⟩ := hf 0 _ rfl
        obtain ⟨y1, h1⟩ := hf 1 _ rfl
        obtain ⟨y2, h2⟩ := hf 2 _ rfl
        obtain ⟨y3, h3⟩ := hf 3 _ rfl
        obtain ⟨y4, h4⟩ := hf 4 _ rfl
        obtain ⟨kd, e0, _, _⟩ := DataW.trod_int Try.underlying3 h0
        obtain ⟨nn, e1, _, w1⟩ := DataW.trod_int Try.underlying3 h1
        obtain ⟨aa, e2, _, w2⟩ := DataW.trod_int Try.underlying3 h2
        obtain ⟨xx, e3, _, w3⟩ := DataW.trod_int Try.underlying33 h3
        simp only [List.getD_cons_succ, List.getD_cons_zero, List.cons.injEq, and_true] at e0 e1 e2 e3
        subst e0 e1 e2 e3
        have bx := Go.bounds_u64 w3
        obtain ⟨xn, rfl⟩ := Int.eq_ofNat_of_zero_le bx.1
        obtain ⟨bA, bl, bc, zs, e4, hr⟩ : ∃ (bA : Option Addr) (bl bc : Nat) (zs : List Int), c4 = .slice bA bl bc ∧ IsRow .u8 w bA bl bc zs := by
          rcases open_ints Try.underlying22 Try.underlying5 (by kernel_rfl) h4 with ⟨hcs, _⟩ | ⟨x, l, c, zs, hcs, _, hl, hm, hz, _, hcell, hwz⟩
          · simp only [List.getD_cons_succ, List.getD_cons_zero, List.cons.injEq, and_true] at hcs
            exact ⟨none, 0, 0, [], hcs, .inl ⟨rfl, rfl, rfl, rfl⟩⟩
          · simp only [List.getD_cons_succ, List.getD_cons_zero, List.cons.injEq, and_true] at hcs
            exact ⟨some x, l, c, zs, hcs, .inr ⟨_, rfl, hl, hm, by simpa using hz, hcell, hwz⟩⟩
        subst e4
        obtain ⟨bb, hbb, _⟩ := hr.held
        refine ⟨⟨kd, nn, aa, xn, bA, bl, bc, bb⟩, fun f hf5 => ?_, hbb, (by have := bx.2; show xn < 18446744073709551616; omega), Go.bounds_i64 w1, Go.bounds_i64 w2⟩
        rw [hat f hf5]
        simp [PutD.cells]
    obtain ⟨ps, hk, hp⟩ := list_of PutD.zero _ len hel
    refine ⟨ps, hk, fun hn => ?_, fun i hi' => ?_⟩
    · obtain ⟨b, o, sp⟩ := ad
      have h0 := (hp 0 hn).1 0 (by omega)
      have h00 : w.cell? (((⟨b, o, sp⟩ : Addr).add (0 * 5)).add 0) = some (.int .i64 (ps.getD 0 PutD.zero).kind) := h0
      have hsp : sp = none := by
        have := World.cell?_spot h00
        simpa [Addr.add] using this
      subst hsp
      refine ⟨b, o, rfl, ?_, fun i hi' f hf => ?_⟩
      · have := World.block_lt_of_cell? w _ h00
        simpa [Addr.add] using this
      · have h1 := (hp i hi').1 f hf
        rw [Addr.add_lit, Addr.add_lit] at h1
        exact h1
    · exact (hp i hi').2
end Go.Proofs.Ytfmkccimpmjmiaa
