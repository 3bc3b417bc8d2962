/-
  A slice of Acts that came in, as the walk is told of it; nothing is assumed beyond that it can be read.
-/
import Derived.Test.YtfmkccimpmjmiaaReadsWalk
import Derived.Test.YtfmkccimpmjmiaaStruct
namespace Go.Proofs.Ytfmkccimpmjmiaa
open Go.ChangeShapes Go.WideShapes Go.ChangeAt Go.RowKit Go.Deep

theorem acts_of {H : Type} {enc : TypeId × Value → H} {w : World} {base : Nat} {held : Bool} {a : Option Addr} {len cap : Nat} {fuel : Nat} {x : DataW H × List MemPlace}
    (h : DataW.trod enc Try.prog w base (fun _ => true) held fuel 23 [.slice a len cap] = some x) : ∃ ks, Acts w (· < w.heap.size) a len ks := by
  rcases open_slice Try.underlying23 h with ⟨hcs, _⟩ | ⟨ad, len', cap', m, n, D, Pl, hcs, _, hl, hm, hmm, _, hi⟩
  · simp only [List.cons.injEq, Value.slice.injEq, and_true] at hcs
    obtain ⟨rfl, rfl, rfl⟩ := hcs
    exact ⟨[], rfl, fun h => absurd h (by omega), fun i => by simp⟩
  · simp only [List.cons.injEq, Value.slice.injEq, and_true] at hcs
    obtain ⟨rfl, rfl, rfl⟩ := hcs
    have hm' : m = cap := by simpa using hmm
    subst hm'
    have hC : Try.prog.cellsOf 28 = 2 := by kernel_rfl
    have hel : ∀ i, i < len → ∃ kd nn : Int, w.cell? (ad.add (i * 2)) = some (.int .i64 kd) ∧ w.cell? ((ad.add (i * 2)).add 1) = some (.int .i64 nn) ∧ (Lit.int .i64 nn).wf = true := by
      intro i hi'
      obtain ⟨cs, hc, ht⟩ := hi i (by omega)
      obtain ⟨hcl, k, hf⟩ := fields_of Try.underlying28 (by kernel_rfl) (by kernel_rfl) ht
      rw [hC] at hc
      obtain ⟨_, _, hat⟩ := World.cells?_some hc
      match cs, hcl with
      | [c0, c1], _ =>
        obtain ⟨y0, h0⟩ := hf 0 _ rfl
        obtain ⟨y1, h1⟩ := hf 1 _ rfl
        obtain ⟨kd, e0, _, _⟩ := DataW.trod_int Try.underlying3 h0
        obtain ⟨nn, e1, _, w1⟩ := DataW.trod_int Try.underlying3 h1
        simp only [List.getD_cons_succ, List.getD_cons_zero, List.cons.injEq, and_true] at e0 e1
        subst e0
        subst e1
        have a0 := hat 0 (by omega)
        have a1 := hat 1 (by omega)
        exact ⟨kd, nn, by simpa [Addr.add] using a0, by simpa using a1, w1⟩
    obtain ⟨ks, hk, hp⟩ := list_of ((0, 0) : Int × Int) (fun i k => w.cell? (ad.add (i * 2)) = some (.int .i64 k.1) ∧ w.cell? ((ad.add (i * 2)).add 1) = some (.int .i64 k.2) ∧ (Lit.int .i64 k.2).wf = true) len
      (fun i hi' => by obtain ⟨kd, nn, h⟩ := hel i hi'; exact ⟨(kd, nn), h⟩)
    refine ⟨ks, hk, fun hn => ?_, fun i => ?_⟩
    · obtain ⟨b, o, sp⟩ := ad
      have h0 := (hp 0 hn).1
      have hsp : sp = none := by
        have := World.cell?_spot h0
        simpa [Addr.add] using this
      subst hsp
      refine ⟨b, o, rfl, ?_, fun i hi' => ?_⟩
      · have := World.block_lt_of_cell? w _ h0
        simpa [Addr.add] using this
      · have h1 := (hp i hi').1
        have h2 := (hp i hi').2.1
        rw [Addr.add_lit] at h1 h2
        rw [Addr.add_lit] at h2
        exact ⟨h1, h2⟩
    · by_cases hi' : i < len
      · exact Go.bounds_i64 (hp i hi').2.2
      · rw [List.getD, List.getElem?_eq_none (by omega)]
        simp
end Go.Proofs.Ytfmkccimpmjmiaa
