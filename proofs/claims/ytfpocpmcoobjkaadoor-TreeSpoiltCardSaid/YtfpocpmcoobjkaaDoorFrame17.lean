/-
  From what the statement says of the package-level variables (their data, and the world's shape) to what the walks lean on; no condition beyond what each lemma asks.
-/
import Derived.Test.YtfpocpmcoobjkaaDoorWords17
import Derived.ChangeSame
import Derived.Test.YtfpocpmcoobjkaaDoorRows
import Derived.ProofKit
import Derived.Handed
import Derived.Lay
import Derived.LaidMore
import Derived.SevenTiedAt
import Derived.Stop.LaidErr
import Derived.Lib.LaidTab
import Derived.Shelf.Vars
namespace Go.Proofs.YtfpocpmcoobjkaaDoor
open Go.ChangeShapes Go.WideShapes Go.ChangeAt Go.RowKit

/-- From a contract for every fitting call, in a world that is shaped and in which what is listed holds. -/
theorem returns_laid {H : Type} {enc : TypeId × Value → H} {a : Assume} {C : Checked} {os : Os} {f : FuncId} {fn : Func} {s : ChangeSpec} {conds : List PathCond} {apart fresh handsOn again : Bool} {laid : List (String × DataW Unit)}
    (own : ownKnob C.prog.godebug = none) (started : os.Started) (noInit : C.prog.inits.idxOf? f = none) (hfn : C.prog.funcs[f]? = some fn)
    (witness : ∃ (w : World) (tape : Tape) (i : Input), w.os = os ∧ (w.forCall tape i).Shaped C.prog ∧ i.vars = [] ∧ Input.okWide C.prog (w.forCall tape i) .any w.heap.size f i ∧
      ((s.pre enc C.prog fn conds apart (w.forCall tape i).memory i.args ∧ laidMetH C.prog laid (w.forCall tape i).memory) ∧ sizedMet enc C.prog fn (OpenSpec.ofChange s) apart (w.forCall tape i).memory i.args) ∧ a.holds C.prog (lone (Frame.enter C.prog f i.args .normal) [] (w.forCall tape i)))
    (contract : ∀ (W : World) (base : Nat) (args : Array Value) (ds gs : List (DataW H)) (before : List MemPlace),
      (∀ (j : Nat) t v, fn.params[j]? = some t → args[j]? = some v → Value.okWide C.prog W .any base t v) →
      DataW.Whole enc C.prog fn.params.toList s.vars apart W args.toList ds gs before → laidMetH C.prog laid W → W.ShapedOpen C.prog →
      Calls C.prog f args W fun e W' => ∃ v, e = .returned v ∧ s.post enc C.prog fn apart fresh handsOn again W args v W') :
    ReturnsInHanded a C os f .any (fun w args => (s.pre enc C.prog fn conds apart w args ∧ laidMetH C.prog laid w) ∧ sizedMet enc C.prog fn (OpenSpec.ofChange s) apart w args) (s.post enc C.prog fn apart fresh handsOn again) := by
  refine returnsInHanded_of_calls own started noInit witness ?_
  intro w tape i _ hshape _ hok hpre _
  obtain ⟨_, _, _, fn', hfn', _, _, _, _, hval⟩ := hok
  obtain rfl : fn' = fn := Option.some.inj (hfn'.symm.trans hfn)
  obtain ⟨⟨⟨ds, gs, before, hw, _⟩, hx⟩, _⟩ := hpre
  refine (contract (w.forCall tape i) w.heap.size i.args ds gs before hval (DataW.Whole.of_heap (w' := w.forCall tape i) (by rfl) hw) (laidMetH.of_heap (by rfl) hx) hshape).mono fun e W' ⟨v, he, hp⟩ => ?_
  subst he
  exact ChangeSpec.post_blind hp

theorem bytes_eq (s : ByteArray) : s = ⟨s.data.toList.toArray⟩ := by cases s; simp
theorem gWords : Tryd.prog.globalNamed "propylon/tree.words" = some 0 := by kernel_rfl
theorem tWords : (Tryd.prog.globals[0]?).map (·.type) = some 59 := by kernel_rfl
theorem cWord : Tryd.prog.cellsOf 58 = 2 := by kernel_rfl
theorem cInt : Tryd.prog.cellsOf 3 = 1 := by kernel_rfl
theorem cStr : Tryd.prog.cellsOf 9 = 1 := by kernel_rfl
theorem words_data : (Rows.laid_propylon_tree_words : DataW Unit) = .agg (pairsL.map fun x => .agg [.lit (.int .i64 x.1), .lit (.string x.2)]) := rfl
theorem pairs_len : pairsL.length = 21 := rfl
/-- What the statement lists gives what the walks lean on. -/
theorem words_of {W : World} (h : laidMet Tryd.prog [("propylon/tree.words", Rows.laid_propylon_tree_words)] W) : Words W := by
  obtain ⟨ps, ⟨g, t, cs, fuel, p, q, hg, ht, hv, hd, _, _⟩, _, _⟩ := h
  obtain rfl := Option.some.inj (gWords.symm.trans hg)
  obtain rfl := Option.some.inj (tWords.symm.trans ht)
  rw [words_data] at hd
  obtain ⟨xs, m, _, hx, hl, hn, hel⟩ := DataW.trod_array Tryd.underlying59 hd
  have hxs : xs.map (·.1) = pairsL.map fun x => (DataW.agg [.lit (.int .i64 x.1), .lit (.string x.2)] : DataW Unit) := by
    have := congrArg Prod.fst hx
    simpa using this.symm
  have each : ∀ i, i < 21 → cs.toList[i * 2]? = wordCells[i * 2]? ∧ cs.toList[i * 2 + 1]? = wordCells[i * 2 + 1]? := by
    intro i hi
    have h1 := hel i hi
    rw [cWord] at h1
    have h2 : xs[i]? = some (xs[i]'(by omega)) := List.getElem?_eq_getElem (by omega)
    rw [h2] at h1
    have h3 : (xs.map (·.1))[i]? = some (xs[i]'(by omega)).1 := by rw [List.getElem?_map, h2]; rfl
    have hp : i < pairsL.length := hi
    rw [hxs, List.getElem?_map, List.getElem?_eq_getElem hp] at h3
    obtain ⟨y0, y1, n, e, _, g0, g1⟩ := Go.ChangeShapes.trod_struct2 Tryd.underlying58 h1
    rw [e] at h3
    simp only [Option.map_some, Option.some.injEq, DataW.agg.injEq, List.cons.injEq, and_true] at h3
    obtain ⟨n0, b0, b1, _⟩ := DataW.trod_int Tryd.underlying3 g0
    obtain ⟨s0, d0, d1, _⟩ := DataW.trod_string Tryd.underlying9 g1
    rw [b1, d1] at h3
    simp only [DataW.lit.injEq, Lit.int.injEq, Lit.string.injEq, true_and] at h3
    have ew := word_at hi
    have eg : pairsL.getD i (0, []) = pairsL[i] := by simp [List.getD, hp]
    rw [eg, h3.1, h3.2] at ew
    rw [ew.1, ew.2]
    dsimp only at b0 d0
    rw [cInt] at b0
    rw [cStr] at d0
    have b2 := congrArg (·[0]?) b0
    have d2 := congrArg (·[0]?) d0
    simp only [List.getElem?_take, List.getElem?_drop, List.getElem?_cons_zero] at b2 d2
    have eb : (⟨s0.data.toList.toArray⟩ : ByteArray) = s0 := by cases s0; simp
    refine ⟨?_, ?_⟩
    · simpa using b2
    · rw [eb]
      simpa using d2
  have hlast : 0 < W.heap.size := by
    have hv2 := hv
    unfold World.var? at hv2
    rw [gWords, Option.bind_some] at hv2
    split at hv2
    · rename_i heq
      exact block_lt heq
    · cases hv2
  refine ⟨fun i hi => ?_, hlast⟩
  rw [World.var?_cell hg hv i]
  have hc : cs[i]? = cs.toList[i]? := by simp
  rw [hc]
  rcases (by omega : i = i / 2 * 2 ∨ i = i / 2 * 2 + 1) with e | e
  · rw [e]; exact (each (i / 2) (by omega)).1
  · rw [e]; exact (each (i / 2) (by omega)).2
theorem tail_words {x y : String × DataW Unit} {W : World} (h : laidMet Tryd.prog [x, y] W) : laidMet Tryd.prog [y] W := laidMet.tail h
/-- What four of the statements list. -/
def listed1 : List (String × DataW Unit) := [("propylon/tree.words", Rows.laid_propylon_tree_words)]
theorem laid1_of {W : World} (h : laidMetH Tryd.prog listed1 W) (_ : W.ShapedOpen Tryd.prog) : Words W := by
  rw [MakeChecks.laidMetH_plain _ _ _ (by kernel_rfl)] at h
  exact words_of h
end Go.Proofs.YtfpocpmcoobjkaaDoor
