/-
  From what the statement says of the package-level variables (their data, and the world's shape) to what the walks lean on; no condition beyond what each lemma asks.
-/
import Derived.Test.YtbfneeggfaoeaaaDoorAwake5
import Derived.Test.YtbfneeggfaoeaaaDoorRows
import Derived.ProofKit
import Derived.Handed
import Derived.Lay
import Derived.LaidMore
import Derived.SevenTiedAt
import Derived.Stop.LaidErr
import Derived.Lib.LaidTab
import Derived.Shelf.Vars
namespace Go.Proofs.YtbfneeggfaoeaaaDoor
open Go.ChangeShapes Go.WideShapes Go.ChangeAt Go.RowKit

/-- From a contract for every fitting call, in a world that is shaped and in which what is listed holds. -/
theorem returns_laid {H : Type} {enc : TypeId × Value → H} {a : Assume} {C : Checked} {os : Os} {f : FuncId} {fn : Func} {s : ChangeSpec} {conds : List PathCond} {apart fresh handsOn again : Bool} {laid : List (String × DataW Unit)}
    (own : ownKnob C.prog.godebug = none) (started : os.Started) (noInit : C.prog.inits.idxOf? f = none) (hfn : C.prog.funcs[f]? = some fn)
    (witness : ∃ (w : World) (tape : Tape) (i : Input), w.os = os ∧ (w.forCall tape i).Shaped C.prog ∧ i.vars = [] ∧ Input.okWide C.prog (w.forCall tape i) .any w.heap.size f i ∧
      ((s.pre enc C.prog fn conds apart (w.forCall tape i).memory i.args ∧ laidMetH C.prog laid (w.forCall tape i).memory) ∧ sizedMet enc C.prog fn (OpenSpec.ofChange s) apart (w.forCall tape i).memory i.args) ∧ a.holds C.prog (lone (Frame.enter C.prog f i.args .normal) [] (w.forCall tape i)))
    (contract : ∀ (W : World) (base : Nat) (args : Array Value) (ds gs : List (DataW H)) (before : List MemPlace),
      (∀ (j : Nat) t v, fn.params[j]? = some t → args[j]? = some v → Value.okWide C.prog W .any base t v) →
      DataW.Whole enc C.prog fn.params.toList s.vars apart W args.toList ds gs before → laidMetH C.prog laid W → W.ShapedOpen C.prog →
      Calls C.prog f args W fun e W' => ∃ v, e = .returned v ∧ s.post enc C.prog fn apart fresh handsOn again W args v W') :
    ReturnsInHanded a C os f .any (fun w args => (s.pre enc C.prog fn conds apart w args ∧ laidMetH C.prog laid w) ∧ sizedMet enc C.prog fn (OpenSpec.ofChange s) apart w args) (s.post enc C.prog fn apart fresh handsOn again) := by
  refine returnsInHanded_of_calls own started noInit witness ?_
  intro w tape i _ hshape _ hok hpre _
  obtain ⟨_, _, _, fn', hfn', _, _, _, _, hval⟩ := hok
  obtain rfl : fn' = fn := Option.some.inj (hfn'.symm.trans hfn)
  obtain ⟨⟨⟨ds, gs, before, hw, _⟩, hx⟩, _⟩ := hpre
  refine (contract (w.forCall tape i) w.heap.size i.args ds gs before hval (DataW.Whole.of_heap (w' := w.forCall tape i) (by rfl) hw) (laidMetH.of_heap (by rfl) hx) hshape).mono fun e W' ⟨v, he, hp⟩ => ?_
  subst he
  exact ChangeSpec.post_blind hp

theorem tNames : (Tryd.prog.globals[0]?).map (·.type) = some 39 := by kernel_rfl
theorem tPows : (Tryd.prog.globals[2]?).map (·.type) = some 78 := by kernel_rfl
theorem cNames : Tryd.prog.cellsOf 39 = 13 := by kernel_rfl
theorem cPows : Tryd.prog.cellsOf 78 = 20 := by kernel_rfl
theorem cStr : Tryd.prog.cellsOf 9 = 1 := by kernel_rfl
theorem cU64 : Tryd.prog.cellsOf 45 = 1 := by kernel_rfl
theorem names_data : (Rows.laid_propylon_fault_names : DataW Unit) = .agg (names.map fun l => .lit (.string l)) := rfl
theorem pows_data : (Rows.laid_internal_strconv_uint64pow10 : DataW Unit) = Lib.tabData .u64 Lib.pow10Tab := by
  unfold Rows.laid_internal_strconv_uint64pow10 Lib.tabData Lib.pow10Tab
  simp only [List.range, List.range.loop, List.map_cons, List.map_nil]
  rfl

theorem names_get {i : Nat} (hi : i < 13) : names[i]? = some (nameAt i) := by
  have hl : i < names.length := by rw [names_length]; exact hi
  unfold nameAt
  rw [List.getD_eq_getElem?_getD, List.getElem?_eq_getElem hl]
  rfl
/-- What the statement lists gives what the walks lean on. -/
theorem laid_of {W : World} (h : laidMetH Tryd.prog Rows.faultNamesRow.laid W) (hsh : W.ShapedOpen Tryd.prog) : Laid W := by
  rw [MakeChecks.laidMetH_plain _ _ _ (by kernel_rfl)] at h
  have h3 : laidMet Tryd.prog [("internal/strconv.uint64pow10", Rows.laid_internal_strconv_uint64pow10), ("propylon/fault.names", Rows.laid_propylon_fault_names)] W := laidMet.tail (laidMet.tail h)
  have h4 : laidMet Tryd.prog [("propylon/fault.names", Rows.laid_propylon_fault_names)] W := laidMet.tail h3
  rw [pows_data] at h3
  have hp : Pows W := Lib.tabIs_of_head gPows tPows Tryd.underlying78 Tryd.underlying45 cU64 cPows h3
  obtain ⟨ps, ⟨g, t, cs, fuel, p, q, hg, ht, hv, hd, _, _⟩, _, _⟩ := h4
  obtain rfl := Option.some.inj (gNames.symm.trans hg)
  obtain rfl := Option.some.inj (tNames.symm.trans ht)
  rw [names_data] at hd
  obtain ⟨xs, m, _, hx, hl, hn, hel⟩ := DataW.trod_array Tryd.underlying39 hd
  have hxs : xs.map (·.1) = names.map fun l => (DataW.lit (.string l) : DataW Unit) := by
    have := congrArg Prod.fst hx
    simpa using this.symm
  have hcell : ∀ i, i < 13 → W.cell? ⟨0, i, none⟩ = some (.string ⟨(nameAt i).toArray⟩) := by
    intro i hi
    have h1 := hel i hi
    rw [cStr, Nat.mul_one] at h1
    have h2 : xs[i]? = some (xs[i]'(by omega)) := List.getElem?_eq_getElem (by omega)
    rw [h2] at h1
    obtain ⟨s, hc, hs, _⟩ := DataW.trod_string Tryd.underlying9 h1
    have h3 : (xs.map (·.1))[i]? = some (DataW.lit (.string s.data.toList)) := by rw [List.getElem?_map, h2, hs]; rfl
    rw [hxs, List.getElem?_map] at h3
    rw [names_get hi] at h3
    have h5 : nameAt i = s.data.toList := by simpa using h3
    have h6 : cs.toList[i]? = some (.string s) := by
      have := congrArg (·[0]?) hc
      simpa [List.getElem?_take, List.getElem?_drop] using this
    rw [World.var?_cell hg hv i, h5]
    simpa using h6
  have hlast : 4 < W.heap.size := by
    obtain ⟨_, ⟨g, _, _, _, _, _, hg, _, hv, _, _, _⟩, _, _⟩ := laidMet.tail h
    have hgl : Tryd.prog.globalNamed "math/bits.deBruijn64tab" = some 4 := by kernel_rfl
    unfold World.var? at hv
    rw [hgl, Option.bind_some] at hv
    split at hv
    · rename_i heq
      exact block_lt heq
    · cases hv
  refine ⟨hcell, hp, cell_of_shapedOpen_int (g := 1) (t := 3) (zero := #[.int .i64 0]) hsh (of_decide_eq_true (by kernel_rfl)) (by kernel_rfl) rfl (by kernel_rfl) (by kernel_rfl) Tryd.underlying3, hlast⟩

end Go.Proofs.YtbfneeggfaoeaaaDoor
