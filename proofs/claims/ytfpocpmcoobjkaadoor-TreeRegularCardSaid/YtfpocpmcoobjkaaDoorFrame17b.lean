/-
  From what two of the statements list (the words, the powers of ten) to what the walks lean on; no condition.
-/
import Derived.Test.YtfpocpmcoobjkaaDoorFrame17
import Derived.Test.YtfpocpmcoobjkaaDoorCodeR17
namespace Go.Proofs.YtfpocpmcoobjkaaDoor
open Go.ChangeShapes Go.WideShapes Go.ChangeAt Go.RowKit

theorem tTens : (Tryd.prog.globals[1]?).map (·.type) = some 86 := by kernel_rfl
theorem cTens : Tryd.prog.cellsOf 86 = 20 := by kernel_rfl
theorem cU64 : Tryd.prog.cellsOf 22 = 1 := by kernel_rfl
theorem tens_data : (Rows.laid_internal_strconv_uint64pow10 : DataW Unit) = Lib.tabData .u64 Lib.pow10Tab := by
  unfold Rows.laid_internal_strconv_uint64pow10 Lib.tabData Lib.pow10Tab
  simp only [List.range, List.range.loop, List.map_cons, List.map_nil]
  rfl
/-- What two of the statements list. -/
def listed4 : List (String × DataW Unit) := [("math/bits.deBruijn32tab", Rows.laid_math_bits_deBruijn32tab), ("math/bits.deBruijn64tab", Rows.laid_math_bits_deBruijn64tab), ("internal/strconv.uint64pow10", Rows.laid_internal_strconv_uint64pow10), ("propylon/tree.words", Rows.laid_propylon_tree_words)]
theorem laid4_of {W : World} (h : laidMetH Tryd.prog listed4 W) (_ : W.ShapedOpen Tryd.prog) : Words W ∧ Tens W := by
  rw [MakeChecks.laidMetH_plain _ _ _ (by kernel_rfl)] at h
  have h2 : laidMet Tryd.prog [("math/bits.deBruijn64tab", Rows.laid_math_bits_deBruijn64tab), ("internal/strconv.uint64pow10", Rows.laid_internal_strconv_uint64pow10), ("propylon/tree.words", Rows.laid_propylon_tree_words)] W := laidMet.tail h
  have h3 : laidMet Tryd.prog [("internal/strconv.uint64pow10", Rows.laid_internal_strconv_uint64pow10), ("propylon/tree.words", Rows.laid_propylon_tree_words)] W := laidMet.tail h2
  have h4 : laidMet Tryd.prog [("propylon/tree.words", Rows.laid_propylon_tree_words)] W := laidMet.tail h3
  have hlast : 1 < W.heap.size := by
    obtain ⟨_, ⟨g, _, _, _, _, _, hg, _, hv, _, _, _⟩, _, _⟩ := h3
    have hgl : Tryd.prog.globalNamed "internal/strconv.uint64pow10" = some 1 := by kernel_rfl
    unfold World.var? at hv
    rw [hgl, Option.bind_some] at hv
    split at hv
    · rename_i heq
      exact block_lt heq
    · cases hv
  rw [tens_data] at h3
  have hq : Pows W := Lib.tabIs_of_head gTens tTens Tryd.underlying86 Tryd.underlying22 cU64 cTens h3
  exact ⟨words_of h4, hq, hlast⟩
end Go.Proofs.YtfpocpmcoobjkaaDoor
