/-
  What the package-level variables hold that the calls read: the powers of ten, the library's two errors, some number of the library's; no condition beyond what each lemma asks.
-/
import Derived.Test.YtbdkkkcpoaeojaaDoorLook10
namespace Go.Proofs.YtbdkkkcpoaeojaaDoor
open Go.RowKit

theorem gPows : Tryd.prog.globalNamed "internal/strconv.uint64pow10" = some 0 := by kernel_rfl
theorem gSyn : Tryd.prog.globalNamed "strconv.ErrSyntax" = some 1 := by kernel_rfl
theorem gRan : Tryd.prog.globalNamed "strconv.ErrRange" = some 2 := by kernel_rfl

/-- What the calls of this layer lean on. -/
structure Laid (w : World) : Prop where
  pows : Pows w
  syn : ∃ tp p, w.var? Tryd.prog "strconv.ErrSyntax" = some #[.iface tp p]
  ran : ∃ tp p, w.var? Tryd.prog "strconv.ErrRange" = some #[.iface tp p]
  most : ∃ m, w.cell? ⟨3, 0, none⟩ = some (.int .i64 m)
  size : 6 ≤ w.heap.size

theorem Laid.on {B : Nat} {w w' : World} (h : Laid w) (hb : Below B w w') (hB : 6 ≤ B) : Laid w' where
  pows := by
    have h1 := h.pows
    unfold Pows Lib.TabIs World.var? at *
    rw [gPows] at *
    simp only [Option.bind_some] at *
    rw [hb.block _ (by omega)]
    exact h1
  syn := by
    obtain ⟨tp, p, h1⟩ := h.syn
    refine ⟨tp, p, ?_⟩
    unfold World.var? at *
    rw [gSyn] at *
    simp only [Option.bind_some] at *
    rw [hb.block _ (by omega)]
    exact h1
  ran := by
    obtain ⟨tp, p, h1⟩ := h.ran
    refine ⟨tp, p, ?_⟩
    unfold World.var? at *
    rw [gRan] at *
    simp only [Option.bind_some] at *
    rw [hb.block _ (by omega)]
    exact h1
  most := by
    obtain ⟨m, hm⟩ := h.most
    exact ⟨m, (hb.cell (p := ⟨3, 0, none⟩) (Nat.lt_of_lt_of_le (show 3 < 6 by decide) hB)).trans hm⟩
  size := Nat.le_trans h.size hb.size
/-- After a call that left alone all that was there. -/
theorem Laid.after {w w' : World} (h : Laid w) (hb : Below w.heap.size w w') : Laid w' := h.on hb h.size

end Go.Proofs.YtbdkkkcpoaeojaaDoor
