/-
  What the laws' awake does (chapter 19): what the document tells; no condition. It uses of_any, may_any (the program's Of and May).
-/
import Derived.Test.YtdaoekcabfapaaaSizeF19
namespace Go.Proofs.Ytdaoekcabfapaaa
set_option maxRecDepth 100000
open Go.RowKit

def docE : Tree := .node ⟨3, 0, 0, 0, [], [], 0, []⟩ []
theorem docE_at (w : World) (M : Nat → Prop) : TreeAt w M docE (cellsV ⟨3, 0, 0, 0, [], [], 0, []⟩ none 0 none 0 0) := by
  unfold docE
  rw [TreeAt]
  exact ⟨none, 0, none, 0, rfl, ⟨by decide, by decide, by decide, by decide, by decide, by decide, by decide, Nat.zero_le _, Nat.zero_le _, Nat.zero_le _⟩, Nat.zero_le _, Held.nothing rfl, fun h => absurd rfl h⟩
set_option maxHeartbeats 4000000 in
theorem awake_any (w : World) : Calls Try.prog 7 #[] w fun e w' => e = .returned (.bool true) ∧ Below w.heap.size w w' := by
  have h5 : ((sizeT docE : Nat) : Int) = 5 := by decide +kernel
  have c1 := of_any docE _ w (by decide +kernel) (docE_at w _)
  rw [h5] at c1
  unfold cellsV at c1
  have C1 := Lib.hid c1
  have C2 := Lib.hid fun V => may_any 1 5 0 V
  have C3 := Lib.hid fun V => may_any 0 5 0 V
  rw [show mayB 1 5 0 = true by decide] at C2
  rw [show mayB 0 5 0 = false by decide] at C3
  clear c1 h5
  go_enter Try.func7, Try.ntmps7
  go_wp2_with fail
  refine (C1.out).mono ?_
  rintro e w1 ⟨rfl, B1⟩
  have HB1 := Lib.hid B1
  clear B1 C1
  go_wp2_with fail
  refine (C2.out w1).mono ?_
  rintro e w2 ⟨rfl, B2⟩
  have HB2 := Lib.hid (HB1.out.trans (B2.mono HB1.out.size))
  clear B2 HB1
  go_wp2_with fail
  refine (C3.out w2).mono ?_
  rintro e w3 ⟨rfl, B3⟩
  have HB3 := Lib.hid (HB2.out.trans (B3.mono HB2.out.size))
  clear B3 HB2 C2 C3
  go_wp2_with fail
  go_ret
  exact ⟨rfl, HB3.out⟩
end Go.Proofs.Ytdaoekcabfapaaa
