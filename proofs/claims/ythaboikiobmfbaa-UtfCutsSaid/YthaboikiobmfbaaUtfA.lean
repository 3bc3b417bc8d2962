/-
  What the small functions of package utf do, one contract each; no condition beyond what each contract asks.
-/
import Derived.Test.YthaboikiobmfbaaBase
import Derived.Test.YthaboikiobmfbaaUtfMath
import Derived.IntWalk
namespace Go.Proofs.Ythaboikiobmfbaa
open Go.RowKit

/-- A reading: its struct lies in block q, above its bytes; it stands at p with the bits v. -/
def Rg (w : World) (q : Nat) (A : Option Addr) (n c : Nat) (bs : List UInt8) (p v : Nat) : Prop :=
  w.heap[q]? = some (.cells #[.slice A n c, .int .i64 (p : Int), .int .i64 (v : Int)] 44 (0, 0)) ∧ Held w (· < q) A n bs
section
variable {w w' : World} {q : Nat} {A : Option Addr} {n c : Nat} {bs : List UInt8} {p v : Nat}
theorem Rg.drewN (h : Rg w q A n c bs p v) (m : Nat) : Rg (w.drewN m) q A n c bs p v := h
theorem Rg.lt (h : Rg w q A n c bs p v) : q < w.heap.size := block_lt h.1
theorem Rg.cell0 (h : Rg w q A n c bs p v) : w.cell? ⟨q, 0, none⟩ = some (.slice A n c) := by rw [block_cell h.1]; rfl
theorem Rg.cell1 (h : Rg w q A n c bs p v) : w.cell? ⟨q, 1, none⟩ = some (.int .i64 (p : Int)) := by rw [block_cell h.1]; rfl
theorem Rg.cell2 (h : Rg w q A n c bs p v) : w.cell? ⟨q, 2, none⟩ = some (.int .i64 (v : Int)) := by rw [block_cell h.1]; rfl
theorem Rg.at (h : Rg w q A n c bs p v) (p' : Nat) : Rg (w.setCell ⟨q, 1, none⟩ (.int .i64 (p' : Int))) q A n c bs p' v := by
  refine ⟨by rw [block_set h.1]; rfl, h.2.keep fun k hk => Below.heap_setCell _ _ _ _ (by show k ≠ q; omega)⟩
theorem Rg.bits (h : Rg w q A n c bs p v) (v' : Nat) : Rg (w.setCell ⟨q, 2, none⟩ (.int .i64 (v' : Int))) q A n c bs p v' := by
  refine ⟨by rw [block_set h.1]; rfl, h.2.keep fun k hk => Below.heap_setCell _ _ _ _ (by show k ≠ q; omega)⟩
end

theorem wraps_i64 (n : Int) (h₀ : 0 ≤ n) (h₁ : n < 2 ^ 62) : IntKind.i64.wrap n = n := by rw [IntKind.wrap_i64]; omega
theorem i64_or6 (v x : Nat) (hv : v ≤ 100000000) (h1 : 128 ≤ x) (h2 : x ≤ 191) : bits .or .i64 ((v : Int) * 64) ((x : Int) % 64) = ((v * 64 + (x - 128) : Nat) : Int) := by
  rw [bits_join .i64 62 (by decide) wraps_i64 6 ((v : Int) * 64) ((x : Int) % 64) (by omega) (by omega) (by omega) (by omega) (by omega) (by omega)]
  omega

def TailNo (w : World) (e : Ending) (w' : World) : Prop := e = .returned (.bool false) ∧ ∃ m, w' = w.drewN m
def TailOk (q : Nat) (A : Option Addr) (n c : Nat) (bs : List UInt8) (p v : Nat) (w : World) (e : Ending) (w' : World) : Prop :=
  e = .returned (.bool true) ∧ Rg w' q A n c bs (p + 1) (v * 64 + (byt bs p - 128)) ∧ Kept (· = q) w w'

set_option maxHeartbeats 400000 in
theorem tail_past (q : Nat) (A : Option Addr) (n c : Nat) (bs : List UInt8) (p v lo hi : Nat) (w : World) (h : Rg w q A n c bs p v) (hge : n ≤ p) :
    Calls Try.prog 25 #[.pointer (some ⟨q, 0, none⟩), .int .u8 (lo : Int), .int .u8 (hi : Int)] w (TailNo w) := by
  have h0 := h.cell0
  have h1 := h.cell1
  have d1 : decide ((n : Int) ≤ (p : Int)) = true := by simpa using hge
  have d1n : decide (n ≤ p) = true := by simp; omega
  have H := Lib.hid h
  clear h
  go_enter Try.func25, Try.ntmps25
  go_wp2_with fail
  go_quiet (fail)
  go_wp2_with fail
  go_ret
  exact ⟨rfl, _, rfl⟩

set_option maxHeartbeats 400000 in
theorem tail_bad (q : Nat) (A : Option Addr) (n c : Nat) (bs : List UInt8) (p v lo hi : Nat) (w : World) (h : Rg w q A n c bs p v) (hn : n ≤ 100000000) (hlt : p < n) (hb : byt bs p < lo ∨ hi < byt bs p) :
    Calls Try.prog 25 #[.pointer (some ⟨q, 0, none⟩), .int .u8 (lo : Int), .int .u8 (hi : Int)] w (TailNo w) := by
  have h0 := h.cell0
  have h1 := h.cell1
  have d1 : decide ((n : Int) ≤ (p : Int)) = false := by simpa using hlt
  have d1n : decide (n ≤ p) = false := by simp; omega
  obtain ⟨b, o, rfl, _, hc⟩ := h.2.2 (by omega)
  have hcp : w.cell? ⟨b, o + p, none⟩ = some (.int .u8 (byt bs p : Int)) := hc p hlt
  have H := Lib.hid h
  clear h hc
  generalize byt bs p = x at hcp hb
  by_cases c1 : x < lo
  · have d2 : decide ((x : Int) < (lo : Int)) = true := by simpa using c1
    have d2n : decide (x < lo) = true := by simp; omega
    clear hb
    go_enter Try.func25, Try.ntmps25
    go_wp2_with fail
    go_quiet (fail)
    go_wp2_with fail
    go_quiet (fail)
    go_wp2_with fail
    go_ret
    exact ⟨rfl, _, rfl⟩
  · have d2 : decide ((x : Int) < (lo : Int)) = false := by simpa using c1
    have d2n : decide (x < lo) = false := by simp; omega
    have d3 : decide ((hi : Int) < (x : Int)) = true := by simp; omega
    have d3n : decide (hi < x) = true := by simp; omega
    clear hb
    go_enter Try.func25, Try.ntmps25
    go_wp2_with fail
    go_quiet (fail)
    go_wp2_with fail
    go_quiet (fail)
    go_wp2_with fail
    go_ret
    exact ⟨rfl, _, rfl⟩

set_option maxHeartbeats 400000 in
theorem tail_ok (q : Nat) (A : Option Addr) (n c : Nat) (bs : List UInt8) (p v lo hi : Nat) (w : World) (h : Rg w q A n c bs p v) (hn : n ≤ 100000000) (hlt : p < n) (h128 : 128 ≤ lo) (h191 : hi ≤ 191) (hb : lo ≤ byt bs p ∧ byt bs p ≤ hi) (hv : v ≤ 100000000) :
    Calls Try.prog 25 #[.pointer (some ⟨q, 0, none⟩), .int .u8 (lo : Int), .int .u8 (hi : Int)] w (TailOk q A n c bs p v w) := by
  have h0 := h.cell0
  have h1 := h.cell1
  have h2 := h.cell2
  have f1 := block_frozen h.1 1
  have f2 := block_frozen h.1 2
  have d1 : decide ((n : Int) ≤ (p : Int)) = false := by simpa using hlt
  have d1n : decide (n ≤ p) = false := by simp; omega
  obtain ⟨b, o, rfl, _, hc⟩ := h.2.2 (by omega)
  have hcp : w.cell? ⟨b, o + p, none⟩ = some (.int .u8 (byt bs p : Int)) := hc p hlt
  have H := Lib.hid h
  clear h hc
  obtain ⟨x, hx⟩ : ∃ x, x = byt bs p := ⟨_, rfl⟩
  have HX := Lib.hid hx
  rw [← hx] at hcp hb
  clear hx
  have d2 : decide ((x : Int) < (lo : Int)) = false := by simp; omega
  have d2n : decide (x < lo) = false := by simp; omega
  have d3 : decide ((hi : Int) < (x : Int)) = false := by simp; omega
  have d3n : decide (hi < x) = false := by simp; omega
  go_enter Try.func25, Try.ntmps25
  go_wp2_with fail
  go_quiet (fail)
  go_wp2_with fail
  go_quiet (fail)
  go_wp2_with fail
  rw [i64_or6 v x hv (by omega) (by omega), show (p : Int) + 1 = ((p + 1 : Nat) : Int) from rfl, HX.out]
  go_ret
  exact ⟨rfl, ((H.out.drewN _).bits _).at _, ((((Kept.refl (· = q) w).drewN _).setCell (p := ⟨q, 2, none⟩) (fun _ => rfl) _).setCell (p := ⟨q, 1, none⟩) (fun _ => rfl) _)⟩

/-- The bits that a first byte gives. -/
def leadBits (x : Nat) : Nat := if x ≤ 223 then x % 32 else if x ≤ 239 then x % 16 else x % 8

set_option maxHeartbeats 400000 in
theorem lead_any (q : Nat) (A : Option Addr) (n c : Nat) (bs : List UInt8) (p v : Nat) (w : World) (h : Rg w q A n c bs p v) (hn : n ≤ 100000000) (hlt : p < n) :
    Calls Try.prog 24 #[.pointer (some ⟨q, 0, none⟩)] w fun e w' =>
      e = .returned (.int .u8 (byt bs p : Int)) ∧ Rg w' q A n c bs (p + 1) (leadBits (byt bs p)) ∧ Kept (· = q) w w' := by
  have h0 := h.cell0
  have h1 := h.cell1
  have h2 := h.cell2
  have f1 := block_frozen h.1 1
  have f2 := block_frozen h.1 2
  obtain ⟨b, o, rfl, _, hc⟩ := h.2.2 (by omega)
  have hcp : w.cell? ⟨b, o + p, none⟩ = some (.int .u8 (byt bs p : Int)) := hc p hlt
  have H := Lib.hid h
  clear h hc
  have hx := byt_lt bs p
  generalize byt bs p = x at hcp hx
  by_cases c1 : x ≤ 223
  · have d1 : decide ((x : Int) ≤ 223) = true := by simp; omega
    go_enter Try.func24, Try.ntmps24
    go_wp2_with fail
    go_quiet (fail)
    go_wp2_with fail
    rw [show (x : Int) % 32 = ((leadBits x : Nat) : Int) by unfold leadBits; rw [if_pos c1]; rfl, show (p : Int) + 1 = ((p + 1 : Nat) : Int) from rfl]
    go_ret
    exact ⟨rfl, ((H.out.drewN _).bits _).at _, ((((Kept.refl (· = q) w).drewN _).setCell (p := ⟨q, 2, none⟩) (fun _ => rfl) _).setCell (p := ⟨q, 1, none⟩) (fun _ => rfl) _)⟩
  · have d1 : decide ((x : Int) ≤ 223) = false := by simp; omega
    by_cases c2 : x ≤ 239
    · have d2 : decide ((x : Int) ≤ 239) = true := by simp; omega
      go_enter Try.func24, Try.ntmps24
      go_wp2_with fail
      go_quiet (fail)
      go_wp2_with fail
      rw [show (x : Int) % 16 = ((leadBits x : Nat) : Int) by unfold leadBits; rw [if_neg c1, if_pos c2]; rfl, show (p : Int) + 1 = ((p + 1 : Nat) : Int) from rfl]
      go_ret
      exact ⟨rfl, ((H.out.drewN _).bits _).at _, ((((Kept.refl (· = q) w).drewN _).setCell (p := ⟨q, 2, none⟩) (fun _ => rfl) _).setCell (p := ⟨q, 1, none⟩) (fun _ => rfl) _)⟩
    · have d2 : decide ((x : Int) ≤ 239) = false := by simp; omega
      go_enter Try.func24, Try.ntmps24
      go_wp2_with fail
      go_quiet (fail)
      go_wp2_with fail
      rw [show (x : Int) % 8 = ((leadBits x : Nat) : Int) by unfold leadBits; rw [if_neg c1, if_neg c2]; rfl, show (p : Int) + 1 = ((p + 1 : Nat) : Int) from rfl]
      go_ret
      exact ⟨rfl, ((H.out.drewN _).bits _).at _, ((((Kept.refl (· = q) w).drewN _).setCell (p := ⟨q, 2, none⟩) (fun _ => rfl) _).setCell (p := ⟨q, 1, none⟩) (fun _ => rfl) _)⟩

end Go.Proofs.Ythaboikiobmfbaa
