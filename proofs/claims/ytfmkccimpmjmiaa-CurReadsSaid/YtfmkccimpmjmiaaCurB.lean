/-
  What the Reader's calls of package cur do, one contract each; no condition beyond what each contract asks.
-/
import Derived.Test.YtfmkccimpmjmiaaCurA
namespace Go.Proofs.Ytfmkccimpmjmiaa
open Go.RowKit

def PassPost (q g : Nat) (bs : List UInt8) (k n : Nat) (w : World) (e : Ending) (w' : World) : Prop :=
  ∃ A c, e = .returned (.tuple #[.slice A n c, .bool true]) ∧ Held w' (· = g) A n ((bs.drop k).take n) ∧ Rd w' q g bs (k + n) ∧ Kept (· = q) w w'

theorem Rd.drewN {w : World} {q g : Nat} {bs : List UInt8} {k : Nat} (h : Rd w q g bs k) (n : Nat) : Rd (w.drewN n) q g bs k := h
theorem Rd.held {w : World} {q g : Nat} {bs : List UInt8} {k : Nat} (h : Rd w q g bs k) : Held w (· = g) (some ⟨g, 0, none⟩) bs.length bs := Held.of_row h.2.1 rfl rfl

set_option maxHeartbeats 400000 in
theorem pass_ok (q g : Nat) (bs : List UInt8) (k n : Nat) (w : World) (h : Rd w q g bs k) (hn : k + n ≤ bs.length) :
    Calls Try.prog 29 #[.pointer (some ⟨q, 0, none⟩), .int .i64 (n : Int)] w (PassPost q g bs k n w) := by
  have hl := h.2.2.2
  have hd : decide ((n : Int) < 0) = false := by simp
  have hge : ¬ ((bs.length : Int) - (k : Int) < (n : Int)) := by omega
  have H := Lib.hid h
  clear h
  go_enter Try.func29, Try.ntmps29
  go_wp2_with fail
  refine (left_any q g bs k _ H.out).mono ?_
  rintro e w1 ⟨rfl, m, rfl⟩
  have c1 := (H.out.drewN m).cell1
  have f1 := block_frozen (H.out.drewN m).1 1
  go_wp2_with fail
  have hk2 : Kept (· = q) w ((w.drewN m).setCell ⟨q, 1, none⟩ (.int .i64 ((k : Int) + (n : Int)))) := ((Kept.refl (· = q) w).drewN m).setCell (p := ⟨q, 1, none⟩) (fun _ => rfl) _
  have hR2 : Rd ((w.drewN m).setCell ⟨q, 1, none⟩ (.int .i64 ((k : Int) + (n : Int)))) q g bs (k + n) := (H.out.drewN m).set hn
  generalize (w.drewN m).setCell ⟨q, 1, none⟩ (.int .i64 ((k : Int) + (n : Int))) = w2 at hk2 hR2 ⊢
  have d0 := hR2.cell0
  have d1 : w2.cell? ⟨q, 1, none⟩ = some (.int .i64 ((k : Int) + (n : Int))) := hR2.cell1
  have HR := Lib.hid hR2
  clear hR2 c1 f1
  go_quiet (fail)
  go_wp2_with fail
  all_goals
    go_ret2
    refine ⟨_, _, rfl, (HR.out.drewN nq).held.part hn _ ?_, HR.out.drewN nq, hk2.drewN nq⟩
    intro hpos b o e
    injection e with e
    injection e with e1 e2
    subst e1
    subst e2
    first | (simp; done) | (exfalso; omega)

def TakePost (q g : Nat) (bs : List UInt8) (k n : Nat) (w : World) (e : Ending) (w' : World) : Prop :=
  ∃ g', e = .returned (.tuple #[.slice (some ⟨g', 0, none⟩) n n, .bool true]) ∧ w.heap.size ≤ g' ∧ w'.heap[g']? = some (.cells (cellsOf ((bs.drop k).take n)).toArray 5 (0, 0)) ∧ Rd w' q g bs (k + n) ∧ Kept (· = q) w w'

set_option maxHeartbeats 400000 in
theorem take_no (q g : Nat) (bs : List UInt8) (k : Nat) (n : Int) (w : World) (h : Rd w q g bs k) (hn : n < 0 ∨ (bs.length : Int) - (k : Int) < n) :
    Calls Try.prog 11 #[.pointer (some ⟨q, 0, none⟩), .int .i64 n] w (NoPost (.slice none 0 0) w) := by
  have H := Lib.hid h
  clear h
  have HN := Lib.hid hn
  clear hn
  go_enter Try.func11, Try.ntmps11
  go_wp2_with fail
  refine (pass_no q g bs k n _ H.out HN.out).mono ?_
  rintro e w1 ⟨rfl, m, rfl⟩
  go_wp2_with fail
  go_ret2
  exact ⟨rfl, _, rfl⟩

set_option maxHeartbeats 400000 in
theorem take_ok (q g : Nat) (bs : List UInt8) (k n : Nat) (w : World) (h : Rd w q g bs k) (hn : k + n ≤ bs.length) :
    Calls Try.prog 11 #[.pointer (some ⟨q, 0, none⟩), .int .i64 (n : Int)] w (TakePost q g bs k n w) := by
  have hl := h.2.2.2
  have H := Lib.hid h
  clear h
  go_enter Try.func11, Try.ntmps11
  go_wp2_with fail
  refine (pass_ok q g bs k n _ H.out hn).mono ?_
  rintro e w1 ⟨A, c, rfl, hh, hR, hK⟩
  have HH := Lib.hid hh
  have HR := Lib.hid hR
  clear hh hR
  go_wp2_with fail
  refine (fresh_any A n c _ _ _ HH.out (by rintro x rfl; exact HR.out.lt_g) (by omega)).mono ?_
  rintro e w2 ⟨rfl, hg, hb⟩
  have HG := Lib.hid hg
  clear hg
  go_wp2_with fail
  go_ret2
  exact ⟨_, rfl, hK.size, HG.out, HR.out.keep (hb.block _ HR.out.lt_q) (hb.block _ HR.out.lt_g), hK.trans (Kept.of_below hb _) (fun _ _ h => h)⟩

def NumPost (q g : Nat) (bs : List UInt8) (k n : Nat) (kd : IntKind) (v : Int) (w : World) (e : Ending) (w' : World) : Prop :=
  e = .returned (.tuple #[.int kd v, .bool true]) ∧ Rd w' q g bs (k + n) ∧ Kept (· = q) w w'

set_option maxHeartbeats 400000 in
theorem byte_no (q g : Nat) (bs : List UInt8) (k : Nat) (w : World) (h : Rd w q g bs k) (hn : bs.length ≤ k) :
    Calls Try.prog 10 #[.pointer (some ⟨q, 0, none⟩)] w (NoPost (.int .i64 0) w) := by
  have H := Lib.hid h
  clear h
  go_enter Try.func10, Try.ntmps10
  go_wp2_with fail
  refine (pass_no q g bs k 1 _ H.out (by omega)).mono ?_
  rintro e w1 ⟨rfl, m, rfl⟩
  go_wp2_with fail
  go_ret2
  exact ⟨rfl, _, rfl⟩

set_option maxHeartbeats 400000 in
theorem byte_ok (q g : Nat) (bs : List UInt8) (k : Nat) (w : World) (h : Rd w q g bs k) (hn : k < bs.length) :
    Calls Try.prog 10 #[.pointer (some ⟨q, 0, none⟩)] w (NumPost q g bs k 1 .i64 ((bs.getD k 0).toNat : Int) w) := by
  have hl := h.2.2.2
  have H := Lib.hid h
  clear h
  have hlt : (bs.getD k 0).toNat < 256 := (bs.getD k 0).toNat_lt
  obtain ⟨x, hx⟩ : ∃ x, x = (bs.getD k 0).toNat := ⟨_, rfl⟩
  rw [← hx] at hlt
  have HX := Lib.hid hx
  clear hx
  go_enter Try.func10, Try.ntmps10
  go_wp2_with fail
  refine (pass_ok q g bs k 1 _ H.out hn).mono ?_
  rintro e w1 ⟨A, c, rfl, hh, hR, hK⟩
  have HR := Lib.hid hR
  obtain ⟨b, o, rfl, rfl, hc⟩ := hh.2 (by omega)
  have hc0 := hc 0 (by omega)
  have e0 : ((bs.drop k).take 1).getD 0 0 = bs.getD k 0 := by simp [List.getD]
  rw [e0, Nat.add_zero] at hc0
  clear hh hR hc e0
  rw [← HX.out] at hc0
  go_wp2_with fail
  go_ret2
  exact ⟨by rw [← HX.out]; rfl, HR.out, hK⟩

theorem isWidth_yes (n : Int) (w : World) (h1 : 1 ≤ n) (h2 : n ≤ 8) :
    Calls Try.prog 31 #[.int .i64 n] w fun e w' => e = .returned (.bool true) ∧ w = w' := by
  have d1 : decide (1 ≤ n) = true := by simpa using h1
  have d2 : decide (n ≤ 8) = true := by simpa using h2
  go_enter Try.func31, Try.ntmps31
  go_wp2_with fail
  go_ret
  exact ⟨rfl, rfl⟩
theorem isWidth_no (n : Int) (w : World) (h : n < 1 ∨ 8 < n) :
    Calls Try.prog 31 #[.int .i64 n] w fun e w' => e = .returned (.bool false) ∧ w = w' := by
  by_cases h1 : n < 1
  · clear h
    have d1 : decide (1 ≤ n) = false := by simpa using h1
    go_enter Try.func31, Try.ntmps31
    go_wp2_with fail
    go_ret
    exact ⟨rfl, rfl⟩
  · have h2 : 8 < n := by omega
    clear h
    have d1 : decide (1 ≤ n) = true := by simp; omega
    have d2 : decide (n ≤ 8) = false := by simp; omega
    go_enter Try.func31, Try.ntmps31
    go_wp2_with fail
    go_ret
    exact ⟨rfl, rfl⟩

/-- When Low and High tell nothing. -/
def NoNum (bs : List UInt8) (k : Nat) (n : Int) : Prop := n < 1 ∨ 8 < n ∨ (bs.length : Int) - (k : Int) < n

set_option maxHeartbeats 400000 in
theorem number_no (q g : Nat) (bs : List UInt8) (k : Nat) (n : Int) (w : World) (h : Rd w q g bs k) (hn : NoNum bs k n) :
    Calls Try.prog 30 #[.pointer (some ⟨q, 0, none⟩), .int .i64 n] w (NoPost (.slice none 0 0) w) := by
  have H := Lib.hid h
  clear h
  by_cases hw : n < 1 ∨ 8 < n
  · have HW := Lib.hid hw
    clear hw hn
    go_enter Try.func30, Try.ntmps30
    go_wp2_with fail
    refine (isWidth_no n _ HW.out).mono ?_
    rintro e w1 ⟨rfl, rfl⟩
    go_wp2_with fail
    go_ret2
    exact ⟨rfl, 0, rfl⟩
  · have h1 : 1 ≤ n := by omega
    have h2 : n ≤ 8 := by omega
    have h3 : (bs.length : Int) - (k : Int) < n := by unfold NoNum at hn; omega
    clear hw hn
    go_enter Try.func30, Try.ntmps30
    go_wp2_with fail
    refine (isWidth_yes n _ h1 h2).mono ?_
    rintro e w1 ⟨rfl, rfl⟩
    go_wp2_with fail
    refine (pass_no q g bs k n _ H.out (.inr h3)).mono ?_
    rintro e w1 ⟨rfl, m, rfl⟩
    go_wp2_with fail
    go_ret2
    exact ⟨rfl, _, rfl⟩

set_option maxHeartbeats 400000 in
theorem number_ok (q g : Nat) (bs : List UInt8) (k n : Nat) (w : World) (h : Rd w q g bs k) (h1 : 1 ≤ n) (h8 : n ≤ 8) (hn : k + n ≤ bs.length) :
    Calls Try.prog 30 #[.pointer (some ⟨q, 0, none⟩), .int .i64 (n : Int)] w (PassPost q g bs k n w) := by
  have H := Lib.hid h
  clear h
  go_enter Try.func30, Try.ntmps30
  go_wp2_with fail
  refine (isWidth_yes n _ (by omega) (by omega)).mono ?_
  rintro e w1 ⟨rfl, rfl⟩
  go_wp2_with fail
  refine (pass_ok q g bs k n _ H.out hn).mono ?_
  rintro e w1 ⟨A, c, rfl, hh⟩
  have HH := Lib.hid hh
  clear hh
  go_wp2_with fail
  go_ret2
  exact ⟨A, c, rfl, HH.out⟩

end Go.Proofs.Ytfmkccimpmjmiaa
