/-
  What the program's sameFields and same do (chapter 17), for every two trees that pointers lead to; no condition but bounds.
-/
import Derived.Test.YtmkgcifcfgfegaaValAt17

namespace Go.Proofs.Ytmkgcifcfgfegaa
set_option maxRecDepth 100000
open Go.RowKit
theorem equal_any (A B : Option Addr) (n c m d : Nat) (xs ys : List UInt8) (w : World) {M N : Nat → Prop} (hA : Held w M A n xs) (hB : Held w N B m ys) :
    Calls Try.prog 46 #[.slice A n c, .slice B m d] w fun e w' => e = .returned (.bool (xs == ys)) ∧ w' = w := by
  have x1 := str_bytes hA c
  have x2 := str_bytes hB d
  obtain ⟨r, hr⟩ : ∃ r, r = (xs == ys) := ⟨_, rfl⟩
  rw [← hr]
  have h2 := hr.symm
  clear hA hB hr
  cases r
  all_goals
    go_enter Try.func46, Try.ntmps46
    go_wp2_with fail
    go_ret
    exact ⟨by first | rfl | (simp; done), rfl⟩
set_option maxHeartbeats 8000000 in
theorem sameFields_any (o p : OwnV) (Ab Bb : Option Addr) (cb db b off b' off' : Nat) (w : World)
    (i0 : w.cell? ⟨b, off, none⟩ = some (.int .i64 o.kind)) (i1 : w.cell? ⟨b, off + 1, none⟩ = some (.int .u64 (o.bits : Int))) (i2 : w.cell? ⟨b, off + 2, none⟩ = some (.int .u64 (o.high : Int))) (i3 : w.cell? ⟨b, off + 3, none⟩ = some (.int .u64 (o.low : Int))) (i4 : w.cell? ⟨b, off + 4, none⟩ = some (.string ⟨o.text.toArray⟩)) (i5 : w.cell? ⟨b, off + 5, none⟩ = some (.string ⟨o.more.toArray⟩)) (i6 : w.cell? ⟨b, off + 6, none⟩ = some (.int .i64 o.sub)) (i7 : w.cell? ⟨b, off + 7, none⟩ = some (.slice Ab o.bytes.length cb))
    (j0 : w.cell? ⟨b', off', none⟩ = some (.int .i64 p.kind)) (j1 : w.cell? ⟨b', off' + 1, none⟩ = some (.int .u64 (p.bits : Int))) (j2 : w.cell? ⟨b', off' + 2, none⟩ = some (.int .u64 (p.high : Int))) (j3 : w.cell? ⟨b', off' + 3, none⟩ = some (.int .u64 (p.low : Int))) (j4 : w.cell? ⟨b', off' + 4, none⟩ = some (.string ⟨p.text.toArray⟩)) (j5 : w.cell? ⟨b', off' + 5, none⟩ = some (.string ⟨p.more.toArray⟩)) (j6 : w.cell? ⟨b', off' + 6, none⟩ = some (.int .i64 p.sub)) (j7 : w.cell? ⟨b', off' + 7, none⟩ = some (.slice Bb p.bytes.length db))
    (hA : Held w (· < w.heap.size) Ab o.bytes.length o.bytes) (hB : Held w (· < w.heap.size) Bb p.bytes.length p.bytes) :
    Calls Try.prog 45 #[.pointer (some ⟨b, off, none⟩), .pointer (some ⟨b', off', none⟩)] w fun e w' => e = .returned (.bool (decide (o = p))) ∧ Below w.heap.size w w' := by
  obtain ⟨r, hr⟩ : ∃ r, r = decide (o = p) := ⟨_, rfl⟩
  have C := own_parts o p r hr
  have cE : Hid (∀ d os, Calls Try.prog 46 #[.slice Ab o.bytes.length cb, .slice Bb p.bytes.length db] (Sort.grow (redrawn w d) os) fun x w'' => x = .returned (.bool (o.bytes == p.bytes)) ∧ ∃ q : Regrown, w'' = Sort.grow (redrawn w q.d) q.os) := fun d os =>
    Calls.regrown_of ((equal_any Ab Bb _ cb _ db _ _ _ (hA.keep fun k hk => (below_regrown w d os).block k hk) (hB.keep fun k hk => (below_regrown w d os).block k hk)).mono fun e w' ⟨h1, h2⟩ => ⟨h1, by rw [h2]; exact Below.refl _ _⟩)
  rw [← hr]
  clear hr hA hB
  rcases C with ⟨e1, rfl⟩ | ⟨e1, e2, rfl⟩ | ⟨e1, e2, e3, rfl⟩ | ⟨e1, e2, e3, e4, rfl⟩ | ⟨e1, e2, e3, e4, e5, rfl⟩ | ⟨e1, e2, e3, e4, e5, e6, rfl⟩ | ⟨e1, e2, e3, e4, e5, e6, e7, rfl⟩ | ⟨e1, e2, e3, e4, e5, e6, e7, e8⟩
  rotate_left 7
  · rw [e8] at cE
    clear e8
    go_enter Try.func45, Try.ntmps45
    go_upto_region 1 with fail
    have i0 := cell_regrown i0; have j0 := cell_regrown j0
    have i1 := cell_regrown i1; have j1 := cell_regrown j1
    have i2 := cell_regrown i2; have j2 := cell_regrown j2
    have i3 := cell_regrown i3; have j3 := cell_regrown j3
    have i4 := cell_regrown i4; have j4 := cell_regrown j4
    have i5 := cell_regrown i5; have j5 := cell_regrown j5
    have i6 := cell_regrown i6; have j6 := cell_regrown j6
    have i7 := cell_regrown i7; have j7 := cell_regrown j7
    refine wp_region_quiet_below (by kernel_rfl) (by kernel_rfl) ?_
    simp only [List.append]
    repeat (go_big_quiet_step (first | with_reducible exact cE.out _ _))
    refine wpQuiet_nil ?_
    intro _ hw'
    obtain ⟨⟨dq, osq⟩, hw''⟩ := hw'
    subst hw''
    have HB5 := Lib.hid (below_regrown w dq osq)
    go_wp2_with fail
    go_ret
    exact ⟨by first | rfl | (simp; done), HB5.out⟩
  all_goals
    clear cE
    go_enter Try.func45, Try.ntmps45
    go_upto_region 1 with fail
    have i0 := cell_regrown i0; have j0 := cell_regrown j0
    have i1 := cell_regrown i1; have j1 := cell_regrown j1
    have i2 := cell_regrown i2; have j2 := cell_regrown j2
    have i3 := cell_regrown i3; have j3 := cell_regrown j3
    have i4 := cell_regrown i4; have j4 := cell_regrown j4
    have i5 := cell_regrown i5; have j5 := cell_regrown j5
    have i6 := cell_regrown i6; have j6 := cell_regrown j6
    have i7 := cell_regrown i7; have j7 := cell_regrown j7
    refine wp_region_quiet_below (by kernel_rfl) (by kernel_rfl) ?_
    simp only [List.append]
    repeat (go_big_quiet_step (fail))
    refine wpQuiet_nil ?_
    intro _ hw'
    obtain ⟨⟨dq, osq⟩, hw''⟩ := hw'
    subst hw''
    have HB5 := Lib.hid (below_regrown w dq osq)
    go_wp2_with fail
    go_ret
    exact ⟨by first | rfl | (simp; done), HB5.out⟩
end Go.Proofs.Ytmkgcifcfgfegaa
