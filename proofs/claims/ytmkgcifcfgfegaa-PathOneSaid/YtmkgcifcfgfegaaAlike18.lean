/-
  What the program's isAlike does (chapter 18): are two values alike, their Kids apart; no condition.
-/
import Derived.Test.YtmkgcifcfgfegaaCodeV18
import Derived.Test.YtmkgcifcfgfegaaPathPure
namespace Go.Proofs.Ytmkgcifcfgfegaa
set_option maxRecDepth 100000
open Go.RowKit

theorem bare_at {w : World} {M : Nat → Prop} {o : OwnV} {Ab : Option Addr} {cb : Nat} (hf : OwnFits o) (hb : Held w M Ab o.bytes.length o.bytes) : TreeAt w M (.node o []) (cellsV o Ab cb none 0 0) := by
  rw [TreeAt]
  exact ⟨Ab, cb, none, 0, rfl, hf, Nat.zero_le _, hb, fun h => absurd rfl h⟩
theorem same_bare (o p : OwnV) : sameT (.node o []) (.node p []) = decide (o = p) := by
  rw [sameT, sameK] <;> simp
set_option maxHeartbeats 4000000 in
theorem alike_any (o p : OwnV) (l m : List Kid) (cs ds : List Value) (w : World) (hT : TreeAt w (· < w.heap.size) (.node o l) cs) (hU : TreeAt w (· < w.heap.size) (.node p m) ds) :
    Calls Try.prog 41 #[.agg cs.toArray, .agg ds.toArray] w fun e w' => e = .returned (.bool (decide (o = p))) ∧ Below w.heap.size w w' := by
  obtain ⟨Ab, cb, Ak, ck, rfl, f1, _, h1, _⟩ := hT.open_
  obtain ⟨Bb, db, Bk, dk, rfl, f2, _, h2, _⟩ := hU.open_
  have F1 := Lib.hid f1
  have F2 := Lib.hid f2
  have H1 := Lib.hid h1
  have H2 := Lib.hid h2
  clear hT hU f1 f2 h1 h2
  unfold cellsV at *
  go_enter Try.func41, Try.ntmps41
  go_upto_region 2 with fail
  have B2 : Below w.heap.size w ((w.alloc (.cells #[.int .i64 o.kind, .int .u64 (o.bits : Int), .int .u64 (o.high : Int), .int .u64 (o.low : Int), .string ⟨o.text.toArray⟩, .string ⟨o.more.toArray⟩, .int .i64 o.sub, .slice Ab o.bytes.length cb, .slice none 0 0] 26)).alloc (.cells #[.int .i64 p.kind, .int .u64 (p.bits : Int), .int .u64 (p.high : Int), .int .u64 (p.low : Int), .string ⟨p.text.toArray⟩, .string ⟨p.more.toArray⟩, .int .i64 p.sub, .slice Bb p.bytes.length db, .slice none 0 0] 26)) := two_new2 _ _ _
  have HB2 := Lib.hid B2
  have cS := Lib.hid (sameV_any (.node o []) (.node p []) _ _ ((w.alloc (.cells #[.int .i64 o.kind, .int .u64 (o.bits : Int), .int .u64 (o.high : Int), .int .u64 (o.low : Int), .string ⟨o.text.toArray⟩, .string ⟨o.more.toArray⟩, .int .i64 o.sub, .slice Ab o.bytes.length cb, .slice none 0 0] 26)).alloc (.cells #[.int .i64 p.kind, .int .u64 (p.bits : Int), .int .u64 (p.high : Int), .int .u64 (p.low : Int), .string ⟨p.text.toArray⟩, .string ⟨p.more.toArray⟩, .int .i64 p.sub, .slice Bb p.bytes.length db, .slice none 0 0] 26)) (bare_at (cb := cb) F1.out (held_up H1.out B2)) (bare_at (cb := db) F2.out (held_up H2.out B2)))
  rw [same_bare] at cS
  unfold cellsV at cS
  clear B2
  go_wp2_with fail
  refine (cS.out).mono ?_
  rintro e w5 ⟨rfl, B5⟩
  have HB5 := Lib.hid (low17 HB2.out B5)
  clear B5 cS
  go_wp2_with fail
  go_ret
  exact ⟨rfl, HB5.out⟩
end Go.Proofs.Ytmkgcifcfgfegaa
