/-
  What the document's Own does (chapter 17): are two values alike, their Kids apart; no condition but bounds.
-/
import Derived.Test.YtmkgcifcfgfegaaBookV17

namespace Go.Proofs.Ytmkgcifcfgfegaa
set_option maxRecDepth 100000
open Go.RowKit
theorem str_bytes {A : Option Addr} {n : Nat} {bs : List UInt8} {w : World} {M : Nat → Prop} (h : Held w M A n bs) (c : Nat) : (convert 23 9 (.slice A n c)).run Try.prog w = .ok (.string ⟨bs.toArray⟩) w :=
  run_string _ _ _ Try.underlying23 Try.underlying5 Try.underlying9 h c
/-- First where two values part. -/
theorem own_parts (o p : OwnV) (r : Bool) (hr : r = decide (o = p)) :
    ((o.kind == p.kind) = false ∧ r = false) ∨ ((o.kind == p.kind) = true ∧ ((o.bits : Int) == (p.bits : Int)) = false ∧ r = false) ∨
    ((o.kind == p.kind) = true ∧ ((o.bits : Int) == (p.bits : Int)) = true ∧ ((o.high : Int) == (p.high : Int)) = false ∧ r = false) ∨
    ((o.kind == p.kind) = true ∧ ((o.bits : Int) == (p.bits : Int)) = true ∧ ((o.high : Int) == (p.high : Int)) = true ∧ ((o.low : Int) == (p.low : Int)) = false ∧ r = false) ∨
    ((o.kind == p.kind) = true ∧ ((o.bits : Int) == (p.bits : Int)) = true ∧ ((o.high : Int) == (p.high : Int)) = true ∧ ((o.low : Int) == (p.low : Int)) = true ∧ (o.text == p.text) = false ∧ r = false) ∨
    ((o.kind == p.kind) = true ∧ ((o.bits : Int) == (p.bits : Int)) = true ∧ ((o.high : Int) == (p.high : Int)) = true ∧ ((o.low : Int) == (p.low : Int)) = true ∧ (o.text == p.text) = true ∧ (o.more == p.more) = false ∧ r = false) ∨
    ((o.kind == p.kind) = true ∧ ((o.bits : Int) == (p.bits : Int)) = true ∧ ((o.high : Int) == (p.high : Int)) = true ∧ ((o.low : Int) == (p.low : Int)) = true ∧ (o.text == p.text) = true ∧ (o.more == p.more) = true ∧ (o.sub == p.sub) = false ∧ r = false) ∨
    ((o.kind == p.kind) = true ∧ ((o.bits : Int) == (p.bits : Int)) = true ∧ ((o.high : Int) == (p.high : Int)) = true ∧ ((o.low : Int) == (p.low : Int)) = true ∧ (o.text == p.text) = true ∧ (o.more == p.more) = true ∧ (o.sub == p.sub) = true ∧ (o.bytes == p.bytes) = r) := by
  obtain ⟨a1, a2, a3, a4, a5, a6, a7, a8⟩ := o
  obtain ⟨b1, b2, b3, b4, b5, b6, b7, b8⟩ := p
  simp only [OwnV.mk.injEq] at hr
  simp only [beq_eq_false_iff_ne, beq_iff_eq, ne_eq]
  by_cases h1 : a1 = b1
  · by_cases h2 : a2 = b2
    · by_cases h3 : a3 = b3
      · by_cases h4 : a4 = b4
        · by_cases h5 : a5 = b5
          · by_cases h6 : a6 = b6
            · by_cases h7 : a7 = b7
              · simp only [h1, h2, h3, h4, h5, h6, h7, true_and] at hr
                refine .inr (.inr (.inr (.inr (.inr (.inr (.inr ⟨h1, by omega, by omega, by omega, h5, h6, h7, ?_⟩))))))
                rw [hr, Bool.eq_iff_iff]
                simp
              · exact .inr (.inr (.inr (.inr (.inr (.inr (.inl ⟨h1, by omega, by omega, by omega, h5, h6, h7, by rw [hr]; exact decide_eq_false (fun h => h7 h.2.2.2.2.2.2.1)⟩))))))
            · exact .inr (.inr (.inr (.inr (.inr (.inl ⟨h1, by omega, by omega, by omega, h5, h6, by rw [hr]; exact decide_eq_false (fun h => h6 h.2.2.2.2.2.1)⟩)))))
          · exact .inr (.inr (.inr (.inr (.inl ⟨h1, by omega, by omega, by omega, h5, by rw [hr]; exact decide_eq_false (fun h => h5 h.2.2.2.2.1)⟩))))
        · exact .inr (.inr (.inr (.inl ⟨h1, by omega, by omega, by omega, by rw [hr]; exact decide_eq_false (fun h => h4 h.2.2.2.1)⟩)))
      · exact .inr (.inr (.inl ⟨h1, by omega, by omega, by rw [hr]; exact decide_eq_false (fun h => h3 h.2.2.1)⟩))
    · exact .inr (.inl ⟨h1, by omega, by rw [hr]; exact decide_eq_false (fun h => h2 h.2.1)⟩)
  · exact .inl ⟨h1, by rw [hr]; exact decide_eq_false (fun h => h1 h.1)⟩
set_option maxHeartbeats 8000000 in
theorem refOwn_any (o p : OwnV) (Ab Ak Bb Bk : Option Addr) (cb nk ck db mk dk : Nat) (w : World) (hA : Held w (· < w.heap.size) Ab o.bytes.length o.bytes) (hB : Held w (· < w.heap.size) Bb p.bytes.length p.bytes) :
    Calls Try.prog 25 #[.agg (cellsV o Ab cb Ak nk ck).toArray, .agg (cellsV p Bb db Bk mk dk).toArray] w fun e w' => e = .returned (.bool (decide (o = p))) ∧ Below w.heap.size w w' := by
  obtain ⟨r, hr⟩ : ∃ r, r = decide (o = p) := ⟨_, rfl⟩
  have C := own_parts o p r hr
  rw [← hr]
  clear hr
  have b1 : Below w.heap.size w (w.alloc (.cells (cellsV o Ab cb Ak nk ck).toArray 26)) := (Below.refl _ _).alloc (Nat.le_refl _) _
  have b2 : Below w.heap.size w ((w.alloc (.cells (cellsV o Ab cb Ak nk ck).toArray 26)).alloc (.cells (cellsV p Bb db Bk mk dk).toArray 26)) := b1.alloc (by simp) _
  have g2 : ((w.alloc (.cells (cellsV o Ab cb Ak nk ck).toArray 26)).alloc (.cells (cellsV p Bb db Bk mk dk).toArray 26)).heap[w.heap.size + 1]? = some (.cells (cellsV p Bb db Bk mk dk).toArray 26) := by
    have := heap_alloc_new (w.alloc (.cells (cellsV o Ab cb Ak nk ck).toArray 26)) (.cells (cellsV p Bb db Bk mk dk).toArray 26)
    simpa using this
  have g1 : ((w.alloc (.cells (cellsV o Ab cb Ak nk ck).toArray 26)).alloc (.cells (cellsV p Bb db Bk mk dk).toArray 26)).heap[w.heap.size]? = some (.cells (cellsV o Ab cb Ak nk ck).toArray 26) :=
    (Below.heap_alloc _ _ _ (by simp)).trans (heap_alloc_new w _)
  have hA2 := hA.keep (fun k hk => b2.block k hk)
  have hB2 := hB.keep (fun k hk => b2.block k hk)
  unfold cellsV at *
  have HB2 := Lib.hid b2
  clear b1 b2 hA hB
  rcases C with ⟨e1, rfl⟩ | ⟨e1, e2, rfl⟩ | ⟨e1, e2, e3, rfl⟩ | ⟨e1, e2, e3, e4, rfl⟩ | ⟨e1, e2, e3, e4, e5, rfl⟩ | ⟨e1, e2, e3, e4, e5, e6, rfl⟩ | ⟨e1, e2, e3, e4, e5, e6, e7, rfl⟩ | ⟨e1, e2, e3, e4, e5, e6, e7, e8⟩
  rotate_left 7
  · cases r
    all_goals
      go_enter Try.func25, Try.ntmps25
      go_upto_region 1 with fail
      generalize (w.alloc (.cells #[.int .i64 o.kind, .int .u64 (o.bits : Int), .int .u64 (o.high : Int), .int .u64 (o.low : Int), .string ⟨o.text.toArray⟩, .string ⟨o.more.toArray⟩, .int .i64 o.sub, .slice Ab o.bytes.length cb, .slice Ak nk ck] 26)).alloc (.cells #[.int .i64 p.kind, .int .u64 (p.bits : Int), .int .u64 (p.high : Int), .int .u64 (p.low : Int), .string ⟨p.text.toArray⟩, .string ⟨p.more.toArray⟩, .int .i64 p.sub, .slice Bb p.bytes.length db, .slice Bk mk dk] 26) = W at *
      have x1 := str_bytes hA2 cb
      have x2 := str_bytes hB2 db
      have i0 : W.cell? ⟨w.heap.size, 0, none⟩ = some (.int .i64 o.kind) := by rw [block_cell g1]; rfl
      have i1 : W.cell? ⟨w.heap.size, 1, none⟩ = some (.int .u64 (o.bits : Int)) := by rw [block_cell g1]; rfl
      have i2 : W.cell? ⟨w.heap.size, 2, none⟩ = some (.int .u64 (o.high : Int)) := by rw [block_cell g1]; rfl
      have i3 : W.cell? ⟨w.heap.size, 3, none⟩ = some (.int .u64 (o.low : Int)) := by rw [block_cell g1]; rfl
      have i4 : W.cell? ⟨w.heap.size, 4, none⟩ = some (.string ⟨o.text.toArray⟩) := by rw [block_cell g1]; rfl
      have i5 : W.cell? ⟨w.heap.size, 5, none⟩ = some (.string ⟨o.more.toArray⟩) := by rw [block_cell g1]; rfl
      have i6 : W.cell? ⟨w.heap.size, 6, none⟩ = some (.int .i64 o.sub) := by rw [block_cell g1]; rfl
      have i7 : W.cell? ⟨w.heap.size, 7, none⟩ = some (.slice Ab o.bytes.length cb) := by rw [block_cell g1]; rfl
      have j0 : W.cell? ⟨w.heap.size + 1, 0, none⟩ = some (.int .i64 p.kind) := by rw [block_cell g2]; rfl
      have j1 : W.cell? ⟨w.heap.size + 1, 1, none⟩ = some (.int .u64 (p.bits : Int)) := by rw [block_cell g2]; rfl
      have j2 : W.cell? ⟨w.heap.size + 1, 2, none⟩ = some (.int .u64 (p.high : Int)) := by rw [block_cell g2]; rfl
      have j3 : W.cell? ⟨w.heap.size + 1, 3, none⟩ = some (.int .u64 (p.low : Int)) := by rw [block_cell g2]; rfl
      have j4 : W.cell? ⟨w.heap.size + 1, 4, none⟩ = some (.string ⟨p.text.toArray⟩) := by rw [block_cell g2]; rfl
      have j5 : W.cell? ⟨w.heap.size + 1, 5, none⟩ = some (.string ⟨p.more.toArray⟩) := by rw [block_cell g2]; rfl
      have j6 : W.cell? ⟨w.heap.size + 1, 6, none⟩ = some (.int .i64 p.sub) := by rw [block_cell g2]; rfl
      have j7 : W.cell? ⟨w.heap.size + 1, 7, none⟩ = some (.slice Bb p.bytes.length db) := by rw [block_cell g2]; rfl
      clear hA2 hB2 g1 g2
      go_wp2_with fail
      go_ret
      exact ⟨by first | rfl | (simp; done), HB2.out⟩
  all_goals
    go_enter Try.func25, Try.ntmps25
    go_upto_region 1 with fail
    generalize (w.alloc (.cells #[.int .i64 o.kind, .int .u64 (o.bits : Int), .int .u64 (o.high : Int), .int .u64 (o.low : Int), .string ⟨o.text.toArray⟩, .string ⟨o.more.toArray⟩, .int .i64 o.sub, .slice Ab o.bytes.length cb, .slice Ak nk ck] 26)).alloc (.cells #[.int .i64 p.kind, .int .u64 (p.bits : Int), .int .u64 (p.high : Int), .int .u64 (p.low : Int), .string ⟨p.text.toArray⟩, .string ⟨p.more.toArray⟩, .int .i64 p.sub, .slice Bb p.bytes.length db, .slice Bk mk dk] 26) = W at *
    have x1 := str_bytes hA2 cb
    have x2 := str_bytes hB2 db
    have i0 : W.cell? ⟨w.heap.size, 0, none⟩ = some (.int .i64 o.kind) := by rw [block_cell g1]; rfl
    have i1 : W.cell? ⟨w.heap.size, 1, none⟩ = some (.int .u64 (o.bits : Int)) := by rw [block_cell g1]; rfl
    have i2 : W.cell? ⟨w.heap.size, 2, none⟩ = some (.int .u64 (o.high : Int)) := by rw [block_cell g1]; rfl
    have i3 : W.cell? ⟨w.heap.size, 3, none⟩ = some (.int .u64 (o.low : Int)) := by rw [block_cell g1]; rfl
    have i4 : W.cell? ⟨w.heap.size, 4, none⟩ = some (.string ⟨o.text.toArray⟩) := by rw [block_cell g1]; rfl
    have i5 : W.cell? ⟨w.heap.size, 5, none⟩ = some (.string ⟨o.more.toArray⟩) := by rw [block_cell g1]; rfl
    have i6 : W.cell? ⟨w.heap.size, 6, none⟩ = some (.int .i64 o.sub) := by rw [block_cell g1]; rfl
    have i7 : W.cell? ⟨w.heap.size, 7, none⟩ = some (.slice Ab o.bytes.length cb) := by rw [block_cell g1]; rfl
    have j0 : W.cell? ⟨w.heap.size + 1, 0, none⟩ = some (.int .i64 p.kind) := by rw [block_cell g2]; rfl
    have j1 : W.cell? ⟨w.heap.size + 1, 1, none⟩ = some (.int .u64 (p.bits : Int)) := by rw [block_cell g2]; rfl
    have j2 : W.cell? ⟨w.heap.size + 1, 2, none⟩ = some (.int .u64 (p.high : Int)) := by rw [block_cell g2]; rfl
    have j3 : W.cell? ⟨w.heap.size + 1, 3, none⟩ = some (.int .u64 (p.low : Int)) := by rw [block_cell g2]; rfl
    have j4 : W.cell? ⟨w.heap.size + 1, 4, none⟩ = some (.string ⟨p.text.toArray⟩) := by rw [block_cell g2]; rfl
    have j5 : W.cell? ⟨w.heap.size + 1, 5, none⟩ = some (.string ⟨p.more.toArray⟩) := by rw [block_cell g2]; rfl
    have j6 : W.cell? ⟨w.heap.size + 1, 6, none⟩ = some (.int .i64 p.sub) := by rw [block_cell g2]; rfl
    have j7 : W.cell? ⟨w.heap.size + 1, 7, none⟩ = some (.slice Bb p.bytes.length db) := by rw [block_cell g2]; rfl
    clear hA2 hB2 g1 g2
    go_wp2_with fail
    go_ret
    exact ⟨by first | rfl | (simp; done), HB2.out⟩
end Go.Proofs.Ytmkgcifcfgfegaa
