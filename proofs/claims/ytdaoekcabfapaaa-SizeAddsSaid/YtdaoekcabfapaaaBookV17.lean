/-
  What the book's Value and Small do, for every tree: whether a tree is small, and what that says of it; no condition but bounds.
-/
import Derived.Test.YtdaoekcabfapaaaBook17

namespace Go.Proofs.Ytdaoekcabfapaaa
set_option maxRecDepth 100000
open Go.RowKit
mutual
/-- How much room is left behind a value; -1: none. -/
def roomT : Int → Tree → Int
  | a, .node o l => roomK (roomL a [2, o.text.length, o.more.length, o.bytes.length]) l
def roomK : Int → List (List UInt8 × Tree) → Int
  | a, [] => a
  | a, (n, t) :: l => if a < 0 then a else roomK (roomT (roomL a [n.length]) t) l
end
theorem roomT_le : ∀ (t : Tree) (a : Int), -1 ≤ a → -1 ≤ roomT a t ∧ roomT a t ≤ a := by
  refine Tree.ind ?_
  intro o l ih a h
  rw [roomT]
  have h1 := roomL_le [2, o.text.length, o.more.length, o.bytes.length] a h
  have q : ∀ m : List Kid, (∀ x ∈ m, x ∈ l) → ∀ a, -1 ≤ a → -1 ≤ roomK a m ∧ roomK a m ≤ a := fun m => by
    induction m with
    | nil => intro _ a h; rw [roomK]; exact ⟨h, Int.le_refl _⟩
    | cons x m ihm =>
      intro hm a h
      obtain ⟨n, t⟩ := x
      rw [roomK]
      split
      · exact ⟨h, Int.le_refl _⟩
      · have h2 := roomL_le [n.length] a h
        have h3 := ih (n, t) (hm _ (.head _)) (roomL a [n.length]) h2.1
        have h3 : -1 ≤ roomT (roomL a [n.length]) t ∧ roomT (roomL a [n.length]) t ≤ roomL a [n.length] := h3
        have h4 := ihm (fun y hy => hm y (.tail _ hy)) _ h3.1
        omega
  have h5 := q l (fun _ h => h) _ h1.1
  omega
theorem w63 {x : Int} {n : Nat} (h : x = (n : Int)) (h1 : n ≤ 9223372036854775807) : wrap64 x = (n : Int) := by subst h; unfold wrap64; omega
theorem roomK_step {a : Int} {l : List Kid} {k : Nat} (h : k < l.length) (ha : ¬ a < 0) : roomK a (l.drop k) = roomK (roomT (roomL a [(l[k]).1.length]) (l[k]).2) (l.drop (k + 1)) := by
  rw [List.drop_eq_getElem_cons h]
  obtain ⟨n, t⟩ := l[k]
  rw [roomK, if_neg ha]
theorem roomK_neg {a : Int} {l : List Kid} (ha : a < 0) : roomK a l = a := by
  cases l with
  | nil => rw [roomK]
  | cons x l => obtain ⟨n, t⟩ := x; rw [roomK, if_pos ha]
theorem cell_drew {V : World} {p : Addr} {v : Value} (h : V.cell? p = some v) : V.drew.cell? p = some v := h
theorem cell_past {V : World} {p : Addr} {v : Value} (o : Obj) (h : V.cell? p = some v) : (V.alloc o).cell? p = some v :=
  (((Below.refl V.heap.size V).alloc (Nat.le_refl _) o).cell (World.block_lt_of_cell? V p h)).trans h
theorem cell_low {V w' : World} {p : Addr} {v : Value} (B : Below V.heap.size V w') (h : V.cell? p = some v) : w'.cell? p = some v := (B.cell (World.block_lt_of_cell? V p h)).trans h
theorem ints_row {w : World} {g : Nat} {xs : List Nat} {t : TypeId} (h : w.heap[g]? = some (.cells (xs.map fun n : Nat => Value.int .i64 (n : Int)).toArray t (0, 0))) : Ints w (fun _ => True) (some ⟨g, 0, none⟩) xs.length (xs.map fun n : Nat => (n : Int)) := by
  refine ⟨by simp, fun _ => ⟨g, 0, rfl, trivial, fun i hi => ?_⟩⟩
  rw [block_cell h, nats_get hi]
  simp [List.getD, hi]
set_option maxHeartbeats 8000000 in
theorem value_any : ∀ (t : Tree) (cs : List Value) (w : World) (a : Int), -1 ≤ a → a ≤ 1000000 → TreeAt w (· < w.heap.size) t cs →
    Calls Try.prog 16 #[.int .i64 a, .agg cs.toArray] w fun e w' => e = .returned (.int .i64 (roomT a t)) ∧ Below w.heap.size w w' := by
  refine Tree.ind ?_
  intro o l ih cs w a ha0 ha1 hT
  obtain ⟨Ab, cb, Ak, ck, rfl, hfit, hlen, hbytes, hkids⟩ := hT.open_
  obtain ⟨R, hR⟩ : ∃ R, R = roomT a (.node o l) := ⟨_, rfl⟩
  rw [← hR]
  rw [roomT] at hR
  have B0 : Below w.heap.size w (w.alloc (.cells (cellsV o Ab cb Ak l.length ck).toArray 26)) := (Below.refl _ _).alloc (Nat.le_refl _) _
  have hb : (w.alloc (.cells (cellsV o Ab cb Ak l.length ck).toArray 26)).heap[w.heap.size]? = some (.cells (cellsV o Ab cb Ak l.length ck).toArray 26) := heap_alloc_new w _
  have HK := Lib.hid hkids
  have HI := Lib.hid ih
  have HL : Hid (l.length ≤ 9223372036854775807) := hlen
  have hr0 := roomL_le [2, o.text.length, o.more.length, o.bytes.length] a ha0
  obtain ⟨z0, hz0⟩ : ∃ z0, z0 = roomL a [2, o.text.length, o.more.length, o.bytes.length] := ⟨_, rfl⟩
  have cR := Lib.hid fun A c w M hI => room_any a A c [2, o.text.length, o.more.length, o.bytes.length] w M hI ha0 ha1 (by simp)
  rw [← hz0] at hr0 hR cR
  have HR : Hid (R = roomK z0 (l.drop 0)) := hR
  have HZ : Hid (-1 ≤ z0 ∧ z0 ≤ 1000000) := ⟨hr0.1, by omega⟩
  clear hR hr0 hz0 ha0 ha1 hfit hlen hbytes hkids ih hT
  unfold cellsV at *
  go_enter Try.func16, Try.ntmps16
  go_upto_region 1 with fail
  have HB0 := Lib.hid B0
  have Hb := Lib.hid hb
  generalize w.alloc (.cells #[.int .i64 o.kind, .int .u64 (o.bits : Int), .int .u64 (o.high : Int), .int .u64 (o.low : Int), .string ⟨o.text.toArray⟩, .string ⟨o.more.toArray⟩, .int .i64 o.sub, .slice Ab o.bytes.length cb, .slice Ak l.length ck] 26) = W at *
  have j4 : W.cell? ⟨w.heap.size, 4, none⟩ = some (.string ⟨o.text.toArray⟩) := by rw [block_cell hb]; rfl
  have j5 : W.cell? ⟨w.heap.size, 5, none⟩ = some (.string ⟨o.more.toArray⟩) := by rw [block_cell hb]; rfl
  have j7 : W.cell? ⟨w.heap.size, 7, none⟩ = some (.slice Ab o.bytes.length cb) := by rw [block_cell hb]; rfl
  clear B0 hb
  go_wp2_with fail
  have HB1 := Lib.hid (HB0.out.trans (((Below.refl W.heap.size W).alloc (Nat.le_refl _) (.cells #[.int .i64 2, .int .i64 (o.text.length : Int), .int .i64 (o.more.length : Int), .int .i64 (o.bytes.length : Int)] 3)).mono HB0.out.size))
  have Hb1 : Hid ((W.alloc (.cells #[.int .i64 2, .int .i64 (o.text.length : Int), .int .i64 (o.more.length : Int), .int .i64 (o.bytes.length : Int)] 3)).heap[w.heap.size]? = some (.cells #[.int .i64 o.kind, .int .u64 (o.bits : Int), .int .u64 (o.high : Int), .int .u64 (o.low : Int), .string ⟨o.text.toArray⟩, .string ⟨o.more.toArray⟩, .int .i64 o.sub, .slice Ab o.bytes.length cb, .slice Ak l.length ck] 26)) := show _ = _ from (((Below.refl W.heap.size W).alloc (Nat.le_refl _) _).block _ (block_lt Hb.out)).trans Hb.out
  have hI : Ints (W.alloc (.cells #[.int .i64 2, .int .i64 (o.text.length : Int), .int .i64 (o.more.length : Int), .int .i64 (o.bytes.length : Int)] 3)) (fun _ => True) (some ⟨W.heap.size, 0, none⟩) 4 ([2, o.text.length, o.more.length, o.bytes.length].map fun n : Nat => (n : Int)) := ints_row (xs := [2, o.text.length, o.more.length, o.bytes.length]) (heap_alloc_new W _)
  generalize W.alloc (.cells #[.int .i64 2, .int .i64 (o.text.length : Int), .int .i64 (o.more.length : Int), .int .i64 (o.bytes.length : Int)] 3) = W1 at *
  refine (cR.out _ _ W1 (fun _ => True) hI).mono ?_
  rintro e w1 ⟨rfl, hw1⟩
  subst w1
  clear hI
  clear j4 j5 j7 HB0 Hb cR
  go_wp2_with fail
  go_loopw [0, 5] (fun v i wr => (Below w.heap.size w wr ∧ wr.heap[w.heap.size]? = some (.cells #[.int .i64 o.kind, .int .u64 (o.bits : Int), .int .u64 (o.high : Int), .int .u64 (o.low : Int), .string ⟨o.text.toArray⟩, .string ⟨o.more.toArray⟩, .int .i64 o.sub, .slice Ab o.bytes.length cb, .slice Ak l.length ck] 26)) ∧ ∃ (k : Nat) (z : Int), k ≤ l.length ∧ i = .int .i64 (k : Int) ∧ v = .int .i64 z ∧ R = roomK z (l.drop k) ∧ -1 ≤ z ∧ z ≤ 1000000) (fun _ i _ => l.length - natV i)
  case atStart => exact ⟨⟨HB1.out, Hb1.out⟩, 0, z0, Nat.zero_le _, rfl, rfl, HR.out, HZ.out.1, HZ.out.2⟩
  case round =>
    obtain ⟨⟨hB, hb⟩, k, z, hk, rfl, rfl, hr, hz0, hz1⟩ := hrel
    have HB := Lib.hid hB
    have Hbb := Lib.hid hb
    have j8 : wr.cell? ⟨w.heap.size, 8, none⟩ = some (.slice Ak l.length ck) := by rw [block_cell hb]; rfl
    by_cases hlt : k < l.length
    · have d1 : decide ((k : Int) < (l.length : Int)) = true := decide_eq_true (by omega)
      have d1n : decide (k < l.length) = true := decide_eq_true hlt
      by_cases hzn : z < 0
      · have d2 : decide (0 ≤ z) = false := decide_eq_false (by omega)
        rw [roomK_neg hzn] at hr
        have HE := Lib.hid hr
        clear hr hzn hz0 hz1 hlt hk hB hb
        go_wp2_with fail
        go_ret
        exact ⟨by rw [HE.out]; rfl, HB.out⟩
      · have d2 : decide (0 ≤ z) = true := decide_eq_true (by omega)
        obtain ⟨b, off, rfl, hbl, hK⟩ := HK.out (fun e => by rw [e] at hlt; exact absurd hlt (Nat.not_lt_zero _))
        obtain ⟨c0, c1, c2, c3, c4, c5, c6, c7, c8, hn, hnl, ⟨p0, p1, p2, p3, p4, p5, p6, p7, p8⟩, hT2⟩ := kid_at hK hB hbl k hlt
        rw [roomK_step hlt hzn] at hr
        obtain ⟨nm, hnm⟩ : ∃ nm, nm = l[k].1 := ⟨_, rfl⟩
        obtain ⟨y, hy⟩ : ∃ y, y = roomL z [nm.length] := ⟨_, rfl⟩
        rw [← hnm] at hn hr
        rw [← hy] at hr
        have hyb := roomL_le [nm.length] z hz0
        rw [← hy] at hyb
        have hT3 : TreeAt (wr.alloc (.cells #[.int .i64 (nm.length : Int)] 3)).drew (· < (wr.alloc (.cells #[.int .i64 (nm.length : Int)] 3)).drew.heap.size) l[k].2 [c0, c1, c2, c3, c4, c5, c6, c7, c8] := by
          have q : Below wr.heap.size wr (wr.alloc (.cells #[.int .i64 (nm.length : Int)] 3)).drew := ((Below.refl wr.heap.size wr).alloc (Nat.le_refl _) _).drew
          exact TreeAt.weaken (fun j hj => Nat.lt_of_lt_of_le hj q.size) _ _ (TreeAt.keep (fun j hj => q.block j hj) _ _ hT2)
        have cV := Lib.hid (HI.out l[k] (List.getElem_mem hlt) _ _ y hyb.1 (by omega) hT3)
        obtain ⟨x, hx⟩ : ∃ x, x = roomT y l[k].2 := ⟨_, rfl⟩
        have hxb := roomT_le l[k].2 y hyb.1
        rw [← hx] at cV hr hxb
        have cR : Hid (Calls Try.prog 23 #[.int .i64 z, .slice (some ⟨wr.heap.size, 0, none⟩) 1 1] (wr.alloc (.cells #[.int .i64 (nm.length : Int)] 3)).drew fun e w' => e = .returned (.int .i64 (roomL z [nm.length])) ∧ w' = (wr.alloc (.cells #[.int .i64 (nm.length : Int)] 3)).drew) :=
          room_any z (some ⟨wr.heap.size, 0, none⟩) 1 [nm.length] (wr.alloc (.cells #[.int .i64 (nm.length : Int)] 3)).drew (fun _ => True) (ints_row (xs := [nm.length]) (heap_alloc_new wr _)) hz0 hz1 (by simp)
        rw [← hy] at cR
        have HE := Lib.hid hr
        have HX : Hid (-1 ≤ x ∧ x ≤ 1000000) := show _ ∧ _ from ⟨hxb.1, by omega⟩
        have HK1 : Hid (k + 1 ≤ l.length) := hlt
        have u2 : Hid (wrap64 ((k : Int) + 1) = ((k + 1 : Nat) : Int)) := show _ = _ from w63 (by omega) (by have := HL.out; omega)
        have HLT := Lib.hid (Nat.lt_of_lt_of_le hbl hB.size)
        clear hr hyb hy hx hxb hT2 hT3 hnl hnm hK hbl hzn hz0 hz1 hk hB hb
        go_upto_region 5 with fail
        have hlti : (k : Int) < (l.length : Int) := by omega
        have hlt0 : (0 : Int) ≤ (k : Int) := by omega
        go_region_held3 (fun V : World => V.cell? ⟨w.heap.size, 8, none⟩ = some (.slice (some ⟨b, off, none⟩) l.length ck) ∧ V.cell? ⟨b, off + k * 10, none⟩ = some (.string ⟨nm.toArray⟩) ∧ V.cell? ⟨b, off + k * 10 + 1, none⟩ = some c0 ∧ V.cell? ⟨b, off + k * 10 + 2, none⟩ = some c1 ∧ V.cell? ⟨b, off + k * 10 + 3, none⟩ = some c2 ∧ V.cell? ⟨b, off + k * 10 + 4, none⟩ = some c3 ∧ V.cell? ⟨b, off + k * 10 + 5, none⟩ = some c4 ∧ V.cell? ⟨b, off + k * 10 + 6, none⟩ = some c5 ∧ V.cell? ⟨b, off + k * 10 + 7, none⟩ = some c6 ∧ V.cell? ⟨b, off + k * 10 + 8, none⟩ = some c7 ∧ V.cell? ⟨b, off + k * 10 + 9, none⟩ = some c8)
          ((refine ⟨?_, ?_, ?_, ?_, ?_, ?_, ?_, ?_, ?_, ?_, ?_⟩ <;> (repeat (first | with_reducible refine cell_drew ?_ | with_reducible refine cell_past _ ?_ | with_reducible refine cell_low B2 ?_)) <;> (first | with_reducible exact j8 | with_reducible exact hn | with_reducible exact p0 | with_reducible exact p1 | with_reducible exact p2 | with_reducible exact p3 | with_reducible exact p4 | with_reducible exact p5 | with_reducible exact p6 | with_reducible exact p7 | with_reducible exact p8)))
          (first | (go_at_call 23; (with_reducible refine cR.out.mono ?_); rintro e w1 ⟨rfl, rfl⟩) | (go_at_call 16; (with_reducible refine cV.out.mono ?_); rintro e w2 ⟨rfl, B2⟩))
        have q0 : Below wr.heap.size wr (wr.alloc (.cells #[.int .i64 (nm.length : Int)] 3)).drew := ((Below.refl wr.heap.size wr).alloc (Nat.le_refl _) _).drew
        have q1 := low17 q0 B2
        have HB5 := Lib.hid (low17 HB.out q1)
        have Hb5 := Lib.hid ((q1.block _ (block_lt Hbb.out)).trans Hbb.out)
        clear q0 q1 B2 cV cR p0 p1 p2 p3 p4 p5 p6 p7 p8 j8 hn Hbb HB hlti hlt0 HLT
        go_wp2_with fail
        go_roundw
        case rel => exact ⟨⟨HB5.out, Hb5.out⟩, k + 1, x, HK1.out, by rw [u2.out], rfl, HE.out, HX.out.1, HX.out.2⟩
        case measure => rw [u2.out]; have := HK1.out; simp [natV]; omega
    · obtain rfl : k = l.length := by omega
      have d1 : decide ((l.length : Int) < (l.length : Int)) = false := decide_eq_false (by omega)
      have d1n : decide (l.length < l.length) = false := decide_eq_false (by omega)
      rw [List.drop_length, roomK] at hr
      have HE := Lib.hid hr
      clear hr hz0 hz1 hlt hk hB hb
      go_wp2_with fail
      go_ret
      exact ⟨by rw [HE.out]; rfl, HB.out⟩
/-- Small trees. -/
def smallB (t : Tree) : Bool := decide (0 ≤ roomT 1200 t)
set_option maxHeartbeats 1000000 in
theorem small_any (t : Tree) (c0 c1 c2 c3 c4 c5 c6 c7 c8 : Value) (w : World) (hT : TreeAt w (· < w.heap.size) t [c0, c1, c2, c3, c4, c5, c6, c7, c8]) :
    Calls Try.prog 8 #[.agg #[c0, c1, c2, c3, c4, c5, c6, c7, c8]] w fun e w' => e = .returned (.bool (smallB t)) ∧ Below w.heap.size w w' := by
  have B0 : Below w.heap.size w (w.alloc (.cells #[c0, c1, c2, c3, c4, c5, c6, c7, c8] 26)) := (Below.refl _ _).alloc (Nat.le_refl _) _
  have hb : (w.alloc (.cells #[c0, c1, c2, c3, c4, c5, c6, c7, c8] 26)).heap[w.heap.size]? = some (.cells #[c0, c1, c2, c3, c4, c5, c6, c7, c8] 26) := heap_alloc_new w _
  have hT2 : TreeAt (w.alloc (.cells #[c0, c1, c2, c3, c4, c5, c6, c7, c8] 26)) (· < (w.alloc (.cells #[c0, c1, c2, c3, c4, c5, c6, c7, c8] 26)).heap.size) t [c0, c1, c2, c3, c4, c5, c6, c7, c8] :=
    TreeAt.weaken (fun j hj => Nat.lt_of_lt_of_le hj B0.size) _ _ (TreeAt.keep (fun j hj => B0.block j hj) _ _ hT)
  have cV := Lib.hid (value_any t _ _ 1200 (by decide) (by decide) hT2)
  obtain ⟨r, hr⟩ : ∃ r, r = smallB t := ⟨_, rfl⟩
  rw [← hr]
  unfold smallB at hr
  generalize roomT 1200 t = x at *
  have d1 : decide (0 ≤ x) = r := hr.symm
  clear hT hT2 hr
  cases r
  all_goals
    go_enter Try.func8, Try.ntmps8
    go_upto_region 1 with fail
    have HB0 := Lib.hid B0
    generalize w.alloc (.cells #[c0, c1, c2, c3, c4, c5, c6, c7, c8] 26) = W at *
    have j0 : W.cell? ⟨w.heap.size, 0, none⟩ = some c0 := by rw [block_cell hb]; rfl
    have j1 : W.cell? ⟨w.heap.size, 1, none⟩ = some c1 := by rw [block_cell hb]; rfl
    have j2 : W.cell? ⟨w.heap.size, 2, none⟩ = some c2 := by rw [block_cell hb]; rfl
    have j3 : W.cell? ⟨w.heap.size, 3, none⟩ = some c3 := by rw [block_cell hb]; rfl
    have j4 : W.cell? ⟨w.heap.size, 4, none⟩ = some c4 := by rw [block_cell hb]; rfl
    have j5 : W.cell? ⟨w.heap.size, 5, none⟩ = some c5 := by rw [block_cell hb]; rfl
    have j6 : W.cell? ⟨w.heap.size, 6, none⟩ = some c6 := by rw [block_cell hb]; rfl
    have j7 : W.cell? ⟨w.heap.size, 7, none⟩ = some c7 := by rw [block_cell hb]; rfl
    have j8 : W.cell? ⟨w.heap.size, 8, none⟩ = some c8 := by rw [block_cell hb]; rfl
    clear B0 hb
    go_wp2_with fail
    refine (cV.out).mono ?_
    rintro e w1 ⟨rfl, B1⟩
    have HB1 := Lib.hid (low17 HB0.out B1)
    clear B1 cV j0 j1 j2 j3 j4 j5 j6 j7 j8
    go_wp2_with fail
    go_ret
    exact ⟨by first | rfl | (simp; done), HB1.out⟩
/-- What a small tree is: few values, short texts. -/
theorem small_bounds : ∀ (t : Tree) (a : Int), -1 ≤ a → 0 ≤ roomT a t → 2 * (cntT t : Int) + roomT a t ≤ a := by
  refine Tree.ind ?_
  intro o l ih a h
  rw [roomT, cntT]
  have h1 := roomL_le [2, o.text.length, o.more.length, o.bytes.length] a h
  have h2 : 0 ≤ roomL a [2, o.text.length, o.more.length, o.bytes.length] → roomL a [2, o.text.length, o.more.length, o.bytes.length] + 2 ≤ a := by
    intro g
    rw [roomL] at g ⊢
    split at g
    · omega
    · rw [if_neg (by assumption)]
      have := roomL_le [o.text.length, o.more.length, o.bytes.length] (a - ((2 : Nat) : Int)) (by omega)
      omega
  generalize roomL a [2, o.text.length, o.more.length, o.bytes.length] = z at *
  have q : ∀ m : List Kid, (∀ x ∈ m, x ∈ l) → ∀ a, -1 ≤ a → 0 ≤ roomK a m → 2 * (cntK m : Int) + roomK a m ≤ a := fun m => by
    induction m with
    | nil => intro _ a h g; rw [roomK] at g ⊢; rw [cntK]; omega
    | cons x m ihm =>
      intro hm a h g
      obtain ⟨n, t⟩ := x
      rw [roomK] at g ⊢
      rw [cntK]
      split at g
      · omega
      · rw [if_neg (by assumption)]
        have h2 := roomL_le [n.length] a h
        have h3 := roomT_le t (roomL a [n.length]) h2.1
        have h4 := ihm (fun y hy => hm y (.tail _ hy)) _ h3.1 g
        have h5 : 0 ≤ roomT (roomL a [n.length]) t := by
          rcases Int.lt_or_le (roomT (roomL a [n.length]) t) 0 with q | q
          · rw [roomK_neg q] at g; omega
          · exact q
        have h6 : 2 * (cntT t : Int) + roomT (roomL a [n.length]) t ≤ roomL a [n.length] := ih (n, t) (hm _ (.head _)) _ h2.1 h5
        omega
  intro g
  have h3 : 0 ≤ z := by
    rcases Int.lt_or_le z 0 with p | p
    · rw [roomK_neg p] at g; omega
    · exact p
  have h4 := q l (fun _ h => h) z h1.1 g
  have h5 := h2 h3
  omega
theorem small_cnt {t : Tree} (h : smallB t = true) : cntT t ≤ 600 := by
  have h1 : 0 ≤ roomT 1200 t := of_decide_eq_true h
  have := small_bounds t 1200 (by decide) h1
  omega
end Go.Proofs.Ytdaoekcabfapaaa
