/-
  What the program's copied does (chapter 18): the same tree in lists of its own, for every tree; by induction over trees, no condition but bounds.
-/
import Derived.Test.YtmkgcifcfgfegaaClone18
import Derived.Test.YtmkgcifcfgfegaaBrief18
import Derived.Test.YtmkgcifcfgfegaaWith17
namespace Go.Proofs.Ytmkgcifcfgfegaa
set_option maxRecDepth 100000
open Go.RowKit

/-- The Kids in another block. -/
theorem kids_moved {w w' : World} {M M' : Nat → Prop} {b off g : Nat} {l : List Kid} (hK : KidsAt w M b off l) (hc : ∀ j, j < l.length * 10 → w'.cell? ⟨g, j, none⟩ = w.cell? ⟨b, off + j, none⟩) (hk : ∀ k, M k → w'.heap[k]? = w.heap[k]?) (hm : ∀ k, M k → M' k) : KidsAt w' M' g 0 l := by
  refine kids_iff fun m hm2 => ?_
  obtain ⟨h1, h2, cs, h3, h4, h5⟩ := kids_get hK m hm2
  refine ⟨?_, h2, cs, h3, fun j hj => ?_, TreeAt.weaken hm _ _ (h5.keep hk _ _)⟩
  · rw [Nat.zero_add, hc (m * 10) (by omega)]; exact h1
  · rw [show 0 + m * 10 + 1 + j = m * 10 + 1 + j by omega, hc (m * 10 + 1 + j) (by omega), ← h4 j hj]
    rw [show off + (m * 10 + 1 + j) = off + m * 10 + 1 + j by omega]
theorem kids_keep {w w' : World} {M M' : Nat → Prop} {b off : Nat} {l : List Kid} (hb : w'.heap[b]? = w.heap[b]?) (hk : ∀ k, M k → w'.heap[k]? = w.heap[k]?) (hm : ∀ k, M k → M' k) (hK : KidsAt w M b off l) : KidsAt w' M' b off l := by
  refine kids_iff fun m hm2 => ?_
  obtain ⟨h1, h2, cs, h3, h4, h5⟩ := kids_get hK m hm2
  exact ⟨(World.cell?_of_block hb).trans h1, h2, cs, h3, fun j hj => (World.cell?_of_block hb).trans (h4 j hj), TreeAt.weaken hm _ _ (h5.keep hk _ _)⟩
theorem own_bytes_new {w : World} {base n c : Nat} {e : TypeId} {A : Option Addr} {bs : List UInt8} (h : w.ownsRow base e 1 (.slice A n c) n (cellsOf bs)) : Held w (fun b => base ≤ b ∧ b < w.heap.size) A n bs := by
  have hl : bs.length = n := by have := h.1; rw [cellsOf_length] at this; omega
  refine ⟨hl, fun hn => ?_⟩
  obtain ⟨g, e, hb, hlt, hc⟩ := own_cell h hn
  refine ⟨g, 0, e, ⟨hb, hlt⟩, fun i hi => ?_⟩
  rw [Nat.zero_add, hc i hi, cellsOf_get bs i (by omega)]
/-- The Kids that a copy has, in block g: none of what they lead to lies there. -/
def Own9 (w wr : World) (M : Nat → Prop) (g : Nat) (b : Nat) : Prop := b ≠ g ∧ (M b ∨ (w.heap.size + 2 ≤ b ∧ b < wr.heap.size))
set_option maxHeartbeats 16000000 in
theorem copied_any : ∀ (t : Tree) (cs : List Value) (w : World) (M : Nat → Prop), (∀ b, M b → b < w.heap.size) → briefT t → TreeAt w M t cs →
    Calls Try.prog 24 #[.agg cs.toArray] w (AnsW w M t) := by
  refine Tree.ind ?_
  intro o l ih cs w M hM hf hT
  obtain ⟨Ab, cb, Ak, ck, rfl, hfit, hlen, hbytes, hkids⟩ := hT.open_
  rw [briefT] at hf
  have B2 : Below w.heap.size w ((w.alloc (.cells #[.int .i64 o.kind, .int .u64 (o.bits : Int), .int .u64 (o.high : Int), .int .u64 (o.low : Int), .string ⟨o.text.toArray⟩, .string ⟨o.more.toArray⟩, .int .i64 o.sub, .slice Ab o.bytes.length cb, .slice Ak l.length ck] 26)).alloc (.cells #[.int .i64 0, .int .u64 0, .int .u64 0, .int .u64 0, .string ⟨#[]⟩, .string ⟨#[]⟩, .int .i64 0, .slice none 0 0, .slice none 0 0] 26)) := two_new _ _ _
  have g1 : ((w.alloc (.cells #[.int .i64 o.kind, .int .u64 (o.bits : Int), .int .u64 (o.high : Int), .int .u64 (o.low : Int), .string ⟨o.text.toArray⟩, .string ⟨o.more.toArray⟩, .int .i64 o.sub, .slice Ab o.bytes.length cb, .slice Ak l.length ck] 26)).alloc (.cells #[.int .i64 0, .int .u64 0, .int .u64 0, .int .u64 0, .string ⟨#[]⟩, .string ⟨#[]⟩, .int .i64 0, .slice none 0 0, .slice none 0 0] 26)).heap[w.heap.size + 1]? = some (.cells #[.int .i64 0, .int .u64 0, .int .u64 0, .int .u64 0, .string ⟨#[]⟩, .string ⟨#[]⟩, .int .i64 0, .slice none 0 0, .slice none 0 0] 26) := heap_two _ _ _
  have g0 : ((w.alloc (.cells #[.int .i64 o.kind, .int .u64 (o.bits : Int), .int .u64 (o.high : Int), .int .u64 (o.low : Int), .string ⟨o.text.toArray⟩, .string ⟨o.more.toArray⟩, .int .i64 o.sub, .slice Ab o.bytes.length cb, .slice Ak l.length ck] 26)).alloc (.cells #[.int .i64 0, .int .u64 0, .int .u64 0, .int .u64 0, .string ⟨#[]⟩, .string ⟨#[]⟩, .int .i64 0, .slice none 0 0, .slice none 0 0] 26)).heap[w.heap.size]? = some (.cells #[.int .i64 o.kind, .int .u64 (o.bits : Int), .int .u64 (o.high : Int), .int .u64 (o.low : Int), .string ⟨o.text.toArray⟩, .string ⟨o.more.toArray⟩, .int .i64 o.sub, .slice Ab o.bytes.length cb, .slice Ak l.length ck] 26) := (Below.heap_alloc _ _ _ (by simp)).trans (heap_alloc_new w _)
  have s2 : ((w.alloc (.cells #[.int .i64 o.kind, .int .u64 (o.bits : Int), .int .u64 (o.high : Int), .int .u64 (o.low : Int), .string ⟨o.text.toArray⟩, .string ⟨o.more.toArray⟩, .int .i64 o.sub, .slice Ab o.bytes.length cb, .slice Ak l.length ck] 26)).alloc (.cells #[.int .i64 0, .int .u64 0, .int .u64 0, .int .u64 0, .string ⟨#[]⟩, .string ⟨#[]⟩, .int .i64 0, .slice none 0 0, .slice none 0 0] 26)).heap.size = w.heap.size + 2 := by simp
  have HM := Lib.hid hM
  have HI := Lib.hid ih
  have HF := Lib.hid hf.2.2
  have HL := Lib.hid hf.2.1
  have HBL := Lib.hid hf.1
  have HFIT := Lib.hid hfit
  have HLEN := Lib.hid hlen
  have HBY := Lib.hid hbytes
  have HK := Lib.hid hkids
  have HB2 := Lib.hid B2
  have G0 := Lib.hid g0
  have G1 := Lib.hid g1
  have HS2 := Lib.hid s2
  clear hM ih hf hfit hlen hbytes hkids hT B2 g0 g1 s2
  unfold cellsV at *
  go_enter Try.func24, Try.ntmps24
  go_upto_region 1 with fail
  generalize ((w.alloc (.cells #[.int .i64 o.kind, .int .u64 (o.bits : Int), .int .u64 (o.high : Int), .int .u64 (o.low : Int), .string ⟨o.text.toArray⟩, .string ⟨o.more.toArray⟩, .int .i64 o.sub, .slice Ab o.bytes.length cb, .slice Ak l.length ck] 26)).alloc (.cells #[.int .i64 0, .int .u64 0, .int .u64 0, .int .u64 0, .string ⟨#[]⟩, .string ⟨#[]⟩, .int .i64 0, .slice none 0 0, .slice none 0 0] 26)) = W at *
  have b7 : W.cell? ⟨w.heap.size, 7, none⟩ = some (.slice Ab o.bytes.length cb) := by rw [block_cell G0.out]; rfl
  have HW : Hid (Held W (· < W.heap.size) Ab o.bytes.length o.bytes) := (HBY.out.keep (fun b hb => HB2.out.block b (HM.out b hb))).weaken (fun b hb => Nat.lt_of_lt_of_le (HM.out b hb) HB2.out.size)
  have cB := Lib.hid (cloneB_any Ab o.bytes.length cb (cellsOf o.bytes) W (by rw [cellsOf_length]) (lie_bytes HW.out) (cellsOf_one _) HBL.out)
  go_wp2_with fail
  refine (cB.out).mono ?_
  rintro e w1 ⟨⟨Db, d, rfl, ho1⟩, B1⟩
  have G01 := (B1.block _ (block_lt G0.out)).trans G0.out
  have G11 := (B1.block _ (block_lt G1.out)).trans G1.out
  have c7 : w1.cell? ⟨w.heap.size, 7, none⟩ = some (.slice Ab o.bytes.length cb) := by rw [block_cell G01]; rfl
  have f7 : w1.frozen? ⟨w.heap.size, 7, none⟩ = false := block_frozen G01 7
  have hs2 := HS2.out
  have hwb := own_bytes_new ho1
  have nn : ∀ b, ¬ b = w.heap.size → (w1.setCell ⟨w.heap.size, 7, none⟩ (.slice Db o.bytes.length d)).heap[b]? = w1.heap[b]? := fun b hb => block_keep (fun e => hb e.symm) 7 _
  have HB3 : Hid (Below w.heap.size w (w1.setCell ⟨w.heap.size, 7, none⟩ (.slice Db o.bytes.length d))) := show Below _ _ _ from (HB2.out.trans (B1.mono HB2.out.size)).setCell (p := ⟨w.heap.size, 7, none⟩) (Nat.le_refl _) _
  have K0 : Hid ((w1.setCell ⟨w.heap.size, 7, none⟩ (.slice Db o.bytes.length d)).heap[w.heap.size]? = some (.cells #[.int .i64 o.kind, .int .u64 (o.bits : Int), .int .u64 (o.high : Int), .int .u64 (o.low : Int), .string ⟨o.text.toArray⟩, .string ⟨o.more.toArray⟩, .int .i64 o.sub, .slice Db o.bytes.length d, .slice Ak l.length ck] 26)) := block_set G01 7 _
  have K1 : Hid ((w1.setCell ⟨w.heap.size, 7, none⟩ (.slice Db o.bytes.length d)).heap[w.heap.size + 1]? = some (.cells #[.int .i64 0, .int .u64 0, .int .u64 0, .int .u64 0, .string ⟨#[]⟩, .string ⟨#[]⟩, .int .i64 0, .slice none 0 0, .slice none 0 0] 26)) := (nn _ (by omega)).trans G11
  have HDB : Hid (Held (w1.setCell ⟨w.heap.size, 7, none⟩ (.slice Db o.bytes.length d)) (fun b => w.heap.size + 2 ≤ b ∧ b < (w1.setCell ⟨w.heap.size, 7, none⟩ (.slice Db o.bytes.length d)).heap.size) Db o.bytes.length o.bytes) :=
    (hwb.keep (fun b hb => nn b (by omega))).weaken (fun b hb => ⟨by omega, by have := hb.2; simpa [World.setCell] using this⟩)
  have HS3 : Hid (w.heap.size + 2 ≤ (w1.setCell ⟨w.heap.size, 7, none⟩ (.slice Db o.bytes.length d)).heap.size) := show _ ≤ _ by have := B1.size; simp [World.setCell]; omega
  clear ho1 B1 G01 G11 hwb nn cB HW G0 G1 HS2 HB2 hs2
  go_upto_region 2 with fail
  clear b7 c7 f7
  generalize w1.setCell ⟨w.heap.size, 7, none⟩ (.slice Db o.bytes.length d) = W3 at *
  obtain ⟨xs, xl, xlie, xone, xk⟩ : ∃ xs : List Value, xs.length = l.length * 10 ∧ Lie W3 Ak l.length xs ∧ (∀ u ∈ xs, u.oneCell' = true) ∧ (∀ (V : World) (g : Nat) (M' : Nat → Prop), l ≠ [] → (∀ j u, xs[j]? = some u → V.cell? ⟨g, j, none⟩ = some u) → (∀ k, M k → V.heap[k]? = W3.heap[k]?) → (∀ k, M k → M' k) → KidsAt V M' g 0 l) := by
    by_cases hne : l = []
    · subst hne
      exact ⟨[], rfl, fun h => absurd h (Nat.lt_irrefl _), fun u h => (by cases h), fun _ _ _ h => absurd rfl h⟩
    · obtain ⟨b, off, e, hMb, hK⟩ := HK.out hne
      have lowM : ∀ k, M k → W3.heap[k]? = w.heap[k]? := fun k hk => HB3.out.block k (HM.out k hk)
      obtain ⟨xs, e1, e2, e3⟩ := kids_flat hK
      refine ⟨xs, e1, fun _ => ⟨b, off, e, Nat.lt_of_lt_of_le (HM.out b hMb) HB3.out.size, fun j u hj => (World.cell?_of_block (lowM b hMb)).trans (e2 j u hj)⟩, e3, fun V g M' _ h1 h2 h3 => ?_⟩
      refine kids_moved hK (fun j hj => ?_) (fun k hk => (h2 k hk).trans (lowM k hk)) h3
      have hjl : j < xs.length := by omega
      rw [h1 j _ (List.getElem?_eq_getElem hjl), e2 j _ (List.getElem?_eq_getElem hjl)]
  have cF := Lib.hid (cloneF_any Ak l.length ck xs W3 xl xlie xone (by have := HL.out; omega))
  have XL := Lib.hid xl
  have XK := Lib.hid xk
  have b8 : W3.cell? ⟨w.heap.size, 8, none⟩ = some (.slice Ak l.length ck) := by rw [block_cell K0.out]; rfl
  clear xl xlie xone xk
  go_wp2_with fail
  refine (cF.out).mono ?_
  rintro e w3 ⟨⟨Dk, dk, rfl, ho3⟩, B3⟩
  have G03 := (B3.block _ (block_lt K0.out)).trans K0.out
  have G13 := (B3.block _ (block_lt K1.out)).trans K1.out
  have c8 : w3.cell? ⟨w.heap.size, 8, none⟩ = some (.slice Ak l.length ck) := by rw [block_cell G03]; rfl
  have f8 : w3.frozen? ⟨w.heap.size, 8, none⟩ = false := block_frozen G03 8
  have hs3 := HS3.out
  have nn : ∀ b, ¬ b = w.heap.size → (w3.setCell ⟨w.heap.size, 8, none⟩ (.slice Dk l.length dk)).heap[b]? = w3.heap[b]? := fun b hb => block_keep (fun e => hb e.symm) 8 _
  have HB4 : Hid (Below w.heap.size w (w3.setCell ⟨w.heap.size, 8, none⟩ (.slice Dk l.length dk))) := show Below _ _ _ from (HB3.out.trans (B3.mono HB3.out.size)).setCell (p := ⟨w.heap.size, 8, none⟩) (Nat.le_refl _) _
  have L0 : Hid ((w3.setCell ⟨w.heap.size, 8, none⟩ (.slice Dk l.length dk)).heap[w.heap.size]? = some (.cells #[.int .i64 o.kind, .int .u64 (o.bits : Int), .int .u64 (o.high : Int), .int .u64 (o.low : Int), .string ⟨o.text.toArray⟩, .string ⟨o.more.toArray⟩, .int .i64 o.sub, .slice Db o.bytes.length d, .slice Dk l.length dk] 26)) := block_set G03 8 _
  have L1 : Hid ((w3.setCell ⟨w.heap.size, 8, none⟩ (.slice Dk l.length dk)).heap[w.heap.size + 1]? = some (.cells #[.int .i64 0, .int .u64 0, .int .u64 0, .int .u64 0, .string ⟨#[]⟩, .string ⟨#[]⟩, .int .i64 0, .slice none 0 0, .slice none 0 0] 26)) := (nn _ (by omega)).trans G13
  have HDB4 : Hid (Held (w3.setCell ⟨w.heap.size, 8, none⟩ (.slice Dk l.length dk)) (fun b => w.heap.size + 2 ≤ b ∧ b < W3.heap.size) Db o.bytes.length o.bytes) :=
    (HDB.out.keep (fun b hb => (nn b (by omega)).trans (B3.block b hb.2)))
  have HS4 : Hid (W3.heap.size ≤ (w3.setCell ⟨w.heap.size, 8, none⟩ (.slice Dk l.length dk)).heap.size) := show _ ≤ _ by have := B3.size; simp [World.setCell]; omega
  have HKD : Hid (l ≠ [] → ∃ g, Dk = some ⟨g, 0, none⟩ ∧ W3.heap.size ≤ g ∧ g < (w3.setCell ⟨w.heap.size, 8, none⟩ (.slice Dk l.length dk)).heap.size ∧ (∀ j, (w3.setCell ⟨w.heap.size, 8, none⟩ (.slice Dk l.length dk)).frozen? ⟨g, j, none⟩ = false) ∧ KidsAt (w3.setCell ⟨w.heap.size, 8, none⟩ (.slice Dk l.length dk)) (Own9 w (w3.setCell ⟨w.heap.size, 8, none⟩ (.slice Dk l.length dk)) M g) g 0 l) := fun hne => by
    have hpos : 0 < l.length := by cases l with | nil => exact absurd rfl hne | cons => exact Nat.succ_pos _
    obtain ⟨g, rfl, hbg, hlg, _, _, _, hcg⟩ := own_rows ho3 hpos
    have ng : ¬ g = w.heap.size := by omega
    refine ⟨g, rfl, hbg, by simpa [World.setCell] using hlg, fun j => ?_, XK.out _ g _ hne (fun j u hj => ?_) (fun k hk => ?_) (fun k hk => ?_)⟩
    · rw [frozen_of_block (nn g ng)]; exact World.ownsRow.frozenAt ho3 j
    · rw [World.cell?_of_block (nn g ng)]; exact hcg j u hj
    · have := HM.out k hk
      exact (nn k (by omega)).trans (B3.block k (by omega))
    · have := HM.out k hk
      exact ⟨by omega, .inl hk⟩
  clear ho3 B3 G03 G13 nn cF XL XK K0 K1 HDB HB3 hs3
  go_upto_region 3 with fail
  clear b8 c8 f8
  generalize w3.setCell ⟨w.heap.size, 8, none⟩ (.slice Dk l.length dk) = W4 at *
  have b8 : W4.cell? ⟨w.heap.size, 8, none⟩ = some (.slice Dk l.length dk) := by rw [block_cell L0.out]; rfl
  go_wp2_with fail
  clear b8
  go_loopw [15] (fun i wr => (Below w.heap.size w wr ∧ W4.heap.size ≤ wr.heap.size ∧ wr.heap[w.heap.size]? = some (.cells #[.int .i64 o.kind, .int .u64 (o.bits : Int), .int .u64 (o.high : Int), .int .u64 (o.low : Int), .string ⟨o.text.toArray⟩, .string ⟨o.more.toArray⟩, .int .i64 o.sub, .slice Db o.bytes.length d, .slice Dk l.length dk] 26) ∧ wr.heap[w.heap.size + 1]? = some (.cells #[.int .i64 0, .int .u64 0, .int .u64 0, .int .u64 0, .string ⟨#[]⟩, .string ⟨#[]⟩, .int .i64 0, .slice none 0 0, .slice none 0 0] 26)) ∧ Held wr (fun b => w.heap.size + 2 ≤ b ∧ b < W3.heap.size) Db o.bytes.length o.bytes ∧
    (l ≠ [] → ∃ g, Dk = some ⟨g, 0, none⟩ ∧ W3.heap.size ≤ g ∧ g < W4.heap.size ∧ (∀ j, wr.frozen? ⟨g, j, none⟩ = false) ∧ KidsAt wr (Own9 w wr M g) g 0 l) ∧ ∃ k : Nat, k ≤ l.length ∧ i = .int .i64 (k : Int)) (fun i _ => l.length - natV i)
  case atStart => exact ⟨⟨HB4.out, Nat.le_refl _, L0.out, L1.out⟩, HDB4.out, HKD.out, 0, Nat.zero_le _, rfl⟩
  case round =>
    obtain ⟨⟨hB, hsz, hl0, hl1⟩, hdb, hkd, k, hk, rfl⟩ := hrel
    clear HB4 L0 L1 HDB4 HKD
    have HB := Lib.hid hB
    have HSZ := Lib.hid hsz
    have L0 := Lib.hid hl0
    have L1 := Lib.hid hl1
    have HDB := Lib.hid hdb
    have HKD := Lib.hid hkd
    clear hB hsz hl0 hl1 hdb hkd
    by_cases hlt : k < l.length
    · have d1 : decide ((k : Int) < (l.length : Int)) = true := decide_eq_true (by omega)
      have d1n : decide (k < l.length) = true := decide_eq_true hlt
      obtain ⟨g, rfl, hg3, hg4, hfz, hK⟩ := HKD.out (fun e => by rw [e] at hlt; exact absurd hlt (Nat.not_lt_zero _))
      have hkid := kids_get hK k hlt
      have hbr := briefK_get HF.out hlt
      have hih := HI.out l[k] (List.getElem_mem hlt)
      have hset : l.set k l[k] = l := List.set_getElem_self hlt
      have HKW := Lib.hid fun (V : World) (M' : Nat → Prop) (ds : List Value) (t : Tree) => kids_with (w := wr) (w' := V) (M' := M') (g := g) (ds := ds) (t := t) hK hlt
      have HSET : ∀ x : Kid, x = l[k] → Hid (l.set k (x.1, x.2) = l) := fun x hx => by rw [hx]; exact hset
      have hKW : Hid (∀ (x : Kid), x = l[k] → ∀ (V : World) (M' : Nat → Prop) (ds : List Value), (∀ j, j < l.length * 10 → (j < k * 10 + 1 ∨ k * 10 + 10 ≤ j) → V.cell? ⟨g, j, none⟩ = wr.cell? ⟨g, 0 + j, none⟩) → (∀ b, Own9 w wr M g b → V.heap[b]? = wr.heap[b]?) → (∀ b, Own9 w wr M g b → M' b) → ds.length = 9 → (∀ j, j < 9 → V.cell? ⟨g, k * 10 + 1 + j, none⟩ = ds[j]?) → TreeAt V M' x.2 ds → KidsAt V M' g 0 l) := fun x hx V M' ds h1 h2 h3 h4 h5 h6 => by
        have := HKW.out V M' ds x.2 h1 h2 h3 h4 h5 h6
        rw [← hx] at this
        rwa [(HSET x hx).out] at this
      obtain ⟨x, hx⟩ : ∃ x, x = l[k] := ⟨_, rfl⟩
      have HKX := Lib.hid (hKW.out x hx)
      rw [← hx] at hkid hbr hih
      clear HKW HSET hKW hset hx hK
      obtain ⟨xn, ko, kl⟩ := x
      dsimp only at HKX hbr hih
      obtain ⟨_, _, kcs, hk9, hkc, hkT⟩ := hkid
      have hkT : TreeAt wr (Own9 w wr M g) (.node ko kl) kcs := hkT
      have hkTo := hkT.open_
      obtain ⟨Kb, kb, Kk, kk, rfl, _, _, _, _⟩ := hkTo
      have hcg : ∀ r, r < 9 → wr.cell? ⟨g, k * 10 + (r + 1), none⟩ = ([.int .i64 ko.kind, .int .u64 (ko.bits : Int), .int .u64 (ko.high : Int), .int .u64 (ko.low : Int), .string ⟨ko.text.toArray⟩, .string ⟨ko.more.toArray⟩, .int .i64 ko.sub, .slice Kb ko.bytes.length kb, .slice Kk kl.length kk] : List Value)[r]? := fun r hr => by
        have := hkc r hr
        rw [show 0 + k * 10 + 1 + r = k * 10 + (r + 1) by omega] at this
        exact this
      have hw2 := HB.out.size
      have hs3 := HS3.out
      have hs4 := HSZ.out
      have cV := Lib.hid fun (V : World) (hV : Below wr.heap.size wr V) => hih _ V (Own9 w wr M g) (fun b hb => by
        have := hV.size
        rcases hb.2 with h | h
        · have := HM.out b h; omega
        · omega) hbr (TreeAt.keep (fun b hb => hV.block b (by
            rcases hb.2 with h | h
            · have := HM.out b h; omega
            · omega)) _ _ hkT)
      have h8 : wr.cell? ⟨w.heap.size, 8, none⟩ = some (.slice (some ⟨g, 0, none⟩) l.length dk) := by rw [block_cell L0.out]; rfl
      have HFZ := Lib.hid hfz
      have x0 : wr.cell? ⟨g, k * 10 + 1, none⟩ = some (.int .i64 ko.kind) := (hcg 0 (by decide))
      have x1 : wr.cell? ⟨g, k * 10 + 2, none⟩ = some (.int .u64 (ko.bits : Int)) := (hcg 1 (by decide))
      have x2 : wr.cell? ⟨g, k * 10 + 3, none⟩ = some (.int .u64 (ko.high : Int)) := (hcg 2 (by decide))
      have x3 : wr.cell? ⟨g, k * 10 + 4, none⟩ = some (.int .u64 (ko.low : Int)) := (hcg 3 (by decide))
      have x4 : wr.cell? ⟨g, k * 10 + 5, none⟩ = some (.string ⟨ko.text.toArray⟩) := (hcg 4 (by decide))
      have x5 : wr.cell? ⟨g, k * 10 + 6, none⟩ = some (.string ⟨ko.more.toArray⟩) := (hcg 5 (by decide))
      have x6 : wr.cell? ⟨g, k * 10 + 7, none⟩ = some (.int .i64 ko.sub) := (hcg 6 (by decide))
      have x7 : wr.cell? ⟨g, k * 10 + 8, none⟩ = some (.slice Kb ko.bytes.length kb) := (hcg 7 (by decide))
      have x8 : wr.cell? ⟨g, k * 10 + 9, none⟩ = some (.slice Kk kl.length kk) := (hcg 8 (by decide))
      have f0 : wr.frozen? ⟨g, k * 10 + 1, none⟩ = false := HFZ.out _
      have f1 : wr.frozen? ⟨g, k * 10 + 2, none⟩ = false := HFZ.out _
      have f2 : wr.frozen? ⟨g, k * 10 + 3, none⟩ = false := HFZ.out _
      have f3 : wr.frozen? ⟨g, k * 10 + 4, none⟩ = false := HFZ.out _
      have f4 : wr.frozen? ⟨g, k * 10 + 5, none⟩ = false := HFZ.out _
      have f5 : wr.frozen? ⟨g, k * 10 + 6, none⟩ = false := HFZ.out _
      have f6 : wr.frozen? ⟨g, k * 10 + 7, none⟩ = false := HFZ.out _
      have f7 : wr.frozen? ⟨g, k * 10 + 8, none⟩ = false := HFZ.out _
      have f8 : wr.frozen? ⟨g, k * 10 + 9, none⟩ = false := HFZ.out _
      have HCG := Lib.hid hcg
      have HLG2 : Hid (g < wr.drew.heap.size) := show g < wr.heap.size by omega
      have ng8 : ¬ g = w.heap.size := by omega
      have NG8 := Lib.hid ng8
      have HG3 := Lib.hid hg3
      have HG4 := Lib.hid hg4
      have s0 : (0 : Int) ≤ (k : Int) := by omega
      have s1 : (k : Int) < (l.length : Int) := by omega
      have HK1 : Hid (k + 1 ≤ l.length) := hlt
      have u2 : Hid (wrap64 ((k : Int) + 1) = ((k + 1 : Nat) : Int)) := show _ = _ from w64 (by omega) (by have := HL.out; omega)
      unfold cellsV at cV
      clear hkc hk9 hkT hcg hih hbr hw2 hs3 hs4 hfz hg3 hg4 hk hlt HKD
      go_upto_region 6 with fail
      refine wp_region_held_drew (S := (fun V : World => V.cell? ⟨w.heap.size, 8, none⟩ = some (.slice (some ⟨g, 0, none⟩) l.length dk))) (by kernel_rfl) ?_ (fun hHeld => ?_)
      · exact cell_drew h8
      refine wpAnyH_take (i := 0) (v := ?_) rfl (by kernel_rfl) (by kernel_rfl) (by kernel_rfl) (fun _ _ _ h => h) (Or.inl ⟨by rfl, ?_⟩) (by assumption) ?_
      rotate_left 1
      · intro V hSw
        (try dsimp only at hSw)
        go_simp
        (try with_reducible rfl)
      (try simp only [Act.put, List.setIfInBounds_toArray])
      refine wpAnyH_take (i := 1) (v := ?_) rfl (by kernel_rfl) (by kernel_rfl) (by kernel_rfl) (fun _ _ _ h => h) (Or.inl ⟨by rfl, ?_⟩) (by assumption) ?_
      rotate_left 1
      · intro V hSw
        (try dsimp only at hSw)
        go_simp
        (try with_reducible rfl)
      (try simp only [Act.put])
      refine wpAnyH_take (i := 2) (v := ?_) rfl (by kernel_rfl) (by kernel_rfl) (by kernel_rfl) (fun _ _ _ h => h) (Or.inl ⟨by rfl, ?_⟩) (by assumption) ?_
      rotate_left 1
      · intro V hSw
        (try dsimp only at hSw)
        go_simp
        (try with_reducible rfl)
      (try simp only [Act.put])
      refine wpAnyH_take (i := 3) (v := ?_) rfl (by kernel_rfl) (by kernel_rfl) (by kernel_rfl) (fun _ _ _ h => h) (Or.inl ⟨by rfl, ?_⟩) (by assumption) ?_
      rotate_left 1
      · intro V hSw
        (try dsimp only at hSw)
        go_simp
        (try with_reducible rfl)
      (try simp only [Act.put])
      refine wpAnyH_take (i := 4) (v := ?_) rfl (by kernel_rfl) (by kernel_rfl) (by kernel_rfl) (fun _ _ _ h => h) (Or.inl ⟨by rfl, ?_⟩) (by assumption) ?_
      rotate_left 1
      · intro V hSw
        (try dsimp only at hSw)
        go_simp
        (try with_reducible rfl)
      (try simp only [Act.put])
      refine wpAnyH_take (i := 5) (v := ?_) rfl (by kernel_rfl) (by kernel_rfl) (by kernel_rfl) (fun _ _ _ h => h) (Or.inl ⟨by rfl, ?_⟩) (by assumption) ?_
      rotate_left 1
      · intro V hSw
        (try dsimp only at hSw)
        go_simp
        (try with_reducible rfl)
      (try simp only [Act.put])
      refine wpAnyH_take (i := 6) (v := ?_) rfl (by kernel_rfl) (by kernel_rfl) (by kernel_rfl) (fun _ _ _ h => h) (Or.inl ⟨by rfl, ?_⟩) (by assumption) ?_
      rotate_left 1
      · intro V hSw
        (try dsimp only at hSw)
        go_simp
        (try with_reducible rfl)
      (try simp only [Act.put])
      refine wpAnyH_take (i := 7) (v := ?_) rfl (by kernel_rfl) (by kernel_rfl) (by kernel_rfl) (fun _ _ _ h => h) (Or.inl ⟨by rfl, ?_⟩) (by assumption) ?_
      rotate_left 1
      · intro V hSw
        (try dsimp only at hSw)
        go_simp
        (try with_reducible rfl)
      (try simp only [Act.put])
      refine wpAnyH_ready (rs := [8]) (by kernel_rfl) (by simp) ?_
      refine AllReadyH.cons rfl (fun K hK => ?_) ?_
      rotate_left 1
      · exact AllReadyH.nil
      go_simp
      refine hK.out _ _ hHeld (fun _ => ?_)
      clear hK K
      (try simp only [Act.put, List.setIfInBounds_toArray, List.set_cons_zero, List.set_cons_succ])
      refine wpAnyH_ready (rs := [9]) (by kernel_rfl) (by simp) ?_
      refine AllReadyH.cons rfl (fun K hK => ?_) ?_
      rotate_left 1
      · exact AllReadyH.nil
      go_simp
      go_at_call 24
      (with_reducible refine (cV.out _ (Below.refl _ _).drew).mono ?_)
      rintro e w6 ⟨⟨dp, Eb, e1, Ek, m, ek, rfl, T6⟩, B6⟩
      go_wp2_with fail
      refine hK.out _ _ (cell_low B6 (cell_drew h8)) (fun hHeld => ?_)
      clear hK K
      (try simp only [Act.put, List.setIfInBounds_toArray, List.set_cons_zero, List.set_cons_succ])
      have x0 := cell_low B6 (cell_drew x0); have f0 := frozen_low B6 HLG2.out (frozen_drew f0)
      have x1 := cell_low B6 (cell_drew x1); have f1 := frozen_low B6 HLG2.out (frozen_drew f1)
      have x2 := cell_low B6 (cell_drew x2); have f2 := frozen_low B6 HLG2.out (frozen_drew f2)
      have x3 := cell_low B6 (cell_drew x3); have f3 := frozen_low B6 HLG2.out (frozen_drew f3)
      have x4 := cell_low B6 (cell_drew x4); have f4 := frozen_low B6 HLG2.out (frozen_drew f4)
      have x5 := cell_low B6 (cell_drew x5); have f5 := frozen_low B6 HLG2.out (frozen_drew f5)
      have x6 := cell_low B6 (cell_drew x6); have f6 := frozen_low B6 HLG2.out (frozen_drew f6)
      have x7 := cell_low B6 (cell_drew x7); have f7 := frozen_low B6 HLG2.out (frozen_drew f7)
      have x8 := cell_low B6 (cell_drew x8); have f8 := frozen_low B6 HLG2.out (frozen_drew f8)
      refine wpAnyH_take (i := 10) (v := ?_) rfl (by kernel_rfl) (by kernel_rfl) (by kernel_rfl) (fun _ _ _ h => h) (Or.inl ⟨by rfl, ?_⟩) (by assumption) ?_
      rotate_left 1
      · intro V hSw
        (try dsimp only at hSw)
        go_simp
        (try with_reducible rfl)
      (try simp only [Act.put, List.setIfInBounds_toArray])
      refine wpAnyH_take (i := 11) (v := ?_) rfl (by kernel_rfl) (by kernel_rfl) (by kernel_rfl) (fun _ _ _ h => h) (Or.inl ⟨by rfl, ?_⟩) (by assumption) ?_
      rotate_left 1
      · intro V hSw
        (try dsimp only at hSw)
        go_simp
        (try with_reducible rfl)
      (try simp only [Act.put])
      refine wpAnyH_ready (rs := [12]) (by kernel_rfl) (by simp) ?_
      refine AllReadyH.cons rfl (fun K hK => ?_) ?_
      rotate_left 1
      · exact AllReadyH.nil
      go_simp
      rw [← chain9]
      refine hK.out _ _ (cell_oth9 ng8 _ _ _ _ _ _ (cell_low B6 (cell_drew h8))) (fun _ => ?_)
      clear hK K
      (try simp only [Act.put, List.setIfInBounds_toArray, List.set_cons_zero, List.set_cons_succ])
      refine wpAnyH_done (by kernel_rfl) ?_ _
      have hb1 := HB.out
      have hs3 := HS3.out
      have hg3 := HG3.out
      have hg4 := HG4.out
      have hsz := HSZ.out
      have hw2 := HB.out.size
      have B6' : Below wr.heap.size wr w6 := low17 (Below.refl wr.heap.size wr).drew B6
      have hs6 := B6'.size
      have keepO : ∀ b, ¬ g = b → b < wr.heap.size → (w6.setCells g (k * 10 + 1) (cellsV dp Eb e1 Ek m ek)).heap[b]? = wr.heap[b]? := fun b hb hl => (keep_cells hb _ _ _).trans (B6'.block b hl)
      have BW : Hid (Below w.heap.size w (w6.setCells g (k * 10 + 1) (cellsV dp Eb e1 Ek m ek))) := show Below _ _ _ from below_cells (by omega) _ _ _ (low17 HB.out B6')
      have SW : w6.heap.size ≤ (w6.setCells g (k * 10 + 1) (cellsV dp Eb e1 Ek m ek)).heap.size := (below_cells (Nat.le_refl g) _ _ _ (Below.refl g w6)).size
      have SW4 : Hid (W4.heap.size ≤ (w6.setCells g (k * 10 + 1) (cellsV dp Eb e1 Ek m ek)).heap.size) := show _ ≤ _ by omega
      have N0 : Hid ((w6.setCells g (k * 10 + 1) (cellsV dp Eb e1 Ek m ek)).heap[w.heap.size]? = some (.cells #[.int .i64 o.kind, .int .u64 (o.bits : Int), .int .u64 (o.high : Int), .int .u64 (o.low : Int), .string ⟨o.text.toArray⟩, .string ⟨o.more.toArray⟩, .int .i64 o.sub, .slice Db o.bytes.length d, .slice (some ⟨g, 0, none⟩) l.length dk] 26)) := (keepO _ NG8.out (by omega)).trans L0.out
      have N1 : Hid ((w6.setCells g (k * 10 + 1) (cellsV dp Eb e1 Ek m ek)).heap[w.heap.size + 1]? = some (.cells #[.int .i64 0, .int .u64 0, .int .u64 0, .int .u64 0, .string ⟨#[]⟩, .string ⟨#[]⟩, .int .i64 0, .slice none 0 0, .slice none 0 0] 26)) := (keepO _ (by omega) (by omega)).trans L1.out
      have NDB : Hid (Held (w6.setCells g (k * 10 + 1) (cellsV dp Eb e1 Ek m ek)) (fun b => w.heap.size + 2 ≤ b ∧ b < W3.heap.size) Db o.bytes.length o.bytes) := HDB.out.keep fun b hb => keepO b (by omega) (by omega)
      have NFZ : Hid (∀ j, (w6.setCells g (k * 10 + 1) (cellsV dp Eb e1 Ek m ek)).frozen? ⟨g, j, none⟩ = false) := fun j => by
        rw [World.frozen?_setCells]
        exact frozen_low B6 HLG2.out (frozen_drew (HFZ.out j))
      have lowO : ∀ b, Own9 w wr M g b → b < wr.heap.size := fun b hb => by
        rcases hb.2 with h | h
        · have := HM.out b h; omega
        · omega
      have TT : Hid (KidsAt (w6.setCells g (k * 10 + 1) (cellsV dp Eb e1 Ek m ek)) (Own9 w (w6.setCells g (k * 10 + 1) (cellsV dp Eb e1 Ek m ek)) M g) g 0 l) := show KidsAt _ _ _ _ _ from by
        refine HKX.out _ _ (cellsV dp Eb e1 Ek m ek) (fun j hj hne => ?_) (fun b hb => keepO b (fun e => hb.1 e.symm) (lowO b hb)) (fun b hb => ⟨hb.1, ?_⟩) rfl (fun j hj => ?_) ?_
        · rw [World.cell?_setCells_out g _ _ _ _ (fun _ _ => by show j < k * 10 + 1 ∨ k * 10 + 1 + 9 ≤ j; omega), Nat.zero_add]
          exact B6'.cell (p := ⟨g, j, none⟩) HLG2.out
        · rcases hb.2 with h | h
          · exact .inl h
          · exact .inr ⟨h.1, by omega⟩
        · rw [World.cell?_setCells_in g (cellsV dp Eb e1 Ek m ek) (k * 10 + 1) w6 (fun r hr => ?_) j (show j < (cellsV dp Eb e1 Ek m ek).length from hj)]
          · exact (List.getElem?_eq_getElem _).symm
          · have hr : r < 9 := hr
            rw [B6'.cell (p := ⟨g, k * 10 + 1 + r, none⟩) HLG2.out, show k * 10 + 1 + r = k * 10 + (r + 1) by omega, HCG.out r hr, List.getElem?_eq_getElem (show r < 9 from hr)]
            rfl
        · refine TreeAt.weaken (fun b hb => ?_) _ _ (TreeAt.keep (fun b hb => keep_cells ?_ _ _ _) _ _ T6)
          · rcases hb with h | h
            · refine ⟨h.1, ?_⟩
              rcases h.2 with h | h
              · exact .inl h
              · exact .inr ⟨h.1, by omega⟩
            · have h1 : wr.heap.size ≤ b := h.1
              have h2 := h.2
              have h3 : g < wr.heap.size := HLG2.out
              exact ⟨by omega, .inr ⟨by omega, by omega⟩⟩
          · rcases hb with h | h
            · exact fun e => h.1 e.symm
            · have h1 : wr.heap.size ≤ b := h.1
              have h2 : g < wr.heap.size := HLG2.out
              omega
      clear T6 B6 B6' hb1 hs3 hg3 hg4 hsz hw2 hs6 keepO lowO SW h8 x0 x1 x2 x3 x4 x5 x6 x7 x8 f0 f1 f2 f3 f4 f5 f6 f7 f8 cV
      generalize w6.setCells g (k * 10 + 1) (cellsV dp Eb e1 Ek m ek) = W7 at *
      go_wp2_with fail
      refine ⟨⟨⟨BW.out, SW4.out, N0.out, N1.out⟩, NDB.out, fun _ => ⟨g, rfl, HG3.out, HG4.out, NFZ.out, TT.out⟩, k + 1, HK1.out, by rw [u2.out]⟩, ?_⟩
      rw [u2.out]
      have := HK1.out
      simp only [natV]
      omega
    · obtain rfl : k = l.length := by omega
      have d1 : decide ((l.length : Int) < (l.length : Int)) = false := decide_eq_false (by omega)
      have d1n : decide (l.length < l.length) = false := decide_eq_false (by omega)
      clear hk hlt
      have hs2 := HS3.out
      have hs4 := HSZ.out
      have hb4 := HB.out.size
      have u0 : wr.cell? ⟨w.heap.size, 0, none⟩ = some (.int .i64 o.kind) := by rw [block_cell L0.out]; rfl
      have u1 : wr.cell? ⟨w.heap.size, 1, none⟩ = some (.int .u64 (o.bits : Int)) := by rw [block_cell L0.out]; rfl
      have u2 : wr.cell? ⟨w.heap.size, 2, none⟩ = some (.int .u64 (o.high : Int)) := by rw [block_cell L0.out]; rfl
      have u3 : wr.cell? ⟨w.heap.size, 3, none⟩ = some (.int .u64 (o.low : Int)) := by rw [block_cell L0.out]; rfl
      have u4 : wr.cell? ⟨w.heap.size, 4, none⟩ = some (.string ⟨o.text.toArray⟩) := by rw [block_cell L0.out]; rfl
      have u5 : wr.cell? ⟨w.heap.size, 5, none⟩ = some (.string ⟨o.more.toArray⟩) := by rw [block_cell L0.out]; rfl
      have u6 : wr.cell? ⟨w.heap.size, 6, none⟩ = some (.int .i64 o.sub) := by rw [block_cell L0.out]; rfl
      have u7 : wr.cell? ⟨w.heap.size, 7, none⟩ = some (.slice Db o.bytes.length d) := by rw [block_cell L0.out]; rfl
      have u8 : wr.cell? ⟨w.heap.size, 8, none⟩ = some (.slice Dk l.length dk) := by rw [block_cell L0.out]; rfl
      have v0 : wr.cell? ⟨w.heap.size + 1, 0, none⟩ = some (.int .i64 0) := by rw [block_cell L1.out]; rfl
      have v1 : wr.cell? ⟨w.heap.size + 1, 1, none⟩ = some (.int .u64 0) := by rw [block_cell L1.out]; rfl
      have v2 : wr.cell? ⟨w.heap.size + 1, 2, none⟩ = some (.int .u64 0) := by rw [block_cell L1.out]; rfl
      have v3 : wr.cell? ⟨w.heap.size + 1, 3, none⟩ = some (.int .u64 0) := by rw [block_cell L1.out]; rfl
      have v4 : wr.cell? ⟨w.heap.size + 1, 4, none⟩ = some (.string ⟨#[]⟩) := by rw [block_cell L1.out]; rfl
      have v5 : wr.cell? ⟨w.heap.size + 1, 5, none⟩ = some (.string ⟨#[]⟩) := by rw [block_cell L1.out]; rfl
      have v6 : wr.cell? ⟨w.heap.size + 1, 6, none⟩ = some (.int .i64 0) := by rw [block_cell L1.out]; rfl
      have v7 : wr.cell? ⟨w.heap.size + 1, 7, none⟩ = some (.slice none 0 0) := by rw [block_cell L1.out]; rfl
      have v8 : wr.cell? ⟨w.heap.size + 1, 8, none⟩ = some (.slice none 0 0) := by rw [block_cell L1.out]; rfl
      have t0 : wr.frozen? ⟨w.heap.size + 1, 0, none⟩ = false := block_frozen L1.out 0
      have t1 : wr.frozen? ⟨w.heap.size + 1, 1, none⟩ = false := block_frozen L1.out 1
      have t2 : wr.frozen? ⟨w.heap.size + 1, 2, none⟩ = false := block_frozen L1.out 2
      have t3 : wr.frozen? ⟨w.heap.size + 1, 3, none⟩ = false := block_frozen L1.out 3
      have t4 : wr.frozen? ⟨w.heap.size + 1, 4, none⟩ = false := block_frozen L1.out 4
      have t5 : wr.frozen? ⟨w.heap.size + 1, 5, none⟩ = false := block_frozen L1.out 5
      have t6 : wr.frozen? ⟨w.heap.size + 1, 6, none⟩ = false := block_frozen L1.out 6
      have t7 : wr.frozen? ⟨w.heap.size + 1, 7, none⟩ = false := block_frozen L1.out 7
      have t8 : wr.frozen? ⟨w.heap.size + 1, 8, none⟩ = false := block_frozen L1.out 8
      go_wp2_with fail
      rw [← chain9z]
      have B8 := below_cells (show w.heap.size ≤ w.heap.size + 1 by omega) (cellsV o Db d Dk l.length dk) 0 _ HB.out
      have S8 := (below_cells (Nat.le_refl (w.heap.size + 1)) (cellsV o Db d Dk l.length dk) 0 _ (Below.refl (w.heap.size + 1) wr)).size
      have G8 := set9 L1.out o Db d Dk l.length dk
      have k8 : ∀ b, ¬ w.heap.size + 1 = b → (wr.setCells (w.heap.size + 1) 0 (cellsV o Db d Dk l.length dk)).heap[b]? = wr.heap[b]? := fun b hb => keep_cells hb _ _ _
      have T8 : TreeAt (wr.setCells (w.heap.size + 1) 0 (cellsV o Db d Dk l.length dk)) (fun b => M b ∨ (w.heap.size ≤ b ∧ b < (wr.setCells (w.heap.size + 1) 0 (cellsV o Db d Dk l.length dk)).heap.size)) (.node o l) (cellsV o Db d Dk l.length dk) := by
        rw [TreeAt]
        have hsw : W3.heap.size ≤ wr.heap.size := Nat.le_trans HS4.out hs4
        refine ⟨Db, d, Dk, dk, rfl, HFIT.out, HLEN.out, (HDB.out.keep (fun b hb => k8 b (by omega))).weaken (fun b hb => .inr ⟨by omega, by omega⟩), fun hne => ?_⟩
        obtain ⟨g, rfl, hg3, hg4, _, hK⟩ := HKD.out hne
        refine ⟨g, 0, rfl, .inr ⟨by omega, by omega⟩, ?_⟩
        have ng : ¬ w.heap.size + 1 = g := by omega
        have lowK : ∀ b, Own9 w wr M g b → ¬ w.heap.size + 1 = b := fun b hb => by
          rcases hb.2 with h | h
          · have := HM.out b h; omega
          · omega
        exact kids_keep (k8 g ng) (fun b hb => k8 b (lowK b hb)) (fun b hb => by
          rcases hb.2 with h | h
          · exact .inl h
          · exact .inr ⟨by omega, by omega⟩) hK
      generalize wr.setCells (w.heap.size + 1) 0 (cellsV o Db d Dk l.length dk) = W8 at *
      unfold cellsV at G8
      refine bodyPost_ret (results_oneV rfl _ _ (w.heap.size + 1) #[.int .i64 o.kind, .int .u64 (o.bits : Int), .int .u64 (o.high : Int), .int .u64 (o.low : Int), .string ⟨o.text.toArray⟩, .string ⟨o.more.toArray⟩, .int .i64 o.sub, .slice Db o.bytes.length d, .slice Dk l.length dk] rfl ?_) rfl ?_
      · exact load_value G8
      · exact ⟨⟨o, Db, d, Dk, l.length, dk, rfl, T8⟩, B8⟩
end Go.Proofs.Ytmkgcifcfgfegaa
