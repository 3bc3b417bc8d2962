/-
  What the program's Get does (chapter 18), for every tree and every path; no condition but bounds.
-/
import Derived.Test.YtmkgcifcfgfegaaCopied18
import Derived.Test.YtmkgcifcfgfegaaRefGet18
namespace Go.Proofs.Ytmkgcifcfgfegaa
set_option maxRecDepth 100000
open Go.RowKit

theorem get_kept {w : World} {g : Nat} {M : Nat → Prop} {t : Tree} {cs : List Value} (hg : ∀ b, M b → ¬ g = b) (h : TreeAt w M t cs) (hM : ∀ b, M b → b < w.heap.size) (A C D E F G X Y Z : Value) :
    TreeAt (((((((((w.setCell ⟨g, 0, none⟩ A).setCell ⟨g, 1, none⟩ C).setCell ⟨g, 2, none⟩ D).setCell ⟨g, 3, none⟩ E).setCell ⟨g, 4, none⟩ F).setCell ⟨g, 5, none⟩ G).setCell ⟨g, 6, none⟩ X).setCell ⟨g, 7, none⟩ Y).setCell ⟨g, 8, none⟩ Z) (· < (((((((((w.setCell ⟨g, 0, none⟩ A).setCell ⟨g, 1, none⟩ C).setCell ⟨g, 2, none⟩ D).setCell ⟨g, 3, none⟩ E).setCell ⟨g, 4, none⟩ F).setCell ⟨g, 5, none⟩ G).setCell ⟨g, 6, none⟩ X).setCell ⟨g, 7, none⟩ Y).setCell ⟨g, 8, none⟩ Z).heap.size) t cs :=
  TreeAt.weaken (fun b hb => Nat.lt_of_lt_of_le (hM b hb) (below_nine (Below.refl 0 w) (Nat.zero_le _) A C D E F G X Y Z).size) _ _ (TreeAt.keep (fun b hb => keep_nine (hg b hb) A C D E F G X Y Z) _ _ h)
theorem wr_in {x : Int} (h0 : 0 ≤ x) (h1 : x ≤ 9223372036854775807) : wrap64 x = x := by unfold wrap64; omega
set_option maxHeartbeats 8000000 in
theorem getV_any (p : List Int) (t : Tree) (cs : List Value) (A : Option Addr) (n c : Nat) (w : World) (hf : briefT t) (hT : TreeAt w (· < w.heap.size) t cs) (hP : Ints w (· < w.heap.size) A n p) (hn : n ≤ 1000000) :
    Calls Try.prog 9 #[.agg cs.toArray, .slice A n c] w (AnsG w (getT t p)) := by
  obtain ⟨o, l⟩ := t
  obtain ⟨r, hr⟩ : ∃ r, r = getT (.node o l) p := ⟨_, rfl⟩
  rw [← hr]
  have hbr : ∀ u, r = some u → briefT u := fun u hu => get_brief p _ u hf (hr ▸ hu)
  rw [get_kidsP] at hr
  obtain ⟨Ab, cb, Ak, ck, rfl, _, _, _, hkids⟩ := hT.open_
  have B2 : Below w.heap.size w ((w.alloc (.cells #[.int .i64 o.kind, .int .u64 (o.bits : Int), .int .u64 (o.high : Int), .int .u64 (o.low : Int), .string ⟨o.text.toArray⟩, .string ⟨o.more.toArray⟩, .int .i64 o.sub, .slice Ab o.bytes.length cb, .slice Ak l.length ck] 26)).alloc (.cells #[.int .i64 0, .int .u64 0, .int .u64 0, .int .u64 0, .string ⟨#[]⟩, .string ⟨#[]⟩, .int .i64 0, .slice none 0 0, .slice none 0 0] 26)) := two_new2 _ _ _
  have g1 : ((w.alloc (.cells #[.int .i64 o.kind, .int .u64 (o.bits : Int), .int .u64 (o.high : Int), .int .u64 (o.low : Int), .string ⟨o.text.toArray⟩, .string ⟨o.more.toArray⟩, .int .i64 o.sub, .slice Ab o.bytes.length cb, .slice Ak l.length ck] 26)).alloc (.cells #[.int .i64 0, .int .u64 0, .int .u64 0, .int .u64 0, .string ⟨#[]⟩, .string ⟨#[]⟩, .int .i64 0, .slice none 0 0, .slice none 0 0] 26)).heap[w.heap.size + 1]? = some (.cells #[.int .i64 0, .int .u64 0, .int .u64 0, .int .u64 0, .string ⟨#[]⟩, .string ⟨#[]⟩, .int .i64 0, .slice none 0 0, .slice none 0 0] 26) := heap_two2 _ _ _
  have g0 : ((w.alloc (.cells #[.int .i64 o.kind, .int .u64 (o.bits : Int), .int .u64 (o.high : Int), .int .u64 (o.low : Int), .string ⟨o.text.toArray⟩, .string ⟨o.more.toArray⟩, .int .i64 o.sub, .slice Ab o.bytes.length cb, .slice Ak l.length ck] 26)).alloc (.cells #[.int .i64 0, .int .u64 0, .int .u64 0, .int .u64 0, .string ⟨#[]⟩, .string ⟨#[]⟩, .int .i64 0, .slice none 0 0, .slice none 0 0] 26)).heap[w.heap.size]? = some (.cells #[.int .i64 o.kind, .int .u64 (o.bits : Int), .int .u64 (o.high : Int), .int .u64 (o.low : Int), .string ⟨o.text.toArray⟩, .string ⟨o.more.toArray⟩, .int .i64 o.sub, .slice Ab o.bytes.length cb, .slice Ak l.length ck] 26) := (Below.heap_alloc _ _ _ (by simp)).trans (heap_alloc_new w _)
  have s2 : ((w.alloc (.cells #[.int .i64 o.kind, .int .u64 (o.bits : Int), .int .u64 (o.high : Int), .int .u64 (o.low : Int), .string ⟨o.text.toArray⟩, .string ⟨o.more.toArray⟩, .int .i64 o.sub, .slice Ab o.bytes.length cb, .slice Ak l.length ck] 26)).alloc (.cells #[.int .i64 0, .int .u64 0, .int .u64 0, .int .u64 0, .string ⟨#[]⟩, .string ⟨#[]⟩, .int .i64 0, .slice none 0 0, .slice none 0 0] 26)).heap.size = w.heap.size + 2 := by simp
  have HB2 := Lib.hid B2
  have G0 := Lib.hid g0
  have G1 := Lib.hid g1
  have HS2 := Lib.hid s2
  have HT2 := Lib.hid (hT.on B2)
  have HBRA := Lib.hid hbr
  have HK := Lib.hid hkids
  have HP := Lib.hid hP
  have HN := Lib.hid hn
  have HR := Lib.hid hr
  clear hbr hkids hT hP hn hr B2 g0 g1 s2 hf
  unfold cellsV at *
  go_enter Try.func9, Try.ntmps9
  go_upto_region 1 with fail
  generalize ((w.alloc (.cells #[.int .i64 o.kind, .int .u64 (o.bits : Int), .int .u64 (o.high : Int), .int .u64 (o.low : Int), .string ⟨o.text.toArray⟩, .string ⟨o.more.toArray⟩, .int .i64 o.sub, .slice Ab o.bytes.length cb, .slice Ak l.length ck] 26)).alloc (.cells #[.int .i64 0, .int .u64 0, .int .u64 0, .int .u64 0, .string ⟨#[]⟩, .string ⟨#[]⟩, .int .i64 0, .slice none 0 0, .slice none 0 0] 26)) = W at *
  have cK := Lib.hid (kidsOn_any p o l w.heap.size 0 Ak ck A n c W (· < w.heap.size) (fun b hb => Nat.lt_of_lt_of_le hb HB2.out.size) (block_lt G0.out) (by rw [block_cell G0.out]; rfl) (fun hne => by
      obtain ⟨_, _, _, _, e, _, _, _, hk⟩ := (HT2.out).open_
      unfold cellsV at e
      simp only [List.cons.injEq, Value.slice.injEq, and_true, true_and] at e
      obtain ⟨b, off, e1, h2, h3⟩ := hk hne
      exact ⟨b, off, by rw [e.2.1]; exact e1, h2, h3⟩) ((HP.out.keep (fun k hk => HB2.out.block k hk)).weaken (fun k hk => Nat.lt_of_lt_of_le hk HB2.out.size)) HN.out)
  generalize kidsP (.node o l) p = K at *
  go_wp2_with fail
  refine (cK.out).mono ?_
  rintro e w1 ⟨hm, B1⟩
  have HB1 := Lib.hid (HB2.out.trans (B1.mono HB2.out.size))
  have E0 := Lib.hid ((B1.block _ (block_lt G0.out)).trans G0.out)
  have E1 := Lib.hid ((B1.block _ (block_lt G1.out)).trans G1.out)
  have hs1 : w.heap.size + 2 ≤ w1.heap.size := by have := HS2.out; have := B1.size; omega
  have SZ := Lib.hid hs1
  have HT1 := Lib.hid (TreeAt.keep (fun k (hk : k < w.heap.size) => B1.block k (Nat.lt_of_lt_of_le hk HB2.out.size)) _ _ HT2.out)
  clear B1 cK HB2 G0 G1 HT2 hs1
  cases K with
  | none =>
    obtain rfl := hm
    have HE : Hid (r = none) := show _ = _ by rw [HR.out]; rfl
    clear HR HT1 HBRA
    have z0 : w1.cell? ⟨w.heap.size + 1, 0, none⟩ = some (.int .i64 0) := by rw [block_cell E1.out]; rfl
    have z1 : w1.cell? ⟨w.heap.size + 1, 1, none⟩ = some (.int .u64 0) := by rw [block_cell E1.out]; rfl
    have z2 : w1.cell? ⟨w.heap.size + 1, 2, none⟩ = some (.int .u64 0) := by rw [block_cell E1.out]; rfl
    have z3 : w1.cell? ⟨w.heap.size + 1, 3, none⟩ = some (.int .u64 0) := by rw [block_cell E1.out]; rfl
    have z4 : w1.cell? ⟨w.heap.size + 1, 4, none⟩ = some (.string ⟨#[]⟩) := by rw [block_cell E1.out]; rfl
    have z5 : w1.cell? ⟨w.heap.size + 1, 5, none⟩ = some (.string ⟨#[]⟩) := by rw [block_cell E1.out]; rfl
    have z6 : w1.cell? ⟨w.heap.size + 1, 6, none⟩ = some (.int .i64 0) := by rw [block_cell E1.out]; rfl
    have z7 : w1.cell? ⟨w.heap.size + 1, 7, none⟩ = some (.slice none 0 0) := by rw [block_cell E1.out]; rfl
    have z8 : w1.cell? ⟨w.heap.size + 1, 8, none⟩ = some (.slice none 0 0) := by rw [block_cell E1.out]; rfl
    have t0 : w1.frozen? ⟨w.heap.size + 1, 0, none⟩ = false := block_frozen E1.out 0
    have t1 : w1.frozen? ⟨w.heap.size + 1, 1, none⟩ = false := block_frozen E1.out 1
    have t2 : w1.frozen? ⟨w.heap.size + 1, 2, none⟩ = false := block_frozen E1.out 2
    have t3 : w1.frozen? ⟨w.heap.size + 1, 3, none⟩ = false := block_frozen E1.out 3
    have t4 : w1.frozen? ⟨w.heap.size + 1, 4, none⟩ = false := block_frozen E1.out 4
    have t5 : w1.frozen? ⟨w.heap.size + 1, 5, none⟩ = false := block_frozen E1.out 5
    have t6 : w1.frozen? ⟨w.heap.size + 1, 6, none⟩ = false := block_frozen E1.out 6
    have t7 : w1.frozen? ⟨w.heap.size + 1, 7, none⟩ = false := block_frozen E1.out 7
    have t8 : w1.frozen? ⟨w.heap.size + 1, 8, none⟩ = false := block_frozen E1.out 8
    go_wp2_with fail
    refine bodyPost_ret (results_row2 rfl _ _ (w.heap.size + 1) #[.int .i64 0, .int .u64 0, .int .u64 0, .int .u64 0, .string ⟨#[]⟩, .string ⟨#[]⟩, .int .i64 0, .slice none 0 0, .slice none 0 0] rfl (load_value (nine_set E1.out))) rfl ?_
    refine ⟨?_, below_nine HB1.out (Nat.le_succ _) _ _ _ _ _ _ _ _ _⟩
    rw [HE.out]
    rfl
  | some ks =>
    obtain ⟨Q, qc, xs, rfl, ho, hx⟩ := hm
    cases ks with
    | nil =>
      have HE : Hid (r = some (.node o l)) := show _ = _ by rw [HR.out]; rfl
      have HBR := Lib.hid (HBRA.out _ HE.out)
      have TT := HT1
      have BWW := HB1
      clear HR HT1 HBRA HB1 ho hx HS2
      have d1 : decide ((0 : Int) < 0) = false := decide_eq_false (by omega)
      have cC := Lib.hid (copied_any (.node o l) _ w1 (· < w.heap.size) (fun b hb => by have := SZ.out; omega) HBR.out TT.out)
      unfold cellsV at cC
      have x0 : w1.cell? ⟨w.heap.size, 0, none⟩ = some (.int .i64 o.kind) := by rw [block_cell E0.out]; rfl
      have x1 : w1.cell? ⟨w.heap.size, 1, none⟩ = some (.int .u64 (o.bits : Int)) := by rw [block_cell E0.out]; rfl
      have x2 : w1.cell? ⟨w.heap.size, 2, none⟩ = some (.int .u64 (o.high : Int)) := by rw [block_cell E0.out]; rfl
      have x3 : w1.cell? ⟨w.heap.size, 3, none⟩ = some (.int .u64 (o.low : Int)) := by rw [block_cell E0.out]; rfl
      have x4 : w1.cell? ⟨w.heap.size, 4, none⟩ = some (.string ⟨o.text.toArray⟩) := by rw [block_cell E0.out]; rfl
      have x5 : w1.cell? ⟨w.heap.size, 5, none⟩ = some (.string ⟨o.more.toArray⟩) := by rw [block_cell E0.out]; rfl
      have x6 : w1.cell? ⟨w.heap.size, 6, none⟩ = some (.int .i64 o.sub) := by rw [block_cell E0.out]; rfl
      have x7 : w1.cell? ⟨w.heap.size, 7, none⟩ = some (.slice Ab o.bytes.length cb) := by rw [block_cell E0.out]; rfl
      have x8 : w1.cell? ⟨w.heap.size, 8, none⟩ = some (.slice Ak l.length ck) := by rw [block_cell E0.out]; rfl
      go_wp2_with fail
      refine (cC.out).mono ?_
      rintro e w6 ⟨⟨p, Db, d, Dk, m, dk, rfl, T6⟩, B6⟩
      have hsz := SZ.out
      have F1 := Lib.hid ((B6.block _ (by omega : w.heap.size + 1 < (w1).heap.size)).trans E1.out)
      have BF := Lib.hid (BWW.out.trans (B6.mono BWW.out.size))
      have T6 : Hid (TreeAt w6 (fun b => b < w.heap.size ∨ (w.heap.size + 2 ≤ b ∧ b < w6.heap.size)) (.node o l) _) := show TreeAt _ _ _ _ from TreeAt.weaken (fun b hb => by
          rcases hb with h | h
          · exact .inl h
          · exact .inr ⟨by omega, h.2⟩) _ _ T6
      clear B6 cC BWW TT HBR E0 E1 SZ x0 x1 x2 x3 x4 x5 x6 x7 x8
      have z0 : w6.cell? ⟨w.heap.size + 1, 0, none⟩ = some (.int .i64 0) := by rw [block_cell F1.out]; rfl
      have z1 : w6.cell? ⟨w.heap.size + 1, 1, none⟩ = some (.int .u64 0) := by rw [block_cell F1.out]; rfl
      have z2 : w6.cell? ⟨w.heap.size + 1, 2, none⟩ = some (.int .u64 0) := by rw [block_cell F1.out]; rfl
      have z3 : w6.cell? ⟨w.heap.size + 1, 3, none⟩ = some (.int .u64 0) := by rw [block_cell F1.out]; rfl
      have z4 : w6.cell? ⟨w.heap.size + 1, 4, none⟩ = some (.string ⟨#[]⟩) := by rw [block_cell F1.out]; rfl
      have z5 : w6.cell? ⟨w.heap.size + 1, 5, none⟩ = some (.string ⟨#[]⟩) := by rw [block_cell F1.out]; rfl
      have z6 : w6.cell? ⟨w.heap.size + 1, 6, none⟩ = some (.int .i64 0) := by rw [block_cell F1.out]; rfl
      have z7 : w6.cell? ⟨w.heap.size + 1, 7, none⟩ = some (.slice none 0 0) := by rw [block_cell F1.out]; rfl
      have z8 : w6.cell? ⟨w.heap.size + 1, 8, none⟩ = some (.slice none 0 0) := by rw [block_cell F1.out]; rfl
      have t0 : w6.frozen? ⟨w.heap.size + 1, 0, none⟩ = false := block_frozen F1.out 0
      have t1 : w6.frozen? ⟨w.heap.size + 1, 1, none⟩ = false := block_frozen F1.out 1
      have t2 : w6.frozen? ⟨w.heap.size + 1, 2, none⟩ = false := block_frozen F1.out 2
      have t3 : w6.frozen? ⟨w.heap.size + 1, 3, none⟩ = false := block_frozen F1.out 3
      have t4 : w6.frozen? ⟨w.heap.size + 1, 4, none⟩ = false := block_frozen F1.out 4
      have t5 : w6.frozen? ⟨w.heap.size + 1, 5, none⟩ = false := block_frozen F1.out 5
      have t6 : w6.frozen? ⟨w.heap.size + 1, 6, none⟩ = false := block_frozen F1.out 6
      have t7 : w6.frozen? ⟨w.heap.size + 1, 7, none⟩ = false := block_frozen F1.out 7
      have t8 : w6.frozen? ⟨w.heap.size + 1, 8, none⟩ = false := block_frozen F1.out 8
      go_wp2_with fail
      refine bodyPost_ret (results_row2 rfl _ _ (w.heap.size + 1) #[.int .i64 p.kind, .int .u64 (p.bits : Int), .int .u64 (p.high : Int), .int .u64 (p.low : Int), .string ⟨p.text.toArray⟩, .string ⟨p.more.toArray⟩, .int .i64 p.sub, .slice Db p.bytes.length d, .slice Dk m dk] rfl (load_value (nine_set F1.out))) rfl ?_
      refine ⟨?_, below_nine BF.out (Nat.le_succ _) _ _ _ _ _ _ _ _ _⟩
      rw [HE.out]
      have hs6 := BF.out.size
      refine ⟨p, Db, d, Dk, m, dk, rfl, get_kept (fun b hb e => by rcases hb with h | h <;> omega) T6.out (fun b hb => by rcases hb with h | h <;> omega) _ _ _ _ _ _ _ _ _⟩
    | cons y0 ks =>
      obtain ⟨y, hy⟩ : ∃ y, (y0 :: ks).getLast? = some y := ⟨_, List.getLast?_cons⟩
      obtain ⟨n1, hn1⟩ : ∃ n1, n1 = ks.length := ⟨_, rfl⟩
      have hlen : (y0 :: ks).length = n1 + 1 := by rw [List.length_cons, hn1]
      have hyk : (y0 :: ks)[n1]? = some y := by rw [← hy, List.getLast?_eq_getElem?, hlen]; rfl
      have HE : Hid (r = some y.2) := show _ = _ by rw [HR.out]; simp only [Option.map_some, hy]; rfl
      obtain ⟨b, off, hp, hb, hk⟩ := hx.get n1 (by omega)
      have ey : (y0 :: ks)[n1] = y := by
        have := List.getElem?_eq_getElem (l := y0 :: ks) (i := n1) (by omega)
        rw [hyk] at this
        exact (Option.some.inj this).symm
      rw [ey] at hk
      rw [hlen] at ho ⊢
      obtain ⟨gq, rfl, _, hgq, _, _, _, hcq⟩ := own_rows ho (Nat.succ_pos _)
      have hq : w1.cell? ⟨gq, n1, none⟩ = some (.pointer (some ⟨b, off, none⟩)) := hcq _ _ hp
      have HBR := Lib.hid (HBRA.out _ HE.out)
      obtain ⟨yn, o2, l2⟩ := y
      obtain ⟨_, _, kcs, _, hkc, hkT⟩ := hk
      have hkT : TreeAt w1 (· < w.heap.size) (.node o2 l2) kcs := hkT
      obtain ⟨Kb, kb, Kk, kk, rfl, _, _, _, _⟩ := hkT.open_
      have HKT := Lib.hid hkT
      have d1 : decide ((0 : Int) < ((n1 + 1 : Nat) : Int)) = true := decide_eq_true (by omega)
      have d1n : decide (0 < n1 + 1) = true := decide_eq_true (by omega)
      have hbig := ho.1
      have hcap : n1 + 1 ≤ maxLen := by
        obtain ⟨_, _, _, _, h1, h2, _⟩ := own_rows ho (Nat.succ_pos _)
        omega
      unfold maxLen at hcap
      have i0 : (0 : Int) ≤ (n1 : Int) := by omega
      have i1 : (n1 : Int) < ((n1 + 1 : Nat) : Int) := by omega
      have i2 : (n1 : Int) < (n1 : Int) + 1 := by omega
      have i3 : (n1 : Int) ≤ 9223372036854775807 := by omega
      have u2 : (((n1 + 1 : Nat) : Int) - 1) = (n1 : Int) := by omega
      have u2' : ((n1 : Int) + 1 - 1) = (n1 : Int) := by omega
      have u3 : wrap64 (n1 : Int) = (n1 : Int) := wr_in i0 i3
      have u1 : wrap64 (((n1 + 1 : Nat) : Int) - 1) = (n1 : Int) := by rw [u2]; exact u3
      have u1' : wrap64 ((n1 : Int) + 1 - 1) = (n1 : Int) := by rw [u2']; exact u3
      clear u2'
      have q0 : w1.cell? ⟨b, off + 1, none⟩ = some (.int .i64 o2.kind) := hkc 0 (by decide)
      have q1 : w1.cell? ⟨b, off + 2, none⟩ = some (.int .u64 (o2.bits : Int)) := hkc 1 (by decide)
      have q2 : w1.cell? ⟨b, off + 3, none⟩ = some (.int .u64 (o2.high : Int)) := hkc 2 (by decide)
      have q3 : w1.cell? ⟨b, off + 4, none⟩ = some (.int .u64 (o2.low : Int)) := hkc 3 (by decide)
      have q4 : w1.cell? ⟨b, off + 5, none⟩ = some (.string ⟨o2.text.toArray⟩) := hkc 4 (by decide)
      have q5 : w1.cell? ⟨b, off + 6, none⟩ = some (.string ⟨o2.more.toArray⟩) := hkc 5 (by decide)
      have q6 : w1.cell? ⟨b, off + 7, none⟩ = some (.int .i64 o2.sub) := hkc 6 (by decide)
      have q7 : w1.cell? ⟨b, off + 8, none⟩ = some (.slice Kb o2.bytes.length kb) := hkc 7 (by decide)
      have q8 : w1.cell? ⟨b, off + 9, none⟩ = some (.slice Kk l2.length kk) := hkc 8 (by decide)
      have x0 : w1.cell? ⟨w.heap.size, 0, none⟩ = some (.int .i64 o.kind) := by rw [block_cell E0.out]; rfl
      have x1 : w1.cell? ⟨w.heap.size, 1, none⟩ = some (.int .u64 (o.bits : Int)) := by rw [block_cell E0.out]; rfl
      have x2 : w1.cell? ⟨w.heap.size, 2, none⟩ = some (.int .u64 (o.high : Int)) := by rw [block_cell E0.out]; rfl
      have x3 : w1.cell? ⟨w.heap.size, 3, none⟩ = some (.int .u64 (o.low : Int)) := by rw [block_cell E0.out]; rfl
      have x4 : w1.cell? ⟨w.heap.size, 4, none⟩ = some (.string ⟨o.text.toArray⟩) := by rw [block_cell E0.out]; rfl
      have x5 : w1.cell? ⟨w.heap.size, 5, none⟩ = some (.string ⟨o.more.toArray⟩) := by rw [block_cell E0.out]; rfl
      have x6 : w1.cell? ⟨w.heap.size, 6, none⟩ = some (.int .i64 o.sub) := by rw [block_cell E0.out]; rfl
      have x7 : w1.cell? ⟨w.heap.size, 7, none⟩ = some (.slice Ab o.bytes.length cb) := by rw [block_cell E0.out]; rfl
      have x8 : w1.cell? ⟨w.heap.size, 8, none⟩ = some (.slice Ak l.length ck) := by rw [block_cell E0.out]; rfl
      have f0 : w1.frozen? ⟨w.heap.size, 0, none⟩ = false := block_frozen E0.out 0
      have f1 : w1.frozen? ⟨w.heap.size, 1, none⟩ = false := block_frozen E0.out 1
      have f2 : w1.frozen? ⟨w.heap.size, 2, none⟩ = false := block_frozen E0.out 2
      have f3 : w1.frozen? ⟨w.heap.size, 3, none⟩ = false := block_frozen E0.out 3
      have f4 : w1.frozen? ⟨w.heap.size, 4, none⟩ = false := block_frozen E0.out 4
      have f5 : w1.frozen? ⟨w.heap.size, 5, none⟩ = false := block_frozen E0.out 5
      have f6 : w1.frozen? ⟨w.heap.size, 6, none⟩ = false := block_frozen E0.out 6
      have f7 : w1.frozen? ⟨w.heap.size, 7, none⟩ = false := block_frozen E0.out 7
      have f8 : w1.frozen? ⟨w.heap.size, 8, none⟩ = false := block_frozen E0.out 8
      clear ho hx hcq hp hy hyk ey hlen hn1 HR HT1 HBRA hkT hkc hbig hcap
      go_upto_region 6 with fail
      clear u1 u1' u2 u3 i0 i1 i2 i3 d1 d1n
      have ng1 : ¬ w.heap.size = w.heap.size + 1 := by omega
      have HB5 := Lib.hid (below_nine HB1.out (Nat.le_refl _) (.int .i64 o2.kind) (.int .u64 (o2.bits : Int)) (.int .u64 (o2.high : Int)) (.int .u64 (o2.low : Int)) (.string ⟨o2.text.toArray⟩) (.string ⟨o2.more.toArray⟩) (.int .i64 o2.sub) (.slice Kb o2.bytes.length kb) (.slice Kk l2.length kk))
      have E5 := Lib.hid ((keep_nine (w := w1) ng1 (.int .i64 o2.kind) (.int .u64 (o2.bits : Int)) (.int .u64 (o2.high : Int)) (.int .u64 (o2.low : Int)) (.string ⟨o2.text.toArray⟩) (.string ⟨o2.more.toArray⟩) (.int .i64 o2.sub) (.slice Kb o2.bytes.length kb) (.slice Kk l2.length kk)).trans E1.out)
      have E4 := Lib.hid (nine_set (A := .int .i64 o2.kind) (B := .int .u64 (o2.bits : Int)) (C := .int .u64 (o2.high : Int)) (D := .int .u64 (o2.low : Int)) (E := .string ⟨o2.text.toArray⟩) (F := .string ⟨o2.more.toArray⟩) (X := .int .i64 o2.sub) (Y := .slice Kb o2.bytes.length kb) (Z := .slice Kk l2.length kk) E0.out)
      have T5 := Lib.hid (TreeAt.keep (fun z (hz : z < w.heap.size) => keep_nine (w := w1) (by omega : ¬ w.heap.size = z) (.int .i64 o2.kind) (.int .u64 (o2.bits : Int)) (.int .u64 (o2.high : Int)) (.int .u64 (o2.low : Int)) (.string ⟨o2.text.toArray⟩) (.string ⟨o2.more.toArray⟩) (.int .i64 o2.sub) (.slice Kb o2.bytes.length kb) (.slice Kk l2.length kk)) _ _ HKT.out)
      have SZ5 := Lib.hid (Nat.le_trans SZ.out (below_nine (Below.refl 0 w1) (g := w.heap.size) (Nat.zero_le _) (.int .i64 o2.kind) (.int .u64 (o2.bits : Int)) (.int .u64 (o2.high : Int)) (.int .u64 (o2.low : Int)) (.string ⟨o2.text.toArray⟩) (.string ⟨o2.more.toArray⟩) (.int .i64 o2.sub) (.slice Kb o2.bytes.length kb) (.slice Kk l2.length kk)).size)
      clear x0 f0 q0 x1 f1 q1 x2 f2 q2 x3 f3 q3 x4 f4 q4 x5 f5 q5 x6 f6 q6 x7 f7 q7 x8 f8 q8 HB1 E0 E1 HKT SZ hq ng1 hb hgq
      generalize (((((((((w1.setCell ⟨w.heap.size, 0, none⟩ (.int .i64 o2.kind)).setCell ⟨w.heap.size, 1, none⟩ (.int .u64 (o2.bits : Int))).setCell ⟨w.heap.size, 2, none⟩ (.int .u64 (o2.high : Int))).setCell ⟨w.heap.size, 3, none⟩ (.int .u64 (o2.low : Int))).setCell ⟨w.heap.size, 4, none⟩ (.string ⟨o2.text.toArray⟩)).setCell ⟨w.heap.size, 5, none⟩ (.string ⟨o2.more.toArray⟩)).setCell ⟨w.heap.size, 6, none⟩ (.int .i64 o2.sub)).setCell ⟨w.heap.size, 7, none⟩ (.slice Kb o2.bytes.length kb)).setCell ⟨w.heap.size, 8, none⟩ (.slice Kk l2.length kk)) = W5 at *
      have BWW := HB5
      have E0 := E4
      have E1 := E5
      have TT := T5
      have SZ := SZ5
      clear HB5 E4 E5 T5 SZ5
      have cC := Lib.hid (copied_any (.node o2 l2) _ W5 (· < w.heap.size) (fun b hb => by have := SZ.out; omega) HBR.out TT.out)
      unfold cellsV at cC
      have x0 : W5.cell? ⟨w.heap.size, 0, none⟩ = some (.int .i64 o2.kind) := by rw [block_cell E0.out]; rfl
      have x1 : W5.cell? ⟨w.heap.size, 1, none⟩ = some (.int .u64 (o2.bits : Int)) := by rw [block_cell E0.out]; rfl
      have x2 : W5.cell? ⟨w.heap.size, 2, none⟩ = some (.int .u64 (o2.high : Int)) := by rw [block_cell E0.out]; rfl
      have x3 : W5.cell? ⟨w.heap.size, 3, none⟩ = some (.int .u64 (o2.low : Int)) := by rw [block_cell E0.out]; rfl
      have x4 : W5.cell? ⟨w.heap.size, 4, none⟩ = some (.string ⟨o2.text.toArray⟩) := by rw [block_cell E0.out]; rfl
      have x5 : W5.cell? ⟨w.heap.size, 5, none⟩ = some (.string ⟨o2.more.toArray⟩) := by rw [block_cell E0.out]; rfl
      have x6 : W5.cell? ⟨w.heap.size, 6, none⟩ = some (.int .i64 o2.sub) := by rw [block_cell E0.out]; rfl
      have x7 : W5.cell? ⟨w.heap.size, 7, none⟩ = some (.slice Kb o2.bytes.length kb) := by rw [block_cell E0.out]; rfl
      have x8 : W5.cell? ⟨w.heap.size, 8, none⟩ = some (.slice Kk l2.length kk) := by rw [block_cell E0.out]; rfl
      go_wp2_with fail
      refine (cC.out).mono ?_
      rintro e w6 ⟨⟨p, Db, d, Dk, m, dk, rfl, T6⟩, B6⟩
      have hsz := SZ.out
      have F1 := Lib.hid ((B6.block _ (by omega : w.heap.size + 1 < (W5).heap.size)).trans E1.out)
      have BF := Lib.hid (BWW.out.trans (B6.mono BWW.out.size))
      have T6 : Hid (TreeAt w6 (fun b => b < w.heap.size ∨ (w.heap.size + 2 ≤ b ∧ b < w6.heap.size)) (.node o2 l2) _) := show TreeAt _ _ _ _ from TreeAt.weaken (fun b hb => by
          rcases hb with h | h
          · exact .inl h
          · exact .inr ⟨by omega, h.2⟩) _ _ T6
      clear B6 cC BWW TT HBR E0 E1 SZ x0 x1 x2 x3 x4 x5 x6 x7 x8
      have z0 : w6.cell? ⟨w.heap.size + 1, 0, none⟩ = some (.int .i64 0) := by rw [block_cell F1.out]; rfl
      have z1 : w6.cell? ⟨w.heap.size + 1, 1, none⟩ = some (.int .u64 0) := by rw [block_cell F1.out]; rfl
      have z2 : w6.cell? ⟨w.heap.size + 1, 2, none⟩ = some (.int .u64 0) := by rw [block_cell F1.out]; rfl
      have z3 : w6.cell? ⟨w.heap.size + 1, 3, none⟩ = some (.int .u64 0) := by rw [block_cell F1.out]; rfl
      have z4 : w6.cell? ⟨w.heap.size + 1, 4, none⟩ = some (.string ⟨#[]⟩) := by rw [block_cell F1.out]; rfl
      have z5 : w6.cell? ⟨w.heap.size + 1, 5, none⟩ = some (.string ⟨#[]⟩) := by rw [block_cell F1.out]; rfl
      have z6 : w6.cell? ⟨w.heap.size + 1, 6, none⟩ = some (.int .i64 0) := by rw [block_cell F1.out]; rfl
      have z7 : w6.cell? ⟨w.heap.size + 1, 7, none⟩ = some (.slice none 0 0) := by rw [block_cell F1.out]; rfl
      have z8 : w6.cell? ⟨w.heap.size + 1, 8, none⟩ = some (.slice none 0 0) := by rw [block_cell F1.out]; rfl
      have t0 : w6.frozen? ⟨w.heap.size + 1, 0, none⟩ = false := block_frozen F1.out 0
      have t1 : w6.frozen? ⟨w.heap.size + 1, 1, none⟩ = false := block_frozen F1.out 1
      have t2 : w6.frozen? ⟨w.heap.size + 1, 2, none⟩ = false := block_frozen F1.out 2
      have t3 : w6.frozen? ⟨w.heap.size + 1, 3, none⟩ = false := block_frozen F1.out 3
      have t4 : w6.frozen? ⟨w.heap.size + 1, 4, none⟩ = false := block_frozen F1.out 4
      have t5 : w6.frozen? ⟨w.heap.size + 1, 5, none⟩ = false := block_frozen F1.out 5
      have t6 : w6.frozen? ⟨w.heap.size + 1, 6, none⟩ = false := block_frozen F1.out 6
      have t7 : w6.frozen? ⟨w.heap.size + 1, 7, none⟩ = false := block_frozen F1.out 7
      have t8 : w6.frozen? ⟨w.heap.size + 1, 8, none⟩ = false := block_frozen F1.out 8
      go_wp2_with fail
      refine bodyPost_ret (results_row2 rfl _ _ (w.heap.size + 1) #[.int .i64 p.kind, .int .u64 (p.bits : Int), .int .u64 (p.high : Int), .int .u64 (p.low : Int), .string ⟨p.text.toArray⟩, .string ⟨p.more.toArray⟩, .int .i64 p.sub, .slice Db p.bytes.length d, .slice Dk m dk] rfl (load_value (nine_set F1.out))) rfl ?_
      refine ⟨?_, below_nine BF.out (Nat.le_succ _) _ _ _ _ _ _ _ _ _⟩
      rw [HE.out]
      have hs6 := BF.out.size
      refine ⟨p, Db, d, Dk, m, dk, rfl, get_kept (fun b hb e => by rcases hb with h | h <;> omega) T6.out (fun b hb => by rcases hb with h | h <;> omega) _ _ _ _ _ _ _ _ _⟩
end Go.Proofs.Ytmkgcifcfgfegaa
