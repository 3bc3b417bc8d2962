/-
  What the program's Names does (chapter 18), for every tree and every path; no condition but bounds.
-/
import Derived.Test.YtmkgcifcfgfegaaRefNames18
import Derived.Test.YtmkgcifcfgfegaaCopied18
namespace Go.Proofs.Ytmkgcifcfgfegaa
set_option maxRecDepth 100000
open Go.RowKit

/-- The answer of the program's Names: none beside false. -/
def AnsM (w : World) (ns : List (List UInt8)) (b : Bool) (e : Ending) (w' : World) : Prop :=
  (∃ (A : Option Addr) (c : Nat), e = .returned (.tuple #[.slice A ns.length c, .bool b]) ∧ w'.ownsRow w.heap.size 9 1 (.slice A ns.length c) ns.length (strCells ns)) ∧ Below w.heap.size w w'
theorem kidsP_len : ∀ (p : List Int) (t : Tree) (ks : List Kid), kidsP t p = some ks → ks.length = p.length
  | [], .node o l, ks, e => by rw [kidsP] at e; cases e; rfl
  | i :: p, .node o l, ks, e => by
    rw [kidsP] at e
    split at e
    · obtain ⟨ks', h, rfl⟩ := Option.map_eq_some_iff.1 e
      rw [List.length_cons, List.length_cons, kidsP_len p _ ks' h]
    · cases e
theorem names_snoc (ns : List (List UInt8)) (k : Nat) (h : k < ns.length) : strCells (ns.take (k + 1)) = strCells (ns.take k) ++ [.string ⟨(ns[k]).toArray⟩] := by
  unfold strCells
  rw [List.take_succ_eq_append_getElem h, List.map_append]
  rfl
set_option maxHeartbeats 8000000 in
theorem namesV_any (p : List Int) (t : Tree) (cs : List Value) (A : Option Addr) (n c : Nat) (w : World) (hT : TreeAt w (· < w.heap.size) t cs) (hP : Ints w (· < w.heap.size) A n p) (hn : n ≤ 1000000) :
    Calls Try.prog 11 #[.agg cs.toArray, .slice A n c] w (AnsM w ((namesT t p).getD []) (namesT t p).isSome) := by
  obtain ⟨o, l⟩ := t
  rw [names_kidsP]
  obtain ⟨nv, hnv⟩ : ∃ nv, nv = ((kidsP (.node o l) p).map (List.map (·.1))).getD [] := ⟨_, rfl⟩
  obtain ⟨bv, hbv⟩ : ∃ bv, bv = ((kidsP (.node o l) p).map (List.map (·.1))).isSome := ⟨_, rfl⟩
  rw [← hnv, ← hbv]
  obtain ⟨Ab, cb, Ak, ck, rfl, _, _, _, hkids⟩ := hT.open_
  have B2 : Below w.heap.size w (w.alloc (.cells (cellsV o Ab cb Ak l.length ck).toArray 26)) := (Below.refl _ _).alloc (Nat.le_refl _) _
  have g0 : (w.alloc (.cells (cellsV o Ab cb Ak l.length ck).toArray 26)).heap[w.heap.size]? = some (.cells (cellsV o Ab cb Ak l.length ck).toArray 26) := heap_alloc_new w _
  have HB2 := Lib.hid B2
  have G0 := Lib.hid g0
  have hb0 := block_lt g0
  have cK := Lib.hid (kidsOn_any p o l w.heap.size 0 Ak ck A n c _ (· < w.heap.size) (fun b hb => Nat.lt_of_lt_of_le hb B2.size) hb0 (by rw [block_cell g0]; rfl) (fun hne => by
      obtain ⟨b, off, e1, h2, h3⟩ := hkids hne
      exact ⟨b, off, e1, h2, kids_keep (B2.block b h2) (fun k hk => B2.block k hk) (fun _ h => h) h3⟩) ((hP.keep (fun k hk => B2.block k hk)).weaken (fun k hk => Nat.lt_of_lt_of_le hk B2.size)) hn)
  obtain ⟨K, eK⟩ : ∃ K, K = kidsP (.node o l) p := ⟨_, rfl⟩
  rw [← eK] at hnv hbv cK
  have HLK : Hid (∀ ks, K = some ks → ks.length ≤ 1000000) := fun ks hks => by
    have h1 := kidsP_len p (.node o l) ks (by rw [← eK]; exact hks)
    have := hP.1
    omega
  have HNV := Lib.hid hnv
  have HBV := Lib.hid hbv
  clear hkids hT hP hn hnv hbv B2 g0 hb0 eK
  unfold cellsV at *
  go_enter Try.func11, Try.ntmps11
  go_upto_region 1 with fail
  generalize (w.alloc (.cells #[.int .i64 o.kind, .int .u64 (o.bits : Int), .int .u64 (o.high : Int), .int .u64 (o.low : Int), .string ⟨o.text.toArray⟩, .string ⟨o.more.toArray⟩, .int .i64 o.sub, .slice Ab o.bytes.length cb, .slice Ak l.length ck] 26)) = W at *
  go_wp2_with fail
  refine (cK.out).mono ?_
  rintro e w1 ⟨hm, B1⟩
  have HB1 := Lib.hid (HB2.out.trans (B1.mono HB2.out.size))
  clear cK G0
  obtain ⟨ks, Q, qc, xs, bo, hbo, rfl, ho, hx, hl⟩ : ∃ (ks : List Kid) (Q : Option Addr) (qc : Nat) (xs : List Value) (bo : Bool), (ks = K.getD [] ∧ bo = K.isSome) ∧ e = .returned (.tuple #[.slice Q ks.length qc, .bool bo]) ∧ w1.ownsRow W.heap.size 53 1 (.slice Q ks.length qc) ks.length xs ∧ PtrsAt w1 (· < w.heap.size) xs ks ∧ ks.length ≤ 1000000 := by
    cases K with
    | none => exact ⟨[], none, 0, [], false, ⟨rfl, rfl⟩, hm, World.ownsRow_nil _ _ _ 1, trivial, Nat.zero_le _⟩
    | some ks =>
      obtain ⟨Q, qc, xs, e, h1, h2⟩ := hm
      exact ⟨ks, Q, qc, xs, true, ⟨rfl, rfl⟩, e, h1, h2, HLK.out ks rfl⟩
  have HV : Hid (nv = ks.map (·.1) ∧ bv = bo) := by
    rw [HNV.out, HBV.out, hbo.1, hbo.2]
    cases K <;> exact ⟨rfl, rfl⟩
  clear hm hbo HNV HBV HLK
  obtain ⟨n1, hn1⟩ : ∃ n1, n1 = ks.length := ⟨_, rfl⟩
  rw [← hn1] at ho hl ⊢
  obtain rfl := HV.out.2
  have HX := Lib.hid hx
  have HO := Lib.hid ho
  have HL := Lib.hid hl
  have HN1 := Lib.hid hn1
  have HNV : Hid (nv = ks.map (·.1)) := HV.out.1
  have HNL : Hid (nv.length = n1) := show _ = _ by rw [HNV.out, List.length_map, hn1]
  clear hx ho hl hn1 HV
  go_wp2_with fail
  go_loopw [8, 18] (fun v i wr => Below w1.heap.size w1 wr ∧ ∃ (k : Nat) (C : Option Addr) (d : Nat), k ≤ n1 ∧ i = .int .i64 (k : Int) ∧ v = .slice C k d ∧ wr.ownsRow w1.heap.size 9 1 (.slice C k d) k (strCells (nv.take k))) (fun _ i _ => n1 - natV i)
  case atStart => exact ⟨Below.refl _ _, 0, none, 0, Nat.zero_le _, rfl, rfl, World.ownsRow_nil _ _ _ 1⟩
  case round =>
    obtain ⟨hB, k, C, d, hk, rfl, rfl, hown⟩ := hrel
    have HB := Lib.hid hB
    have HS := Lib.hid hown
    have hl := HL.out
    clear hown
    by_cases hlt : k < n1
    · have d1 : decide ((k : Int) < (n1 : Int)) = true := decide_eq_true (by omega)
      have d1n : decide (k < n1) = true := decide_eq_true hlt
      obtain ⟨gq, rfl, _, hgq, _, _, _, hcq⟩ := own_rows HO.out (by omega)
      have hnl := HNL.out
      obtain ⟨b, off, hp, hb, hkid⟩ := HX.out.get k (by rw [← HN1.out]; exact hlt)
      have hbw : b < w1.heap.size := Nat.lt_of_lt_of_le hb HB1.out.size
      have hq : wr.cell? ⟨gq, k, none⟩ = some (.pointer (some ⟨b, off, none⟩)) := (hB.cell hgq).trans (hcq _ _ hp)
      have hnm : wr.cell? ⟨b, off, none⟩ = some (.string ⟨(nv[k]).toArray⟩) := (hB.cell hbw).trans (by
        rw [hkid.1]
        simp [HNV.out])
      have HNS : Hid (strCells (nv.take (k + 1)) = strCells (nv.take k) ++ [.string ⟨(nv[k]).toArray⟩]) := names_snoc nv k (by omega)
      generalize nv[k] = nm at *
      have i0 : (0 : Int) ≤ (k : Int) := by omega
      have i1 : (k : Int) < (n1 : Int) := by omega
      have HK1 : Hid (k + 1 ≤ n1) := hlt
      have u2 : Hid (wrap64 ((k : Int) + 1) = ((k + 1 : Nat) : Int)) := show _ = _ from w64 (by omega) (by omega)
      obtain ⟨j0, hi0, hz0, hz1, hz2⟩ := info_parts info_strs
      have HZ := Lib.hid hz0; have HI0 := Lib.hid hi0; have H1 := Lib.hid hz1; have H2 := Lib.hid hz2
      have M2 : k + 1 ≤ maxLen := by simp only [maxLen]; omega
      have M3 : (k + 1) * 16 ≤ 140737488355328 := by omega
      have l4 : ∀ u ∈ ([.string ⟨nm.toArray⟩] : List Value), u.oneCell' = true := by simp [Value.oneCell']
      have hgn := heap_alloc_new wr (.cells #[.string ⟨nm.toArray⟩] 9)
      have HOA : Hid ((wr.alloc (.cells #[.string ⟨nm.toArray⟩] 9)).ownsRow w1.heap.size 9 1 (.slice C k d) k (strCells (nv.take k))) := HS.out.alloc _
      have BA : Below w1.heap.size w1 (wr.alloc (.cells #[.string ⟨nm.toArray⟩] 9)) := HB.out.alloc HB.out.size _
      have HSr : Hid (0 < 1 → ∃ ad, some (⟨wr.heap.size, 0, none⟩ : Addr) = some ad ∧ ∀ j u, ([.string ⟨nm.toArray⟩] : List Value)[j]? = some u → (wr.alloc (.cells #[.string ⟨nm.toArray⟩] 9)).cell? (ad.add j) = some u) := fun _ =>
        ⟨_, rfl, World.news_of_block (cs := #[.string ⟨nm.toArray⟩]) (t := 9) (fr := (0, 0)) hgn⟩
      have hsz : w1.heap.size ≤ (wr.alloc (.cells #[.string ⟨nm.toArray⟩] 9)).heap.size := BA.size
      clear hz0 hi0 hz1 hz2 hgn hcq hp hkid hnl hB
      go_wp2_with (first | (at_builtin; refine wpList_append_held _ rfl (.tmp 22) (.tmp 27) 32 rfl w1.heap.size 9 j0 _ 16 Try.underlying32 HI0.out HZ.out H1.out H2.out rfl _ k _ rfl HOA.out (some ⟨wr.heap.size, 0, none⟩) 1 1 [.string ⟨nm.toArray⟩] rfl rfl HSr.out l4 M2 M3 hsz ?_))
      intro A5 c5 w5 ho5 hg5 _
      have HB6 := Lib.hid (BA.grown hg5 BA.size (fun k hk => (HOA.out.lt k hk).1))
      have HO5 : Hid (w5.ownsRow w1.heap.size 9 1 (.slice A5 (k + 1) c5) (k + 1) (strCells (nv.take (k + 1)))) := by rw [HNS.out]; exact ho5
      clear ho5 hg5 HOA BA HSr hsz l4 M2 M3 hq hnm HS HI0 HZ H1 H2 HB
      go_wp2_with fail
      go_roundw
      case rel => exact ⟨HB6.out, k + 1, A5, c5, HK1.out, by first | rfl | rw [u2.out], rfl, HO5.out⟩
      case measure => have := HK1.out; first | (rw [u2.out]; simp [natV]; omega) | (simp [natV]; omega)
    · obtain rfl : k = n1 := by omega
      have d1 : decide ((k : Int) < (k : Int)) = false := decide_eq_false (by omega)
      have d1n : decide (k < k) = false := decide_eq_false (by omega)
      clear hk hlt hB
      go_wp2_with fail
      go_ret2
      have e := HNL.out
      have h2 := HS.out
      rw [List.take_of_length_le (by omega)] at h2
      refine ⟨⟨C, d, by rw [e]; rfl, by rw [e]; exact own_mono h2 HB1.out.size⟩, HB1.out.trans (HB.out.mono HB1.out.size)⟩
end Go.Proofs.Ytmkgcifcfgfegaa
