/-
  What the document's Names does (chapter 18), for every tree and every path; no condition but bounds.
-/
import Derived.Test.YtmkgcifcfgfegaaRefGet18
import Derived.Test.YtmkgcifcfgfegaaKids18
import Derived.Deep.AppendLies
namespace Go.Proofs.Ytmkgcifcfgfegaa
set_option maxRecDepth 100000
open Go.RowKit

def strCells (ns : List (List UInt8)) : List Value := ns.map fun n => .string ⟨n.toArray⟩
/-- The answer of Names. -/
def AnsN (w : World) (r : Option (List (List UInt8))) (e : Ending) (w' : World) : Prop :=
  (match r with
    | none => e = .returned (.tuple #[.slice none 0 0, .bool false])
    | some ns => ∃ (A : Option Addr) (c : Nat), e = .returned (.tuple #[.slice A ns.length c, .bool true]) ∧ w'.ownsRow w.heap.size 9 1 (.slice A ns.length c) ns.length (strCells ns)) ∧ Below w.heap.size w w'
theorem owns_nine {w : World} {base g sz n : Nat} {e : TypeId} {v : Value} {xs : List Value} (hg : g < base) (h : w.ownsRow base e sz v n xs) (A C D E F G X Y Z : Value) :
    (((((((((w.setCell ⟨g, 0, none⟩ A).setCell ⟨g, 1, none⟩ C).setCell ⟨g, 2, none⟩ D).setCell ⟨g, 3, none⟩ E).setCell ⟨g, 4, none⟩ F).setCell ⟨g, 5, none⟩ G).setCell ⟨g, 6, none⟩ X).setCell ⟨g, 7, none⟩ Y).setCell ⟨g, 8, none⟩ Z).ownsRow base e sz v n xs := by
  refine ⟨h.1, ?_⟩
  rcases h.2 with h2 | ⟨k, cap, cur, e1, hb, hk, r⟩
  · exact .inl h2
  · exact .inr ⟨k, cap, cur, e1, hb, (keep_nine (by omega) _ _ _ _ _ _ _ _ _).trans hk, r⟩
set_option maxHeartbeats 16000000 in
theorem refNames_any (p : List Int) (t : Tree) (cs : List Value) (A : Option Addr) (n c : Nat) (w : World) (hT : TreeAt w (· < w.heap.size) t cs) (hP : Ints w (· < w.heap.size) A n p) (hn : n ≤ 1000000) :
    Calls Try.prog 12 #[.agg cs.toArray, .slice A n c] w (AnsN w (namesT t p)) := by
  obtain ⟨o, l⟩ := t
  obtain ⟨Ab, cb, Ak, ck, rfl, _, _, _, _⟩ := hT.open_
  have B2 : Below w.heap.size w (w.alloc (.cells #[.int .i64 o.kind, .int .u64 (o.bits : Int), .int .u64 (o.high : Int), .int .u64 (o.low : Int), .string ⟨o.text.toArray⟩, .string ⟨o.more.toArray⟩, .int .i64 o.sub, .slice Ab o.bytes.length cb, .slice Ak l.length ck] 26)) := (Below.refl _ _).alloc (Nat.le_refl _) _
  have g0 : (w.alloc (.cells #[.int .i64 o.kind, .int .u64 (o.bits : Int), .int .u64 (o.high : Int), .int .u64 (o.low : Int), .string ⟨o.text.toArray⟩, .string ⟨o.more.toArray⟩, .int .i64 o.sub, .slice Ab o.bytes.length cb, .slice Ak l.length ck] 26)).heap[w.heap.size]? = some (.cells #[.int .i64 o.kind, .int .u64 (o.bits : Int), .int .u64 (o.high : Int), .int .u64 (o.low : Int), .string ⟨o.text.toArray⟩, .string ⟨o.more.toArray⟩, .int .i64 o.sub, .slice Ab o.bytes.length cb, .slice Ak l.length ck] 26) := heap_alloc_new w _
  have s1 : (w.alloc (.cells #[.int .i64 o.kind, .int .u64 (o.bits : Int), .int .u64 (o.high : Int), .int .u64 (o.low : Int), .string ⟨o.text.toArray⟩, .string ⟨o.more.toArray⟩, .int .i64 o.sub, .slice Ab o.bytes.length cb, .slice Ak l.length ck] 26)).heap.size = w.heap.size + 1 := by simp
  have HT2 := Lib.hid (hT.on B2)
  have HP := Lib.hid hP
  have HN := Lib.hid hn
  have HB2 := Lib.hid B2
  have G0 := Lib.hid g0
  have HS1 := Lib.hid s1
  obtain ⟨r, hr⟩ : ∃ r, r = namesT (.node o l) p := ⟨_, rfl⟩
  rw [← hr]
  have hr0 : r = (namesT (.node o l) (p.drop 0)).map (([] : List (List UInt8)) ++ ·) := by
    rw [hr, List.drop_zero]
    cases namesT (.node o l) p <;> rfl
  have HR := Lib.hid hr0
  clear hT hP hn B2 g0 s1 hr hr0
  unfold cellsV at *
  go_enter Try.func12, Try.ntmps12
  go_upto_region 1 with fail
  generalize (w.alloc (.cells #[.int .i64 o.kind, .int .u64 (o.bits : Int), .int .u64 (o.high : Int), .int .u64 (o.low : Int), .string ⟨o.text.toArray⟩, .string ⟨o.more.toArray⟩, .int .i64 o.sub, .slice Ab o.bytes.length cb, .slice Ak l.length ck] 26)) = W at *
  go_wp2_with fail
  go_loopw [6, 7] (fun v i wr => Below w.heap.size w wr ∧ w.heap.size + 1 ≤ wr.heap.size ∧ ∃ (k : Nat) (o' : OwnV) (l' : List Kid) (Kb : Option Addr) (kb : Nat) (Kk : Option Addr) (kk : Nat) (C : Option Addr) (d : Nat) (ns : List (List UInt8)), k ≤ n ∧ ns.length = k ∧ i = .int .i64 (k : Int) ∧ wr.heap[w.heap.size]? = some (.cells #[.int .i64 o'.kind, .int .u64 (o'.bits : Int), .int .u64 (o'.high : Int), .int .u64 (o'.low : Int), .string ⟨o'.text.toArray⟩, .string ⟨o'.more.toArray⟩, .int .i64 o'.sub, .slice Kb o'.bytes.length kb, .slice Kk l'.length kk] 26) ∧ TreeAt wr (· < w.heap.size) (.node o' l') [.int .i64 o'.kind, .int .u64 (o'.bits : Int), .int .u64 (o'.high : Int), .int .u64 (o'.low : Int), .string ⟨o'.text.toArray⟩, .string ⟨o'.more.toArray⟩, .int .i64 o'.sub, .slice Kb o'.bytes.length kb, .slice Kk l'.length kk] ∧
    v = .slice C k d ∧ wr.ownsRow (w.heap.size + 1) 9 1 (.slice C k d) k (strCells ns) ∧ r = (namesT (.node o' l') (p.drop k)).map (ns ++ ·)) (fun _ i _ => n - natV i)
  case atStart => exact ⟨HB2.out, by rw [HS1.out]; exact Nat.le_refl _, 0, o, l, Ab, cb, Ak, ck, none, 0, [], Nat.zero_le _, rfl, rfl, G0.out, HT2.out, rfl, World.ownsRow_nil _ _ _ 1, HR.out⟩
  case round =>
    obtain ⟨hB, hsz1, k, o', l', Kb, kb, Kk, kk, C, d, ns, hk, hnl, rfl, hb, hT, rfl, ho, hr⟩ := hrel
    clear HB2 G0 HT2 HR HS1
    have HB := Lib.hid hB
    have HO := Lib.hid ho
    have HSZ := Lib.hid hsz1
    have HNL := Lib.hid hnl
    clear ho hsz1 hnl
    have hn := HN.out
    by_cases hlt : k < n
    · have d1 : decide ((k : Int) < (n : Int)) = true := decide_eq_true (by omega)
      have d1n : decide (k < n) = true := decide_eq_true hlt
      have hpl := HP.out.1
      obtain ⟨pb, po, rfl, hpb, hpc⟩ := HP.out.2 (by omega)
      have hx : wr.cell? ⟨pb, po + k, none⟩ = some (.int .i64 (p.getD k 0)) := (hB.cell hpb).trans (hpc k hlt)
      have ed : p.drop k = p.getD k 0 :: p.drop (k + 1) := by
        rw [List.drop_eq_getElem_cons (by omega)]
        simp [List.getD, show k < p.length by omega]
      rw [ed] at hr
      generalize p.getD k 0 = x at *
      have j8 : wr.cell? ⟨w.heap.size, 8, none⟩ = some (.slice Kk l'.length kk) := by rw [block_cell hb]; rfl
      have hki : (0 : Int) ≤ (k : Int) := by omega
      have hkn : (k : Int) < (n : Int) := by omega
      have rx := cell_regrown hx
      have r8 := cell_regrown j8
      by_cases c1 : x < 0
      · have e1 : decide (x < 0) = true := decide_eq_true c1
        have HE : Hid (r = none) := show _ = _ by rw [hr, namesT, dif_neg (by omega)]; rfl
        clear hr ed hpl hpc hT
        go_upto_region 5 with fail
        refine wp_region_quiet_below (by kernel_rfl) (by kernel_rfl) ?_
        repeat (go_big_quiet_step (fail))
        refine wpQuiet_nil ?_
        intro _ hw'
        obtain ⟨⟨dq, osq⟩, hw''⟩ := hw'
        subst hw''
        have HB5 := Lib.hid (HB.out.trans ((below_regrown wr dq osq).mono HB.out.size))
        generalize Sort.grow (redrawn wr dq) osq = w2 at *
        clear hx j8 rx r8
        go_wp2_with fail
        go_ret2
        refine ⟨?_, HB5.out⟩
        rw [HE.out]
        rfl
      have e1 : decide (x < 0) = false := decide_eq_false c1
      by_cases c2 : (l'.length : Int) ≤ x
      · have e2 : decide ((l'.length : Int) ≤ x) = true := decide_eq_true c2
        have HE : Hid (r = none) := show _ = _ by rw [hr, namesT, dif_neg (by omega)]; rfl
        clear hr ed hpl hpc hT
        go_upto_region 5 with fail
        refine wp_region_quiet_below (by kernel_rfl) (by kernel_rfl) ?_
        repeat (go_big_quiet_step (fail))
        refine wpQuiet_nil ?_
        intro _ hw'
        obtain ⟨⟨dq, osq⟩, hw''⟩ := hw'
        subst hw''
        have HB5 := Lib.hid (HB.out.trans ((below_regrown wr dq osq).mono HB.out.size))
        generalize Sort.grow (redrawn wr dq) osq = w2 at *
        clear hx j8 rx r8
        go_wp2_with fail
        go_ret2
        refine ⟨?_, HB5.out⟩
        rw [HE.out]
        rfl
      have e2 : decide ((l'.length : Int) ≤ x) = false := decide_eq_false c2
      obtain ⟨m, rfl⟩ : ∃ m : Nat, x = (m : Int) := ⟨x.toNat, by omega⟩
      have hm : m < l'.length := by omega
      obtain ⟨_, _, _, _, ecs, _, _, _, hkids⟩ := hT.open_
      unfold cellsV at ecs
      simp only [List.cons.injEq, Value.slice.injEq, and_true, true_and] at ecs
      obtain ⟨gb, go, eK, hgb, hK⟩ := hkids (fun e => by rw [e] at hm; exact absurd hm (Nat.not_lt_zero _))
      have eKk : Kk = some ⟨gb, go, none⟩ := by rw [← eK]; simp_all
      subst eKk
      obtain ⟨hkn1, hknl, kcs, _, hkc, hkT⟩ := kids_get hK m hm
      obtain ⟨y, hy⟩ : ∃ y, y = l'[m] := ⟨_, rfl⟩
      rw [← hy] at hkT hkn1
      have hr2 : r = (namesT y.2 (p.drop (k + 1))).map ((ns ++ [y.1]) ++ ·) := by
        rw [hr, namesT, dif_pos (by omega), hy]
        simp only [Int.toNat_natCast, Option.map_map]
        congr 1
        funext z
        simp
      obtain ⟨yn, o2, l2⟩ := y
      have hkT : TreeAt wr (· < w.heap.size) (.node o2 l2) kcs := hkT
      have hkTo := hkT.open_
      obtain ⟨Nb, nb, Nk, nk, rfl, _, _, _, _⟩ := hkTo
      have HR2 : Hid (r = (namesT (.node o2 l2) (p.drop (k + 1))).map ((ns ++ [yn]) ++ ·)) := hr2
      have qn : wr.cell? ⟨gb, go + m * 10, none⟩ = some (.string ⟨yn.toArray⟩) := hkn1
      have HKT := Lib.hid hkT
      have HK1 : Hid (k + 1 ≤ n) := hlt
      have u2 : Hid (wrap64 ((k : Int) + 1) = ((k + 1 : Nat) : Int)) := show _ = _ from w64 (by omega) (by omega)
      have hm0 : (0 : Int) ≤ (m : Int) := by omega
      have hm1 : (m : Int) < (l'.length : Int) := by omega
      have q0 : wr.cell? ⟨gb, go + m * 10 + 1, none⟩ = some (.int .i64 o2.kind) := hkc 0 (by decide)
      have q1 : wr.cell? ⟨gb, go + m * 10 + 2, none⟩ = some (.int .u64 (o2.bits : Int)) := hkc 1 (by decide)
      have q2 : wr.cell? ⟨gb, go + m * 10 + 3, none⟩ = some (.int .u64 (o2.high : Int)) := hkc 2 (by decide)
      have q3 : wr.cell? ⟨gb, go + m * 10 + 4, none⟩ = some (.int .u64 (o2.low : Int)) := hkc 3 (by decide)
      have q4 : wr.cell? ⟨gb, go + m * 10 + 5, none⟩ = some (.string ⟨o2.text.toArray⟩) := hkc 4 (by decide)
      have q5 : wr.cell? ⟨gb, go + m * 10 + 6, none⟩ = some (.string ⟨o2.more.toArray⟩) := hkc 5 (by decide)
      have q6 : wr.cell? ⟨gb, go + m * 10 + 7, none⟩ = some (.int .i64 o2.sub) := hkc 6 (by decide)
      have q7 : wr.cell? ⟨gb, go + m * 10 + 8, none⟩ = some (.slice Nb o2.bytes.length nb) := hkc 7 (by decide)
      have q8 : wr.cell? ⟨gb, go + m * 10 + 9, none⟩ = some (.slice Nk l2.length nk) := hkc 8 (by decide)
      have HGB : Hid (gb < w.heap.size) := hgb
      have HPB : Hid (pb < w.heap.size) := hpb
      clear hr hr2 ed hpl hpc hT ecs hkids eK hK hkT hy hkc hkn1 hknl hgb
      go_upto_region 5 with fail
      refine wp_region_quiet_below (by kernel_rfl) (by kernel_rfl) ?_
      repeat (go_big_quiet_step (fail))
      refine wpQuiet_nil ?_
      intro _ hw'
      obtain ⟨⟨dq, osq⟩, hw''⟩ := hw'
      subst hw''
      have hb2 := ((below_regrown wr dq osq).block _ (block_lt hb)).trans hb
      have hx2 := cell_regrown hx dq osq
      have j82 := cell_regrown j8 dq osq
      have sn := cell_regrown qn dq osq
      have HO2 : Hid ((Sort.grow (redrawn wr dq) osq).ownsRow (w.heap.size + 1) 9 1 (.slice C k d) k (strCells ns)) := owns_up HO.out (below_regrown wr dq osq)
      have HSZ2 : Hid (w.heap.size + 1 ≤ (Sort.grow (redrawn wr dq) osq).heap.size) := Nat.le_trans HSZ.out (below_regrown wr dq osq).size
      have s0 := cell_regrown q0 dq osq
      have s1 := cell_regrown q1 dq osq
      have s2 := cell_regrown q2 dq osq
      have s3 := cell_regrown q3 dq osq
      have s4 := cell_regrown q4 dq osq
      have s5 := cell_regrown q5 dq osq
      have s6 := cell_regrown q6 dq osq
      have s7 := cell_regrown q7 dq osq
      have s8 := cell_regrown q8 dq osq
      have HB5 := Lib.hid (HB.out.trans ((below_regrown wr dq osq).mono HB.out.size))
      have HKT5 := Lib.hid (TreeAt.keep (fun b hb => (below_regrown wr dq osq).block b (Nat.lt_of_lt_of_le hb HB.out.size)) _ _ HKT.out)
      clear hb hx j8 rx r8 hB HKT HB HO HSZ qn q0 q1 q2 q3 q4 q5 q6 q7 q8
      generalize Sort.grow (redrawn wr dq) osq = w2 at *
      have HBB := Lib.hid hb2
      have x8 : w2.cell? ⟨w.heap.size, 8, none⟩ = some (.slice (some ⟨gb, go, none⟩) l'.length kk) := by rw [block_cell hb2]; rfl
      have Sn := Lib.hid sn; have S0 := Lib.hid s0; have S1 := Lib.hid s1; have S2 := Lib.hid s2; have S3 := Lib.hid s3; have S4 := Lib.hid s4; have S5 := Lib.hid s5; have S6 := Lib.hid s6; have S7 := Lib.hid s7; have S8 := Lib.hid s8; have HX2 := Lib.hid hx2
      clear s0 s1 s2 s3 s4 s5 s6 s7 s8 j82
      clear hb2
      obtain ⟨i0, hi0, hz0, hz1, hz2⟩ := info_parts info_strs
      have HZ := Lib.hid hz0; have HI0 := Lib.hid hi0; have H1 := Lib.hid hz1; have H2 := Lib.hid hz2
      have L2 : k + 1 ≤ maxLen := by simp only [maxLen]; omega
      have L3 : (k + 1) * 16 ≤ 140737488355328 := by omega
      have hsz := HSZ2.out
      clear hz0 hi0 hz1 hz2
      go_upto_region 7 with fail
      go_region_law
        (first
          | (refine step_append_lies _ (by rfl) _ _ _ (by rfl) (w.heap.size + 1) 9 i0 _ 1 16 Try.underlying32 HI0.out HZ.out H1.out H2.out rfl (by omega) (.slice C k d) k _ (by rfl) ((HO2.out.alloc _).drew)
              ⟨w2.heap.size, 0, none⟩ 1 1 [.string ⟨yn.toArray⟩] (by rfl) (by rfl) (World.news_of_block (cs := #[.string ⟨yn.toArray⟩]) (t := 9) (fr := (0, 0)) (heap_alloc_new w2 _)) (by simp [Value.oneCell'])
              (by omega) L2 L3 (by simp; omega) (w2.heap.size + 1) (by simp) ?_; intro gg cap w5 hown1 hgrow hat hlt2))
      all_goals
        have BW : Below (w.heap.size + 1) w2 w5 := (((Below.refl (w.heap.size + 1) w2).alloc hsz _).drew).grown hgrow (by simp; omega) (fun k hk => (HO2.out.lt k hk).1)
        have HB6 := Lib.hid (HB5.out.trans (BW.mono (Nat.le_succ _)))
        have hb2 := (BW.block _ (Nat.lt_succ_self _)).trans HBB.out
        have HSZ6 : Hid (w.heap.size + 1 ≤ w5.heap.size) := Nat.le_trans HSZ2.out BW.size
        have lowG : ∀ j, w5.cell? ⟨gb, j, none⟩ = w2.cell? ⟨gb, j, none⟩ := fun j => BW.cell (p := ⟨gb, j, none⟩) (Nat.lt_succ_of_lt HGB.out)
        have hx5 := (BW.cell (p := ⟨pb, po + k, none⟩) (Nat.lt_succ_of_lt HPB.out)).trans HX2.out
        have s0 := (lowG _).trans S0.out
        have s1 := (lowG _).trans S1.out
        have s2 := (lowG _).trans S2.out
        have s3 := (lowG _).trans S3.out
        have s4 := (lowG _).trans S4.out
        have s5 := (lowG _).trans S5.out
        have s6 := (lowG _).trans S6.out
        have s7 := (lowG _).trans S7.out
        have s8 := (lowG _).trans S8.out
        have HKT6 := Lib.hid (TreeAt.keep (fun z (hz : z < w.heap.size) => BW.block z (Nat.lt_succ_of_lt hz)) _ _ HKT5.out)
        have HO6 : Hid (w5.ownsRow (w.heap.size + 1) 9 1 (.slice (some ⟨gg, 0, none⟩) (k + 1) cap) (k + 1) (strCells (ns ++ [yn]))) := show World.ownsRow _ _ _ _ _ _ _ from by
          unfold strCells at hown1 ⊢
          rw [List.map_append]
          exact hown1
        clear hown1 hgrow hat hlt2 lowG HB5 HBB HO2 HSZ2 HKT5 S0 S1 S2 S3 S4 S5 S6 S7 S8 Sn sn HX2 x8 hx2 hsz BW L2 L3
        have HBB := Lib.hid hb2
        have x0 : w5.cell? ⟨w.heap.size, 0, none⟩ = some (.int .i64 o'.kind) := by rw [block_cell hb2]; rfl
        have x1 : w5.cell? ⟨w.heap.size, 1, none⟩ = some (.int .u64 (o'.bits : Int)) := by rw [block_cell hb2]; rfl
        have x2 : w5.cell? ⟨w.heap.size, 2, none⟩ = some (.int .u64 (o'.high : Int)) := by rw [block_cell hb2]; rfl
        have x3 : w5.cell? ⟨w.heap.size, 3, none⟩ = some (.int .u64 (o'.low : Int)) := by rw [block_cell hb2]; rfl
        have x4 : w5.cell? ⟨w.heap.size, 4, none⟩ = some (.string ⟨o'.text.toArray⟩) := by rw [block_cell hb2]; rfl
        have x5 : w5.cell? ⟨w.heap.size, 5, none⟩ = some (.string ⟨o'.more.toArray⟩) := by rw [block_cell hb2]; rfl
        have x6 : w5.cell? ⟨w.heap.size, 6, none⟩ = some (.int .i64 o'.sub) := by rw [block_cell hb2]; rfl
        have x7 : w5.cell? ⟨w.heap.size, 7, none⟩ = some (.slice Kb o'.bytes.length kb) := by rw [block_cell hb2]; rfl
        have x8 : w5.cell? ⟨w.heap.size, 8, none⟩ = some (.slice (some ⟨gb, go, none⟩) l'.length kk) := by rw [block_cell hb2]; rfl
        have f0 : w5.frozen? ⟨w.heap.size, 0, none⟩ = false := block_frozen hb2 0
        have f1 : w5.frozen? ⟨w.heap.size, 1, none⟩ = false := block_frozen hb2 1
        have f2 : w5.frozen? ⟨w.heap.size, 2, none⟩ = false := block_frozen hb2 2
        have f3 : w5.frozen? ⟨w.heap.size, 3, none⟩ = false := block_frozen hb2 3
        have f4 : w5.frozen? ⟨w.heap.size, 4, none⟩ = false := block_frozen hb2 4
        have f5 : w5.frozen? ⟨w.heap.size, 5, none⟩ = false := block_frozen hb2 5
        have f6 : w5.frozen? ⟨w.heap.size, 6, none⟩ = false := block_frozen hb2 6
        have f7 : w5.frozen? ⟨w.heap.size, 7, none⟩ = false := block_frozen hb2 7
        have f8 : w5.frozen? ⟨w.heap.size, 8, none⟩ = false := block_frozen hb2 8
        clear hb2
        go_upto_region 8 with fail
        go_still_tail 9, (by kernel_rfl)
        repeat still_step
        change wpList _ _ _ _ _ w5.drew
        go_wp2_with fail
        have ng : ∀ z, z < w.heap.size → ¬ w.heap.size = z := fun z hz => by omega
        have Y0 := Lib.hid (ng)
        have Y1 := Lib.hid (below_nine HB6.out (Nat.le_refl _) (.int .i64 o2.kind) (.int .u64 (o2.bits : Int)) (.int .u64 (o2.high : Int)) (.int .u64 (o2.low : Int)) (.string ⟨o2.text.toArray⟩) (.string ⟨o2.more.toArray⟩) (.int .i64 o2.sub) (.slice Nb o2.bytes.length nb) (.slice Nk l2.length nk))
        have Y2 : Hid (((((((((w5.setCell ⟨w.heap.size, 0, none⟩ (.int .i64 o2.kind)).setCell ⟨w.heap.size, 1, none⟩ (.int .u64 (o2.bits : Int))).setCell ⟨w.heap.size, 2, none⟩ (.int .u64 (o2.high : Int))).setCell ⟨w.heap.size, 3, none⟩ (.int .u64 (o2.low : Int))).setCell ⟨w.heap.size, 4, none⟩ (.string ⟨o2.text.toArray⟩)).setCell ⟨w.heap.size, 5, none⟩ (.string ⟨o2.more.toArray⟩)).setCell ⟨w.heap.size, 6, none⟩ (.int .i64 o2.sub)).setCell ⟨w.heap.size, 7, none⟩ (.slice Nb o2.bytes.length nb)).setCell ⟨w.heap.size, 8, none⟩ (.slice Nk l2.length nk) |>.ownsRow (w.heap.size + 1) 9 1 (.slice (some ⟨gg, 0, none⟩) (k + 1) cap) (k + 1) (strCells (ns ++ [yn]))) := show World.ownsRow _ _ _ _ _ _ _ from owns_nine (Nat.lt_succ_self _) HO6.out _ _ _ _ _ _ _ _ _
        have Y5 : Hid (w.heap.size + 1 ≤ ((((((((((w5.setCell ⟨w.heap.size, 0, none⟩ (.int .i64 o2.kind)).setCell ⟨w.heap.size, 1, none⟩ (.int .u64 (o2.bits : Int))).setCell ⟨w.heap.size, 2, none⟩ (.int .u64 (o2.high : Int))).setCell ⟨w.heap.size, 3, none⟩ (.int .u64 (o2.low : Int))).setCell ⟨w.heap.size, 4, none⟩ (.string ⟨o2.text.toArray⟩)).setCell ⟨w.heap.size, 5, none⟩ (.string ⟨o2.more.toArray⟩)).setCell ⟨w.heap.size, 6, none⟩ (.int .i64 o2.sub)).setCell ⟨w.heap.size, 7, none⟩ (.slice Nb o2.bytes.length nb)).setCell ⟨w.heap.size, 8, none⟩ (.slice Nk l2.length nk)).heap.size)) := Nat.le_trans HSZ6.out (below_nine (Below.refl 0 w5) (Nat.zero_le _) _ _ _ _ _ _ _ _ _).size
        have Y3 := Lib.hid (nine_set (A := .int .i64 o2.kind) (B := .int .u64 (o2.bits : Int)) (C := .int .u64 (o2.high : Int)) (D := .int .u64 (o2.low : Int)) (E := .string ⟨o2.text.toArray⟩) (F := .string ⟨o2.more.toArray⟩) (X := .int .i64 o2.sub) (Y := .slice Nb o2.bytes.length nb) (Z := .slice Nk l2.length nk) HBB.out)
        have Y4 := Lib.hid (TreeAt.keep (fun z (hz : z < w.heap.size) => keep_nine (w := w5) (Y0.out z hz) (.int .i64 o2.kind) (.int .u64 (o2.bits : Int)) (.int .u64 (o2.high : Int)) (.int .u64 (o2.low : Int)) (.string ⟨o2.text.toArray⟩) (.string ⟨o2.more.toArray⟩) (.int .i64 o2.sub) (.slice Nb o2.bytes.length nb) (.slice Nk l2.length nk)) _ _ HKT6.out)
        clear x0 x1 x2 x3 x4 x5 x6 x7 x8 f0 f1 f2 f3 f4 f5 f6 f7 f8 s0 s1 s2 s3 s4 s5 s6 s7 s8 HBB HKT6 HB6 hx5 HO6 HSZ6
        generalize (((((((((w5.setCell ⟨w.heap.size, 0, none⟩ (.int .i64 o2.kind)).setCell ⟨w.heap.size, 1, none⟩ (.int .u64 (o2.bits : Int))).setCell ⟨w.heap.size, 2, none⟩ (.int .u64 (o2.high : Int))).setCell ⟨w.heap.size, 3, none⟩ (.int .u64 (o2.low : Int))).setCell ⟨w.heap.size, 4, none⟩ (.string ⟨o2.text.toArray⟩)).setCell ⟨w.heap.size, 5, none⟩ (.string ⟨o2.more.toArray⟩)).setCell ⟨w.heap.size, 6, none⟩ (.int .i64 o2.sub)).setCell ⟨w.heap.size, 7, none⟩ (.slice Nb o2.bytes.length nb)).setCell ⟨w.heap.size, 8, none⟩ (.slice Nk l2.length nk)) = W3 at *
        refine ⟨⟨Y1.out.drew, Y5.out, k + 1, o2, l2, Nb, nb, Nk, nk, _, _, ns ++ [yn], HK1.out, by rw [List.length_append, HNL.out]; rfl, rfl, Y3.out, TreeAt.keep (w := W3) (w' := W3.drew) (fun _ _ => rfl) _ _ Y4.out, rfl, Y2.out, HR2.out⟩, ?_⟩
        have := HK1.out
        simp only [natV]
        omega
    · obtain rfl : k = n := by omega
      have d1 : decide ((k : Int) < (k : Int)) = false := decide_eq_false (by omega)
      have d1n : decide (k < k) = false := decide_eq_false (by omega)
      have HE : Hid (r = some ns) := show _ = _ by
        have := HP.out.1
        rw [hr, List.drop_of_length_le (by omega), namesT]
        simp
      clear hr hT hb hB
      go_wp2_with fail
      go_ret2
      refine ⟨?_, HB.out⟩
      rw [HE.out]
      have e := HNL.out
      refine ⟨C, d, by rw [e]; rfl, by rw [e]; exact own_mono HO.out (Nat.le_succ _)⟩
end Go.Proofs.Ytmkgcifcfgfegaa
