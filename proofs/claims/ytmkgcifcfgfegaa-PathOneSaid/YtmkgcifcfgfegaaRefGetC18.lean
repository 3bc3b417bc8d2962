/-
  What the document's Get does (chapter 18), the room of the rows told, too; no condition but bounds.
-/
import Derived.Test.YtmkgcifcfgfegaaPathPure
import Derived.Test.YtmkgcifcfgfegaaValAt17
import Derived.Test.YtmkgcifcfgfegaaTreeC18
namespace Go.Proofs.Ytmkgcifcfgfegaa
set_option maxRecDepth 100000
open Go.RowKit

/-- The answer of Get. -/
def AnsGC (w : World) (r : Option Tree) (e : Ending) (w' : World) : Prop :=
  (match r with
    | none => e = .returned (.tuple #[.agg #[.int .i64 0, .int .u64 0, .int .u64 0, .int .u64 0, .string ⟨#[]⟩, .string ⟨#[]⟩, .int .i64 0, .slice none 0 0, .slice none 0 0], .bool false])
    | some t => ∃ (p : OwnV) (Db : Option Addr) (d : Nat) (Dk : Option Addr) (m dk : Nat), e = .returned (.tuple #[.agg #[.int .i64 p.kind, .int .u64 (p.bits : Int), .int .u64 (p.high : Int), .int .u64 (p.low : Int), .string ⟨p.text.toArray⟩, .string ⟨p.more.toArray⟩, .int .i64 p.sub, .slice Db p.bytes.length d, .slice Dk m dk], .bool true]) ∧ TreeC w' (· < w'.heap.size) t (cellsV p Db d Dk m dk)) ∧ Below w.heap.size w w'
set_option maxHeartbeats 8000000 in
theorem refGetC_any (p : List Int) (t : Tree) (cs : List Value) (A : Option Addr) (n c : Nat) (w : World) (hT : TreeC w (· < w.heap.size) t cs) (hP : Ints w (· < w.heap.size) A n p) (hn : n ≤ 1000000) :
    Calls Try.prog 10 #[.agg cs.toArray, .slice A n c] w (AnsGC w (getT t p)) := by
  obtain ⟨o, l⟩ := t
  obtain ⟨Ab, cb, Ak, ck, rfl, _, _, _, _⟩ := hT.open_
  have B2 : Below w.heap.size w ((w.alloc (.cells #[.int .i64 o.kind, .int .u64 (o.bits : Int), .int .u64 (o.high : Int), .int .u64 (o.low : Int), .string ⟨o.text.toArray⟩, .string ⟨o.more.toArray⟩, .int .i64 o.sub, .slice Ab o.bytes.length cb, .slice Ak l.length ck] 26)).alloc (.cells #[.int .i64 0, .int .u64 0, .int .u64 0, .int .u64 0, .string ⟨#[]⟩, .string ⟨#[]⟩, .int .i64 0, .slice none 0 0, .slice none 0 0] 26)) := two_new2 _ _ _
  have g1 : ((w.alloc (.cells #[.int .i64 o.kind, .int .u64 (o.bits : Int), .int .u64 (o.high : Int), .int .u64 (o.low : Int), .string ⟨o.text.toArray⟩, .string ⟨o.more.toArray⟩, .int .i64 o.sub, .slice Ab o.bytes.length cb, .slice Ak l.length ck] 26)).alloc (.cells #[.int .i64 0, .int .u64 0, .int .u64 0, .int .u64 0, .string ⟨#[]⟩, .string ⟨#[]⟩, .int .i64 0, .slice none 0 0, .slice none 0 0] 26)).heap[w.heap.size + 1]? = some (.cells #[.int .i64 0, .int .u64 0, .int .u64 0, .int .u64 0, .string ⟨#[]⟩, .string ⟨#[]⟩, .int .i64 0, .slice none 0 0, .slice none 0 0] 26) := heap_two2 _ _ _
  have g0 : ((w.alloc (.cells #[.int .i64 o.kind, .int .u64 (o.bits : Int), .int .u64 (o.high : Int), .int .u64 (o.low : Int), .string ⟨o.text.toArray⟩, .string ⟨o.more.toArray⟩, .int .i64 o.sub, .slice Ab o.bytes.length cb, .slice Ak l.length ck] 26)).alloc (.cells #[.int .i64 0, .int .u64 0, .int .u64 0, .int .u64 0, .string ⟨#[]⟩, .string ⟨#[]⟩, .int .i64 0, .slice none 0 0, .slice none 0 0] 26)).heap[w.heap.size]? = some (.cells #[.int .i64 o.kind, .int .u64 (o.bits : Int), .int .u64 (o.high : Int), .int .u64 (o.low : Int), .string ⟨o.text.toArray⟩, .string ⟨o.more.toArray⟩, .int .i64 o.sub, .slice Ab o.bytes.length cb, .slice Ak l.length ck] 26) := (Below.heap_alloc _ _ _ (by simp)).trans (heap_alloc_new w _)
  have HT2 := Lib.hid (hT.on B2)
  have HP := Lib.hid hP
  have HN := Lib.hid hn
  have HB2 := Lib.hid B2
  have G0 := Lib.hid g0
  have G1 := Lib.hid g1
  obtain ⟨r, hr⟩ : ∃ r, r = getT (.node o l) p := ⟨_, rfl⟩
  rw [← hr]
  have HR := Lib.hid hr
  clear hT hP hn B2 g0 g1 hr
  unfold cellsV at *
  go_enter Try.func10, Try.ntmps10
  go_upto_region 1 with fail
  generalize ((w.alloc (.cells #[.int .i64 o.kind, .int .u64 (o.bits : Int), .int .u64 (o.high : Int), .int .u64 (o.low : Int), .string ⟨o.text.toArray⟩, .string ⟨o.more.toArray⟩, .int .i64 o.sub, .slice Ab o.bytes.length cb, .slice Ak l.length ck] 26)).alloc (.cells #[.int .i64 0, .int .u64 0, .int .u64 0, .int .u64 0, .string ⟨#[]⟩, .string ⟨#[]⟩, .int .i64 0, .slice none 0 0, .slice none 0 0] 26)) = W at *
  go_wp2_with fail
  go_loopw [6] (fun i wr => Below w.heap.size w wr ∧ wr.heap[w.heap.size + 1]? = some (.cells #[.int .i64 0, .int .u64 0, .int .u64 0, .int .u64 0, .string ⟨#[]⟩, .string ⟨#[]⟩, .int .i64 0, .slice none 0 0, .slice none 0 0] 26) ∧ ∃ (k : Nat) (o' : OwnV) (l' : List Kid) (Kb : Option Addr) (kb : Nat) (Kk : Option Addr) (kk : Nat), k ≤ n ∧ i = .int .i64 (k : Int) ∧ wr.heap[w.heap.size]? = some (.cells #[.int .i64 o'.kind, .int .u64 (o'.bits : Int), .int .u64 (o'.high : Int), .int .u64 (o'.low : Int), .string ⟨o'.text.toArray⟩, .string ⟨o'.more.toArray⟩, .int .i64 o'.sub, .slice Kb o'.bytes.length kb, .slice Kk l'.length kk] 26) ∧ TreeC wr (· < w.heap.size) (.node o' l') [.int .i64 o'.kind, .int .u64 (o'.bits : Int), .int .u64 (o'.high : Int), .int .u64 (o'.low : Int), .string ⟨o'.text.toArray⟩, .string ⟨o'.more.toArray⟩, .int .i64 o'.sub, .slice Kb o'.bytes.length kb, .slice Kk l'.length kk] ∧ r = getT (.node o' l') (p.drop k)) (fun i _ => n - natV i)
  case atStart => exact ⟨HB2.out, G1.out, 0, o, l, Ab, cb, Ak, ck, Nat.zero_le _, rfl, G0.out, HT2.out, HR.out⟩
  case round =>
    obtain ⟨hB, hz, k, o', l', Kb, kb, Kk, kk, hk, rfl, hb, hT, hr⟩ := hrel
    clear HB2 G0 G1 HT2 HR
    have HB := Lib.hid hB
    have hn := HN.out
    by_cases hlt : k < n
    · have d1 : decide ((k : Int) < (n : Int)) = true := decide_eq_true (by omega)
      have d1n : decide (k < n) = true := decide_eq_true hlt
      have hpl := HP.out.1
      obtain ⟨pb, po, rfl, hpb, hpc⟩ := HP.out.2 (by omega)
      have hx : wr.cell? ⟨pb, po + k, none⟩ = some (.int .i64 (p.getD k 0)) := (hB.cell hpb).trans (hpc k hlt)
      have ed : p.drop k = p.getD k 0 :: p.drop (k + 1) := by
        rw [List.drop_eq_getElem_cons (by omega)]
        simp [List.getD, show k < p.length by omega]
      rw [ed] at hr
      generalize p.getD k 0 = x at *
      have j8 : wr.cell? ⟨w.heap.size, 8, none⟩ = some (.slice Kk l'.length kk) := by rw [block_cell hb]; rfl
      have hki : (0 : Int) ≤ (k : Int) := by omega
      have hkn : (k : Int) < (n : Int) := by omega
      have rx := cell_regrown hx
      have r8 := cell_regrown j8
      by_cases c1 : x < 0
      · have e1 : decide (x < 0) = true := decide_eq_true c1
        have HE : Hid (r = none) := show _ = _ by rw [hr, getT, dif_neg (by omega)]
        clear hr ed hpl hpc hT
        go_upto_region 4 with fail
        refine wp_region_quiet_below (by kernel_rfl) (by kernel_rfl) ?_
        repeat (go_big_quiet_step (fail))
        refine wpQuiet_nil ?_
        intro _ hw'
        obtain ⟨⟨dq, osq⟩, hw''⟩ := hw'
        subst hw''
        have hz2 := ((below_regrown wr dq osq).block _ (block_lt hz)).trans hz
        have HB5 := Lib.hid (HB.out.trans ((below_regrown wr dq osq).mono HB.out.size))
        generalize Sort.grow (redrawn wr dq) osq = w2 at *
        have HZ := Lib.hid hz2
        have x0 : w2.cell? ⟨w.heap.size + 1, 0, none⟩ = some (.int .i64 0) := by rw [block_cell hz2]; rfl
        have x1 : w2.cell? ⟨w.heap.size + 1, 1, none⟩ = some (.int .u64 0) := by rw [block_cell hz2]; rfl
        have x2 : w2.cell? ⟨w.heap.size + 1, 2, none⟩ = some (.int .u64 0) := by rw [block_cell hz2]; rfl
        have x3 : w2.cell? ⟨w.heap.size + 1, 3, none⟩ = some (.int .u64 0) := by rw [block_cell hz2]; rfl
        have x4 : w2.cell? ⟨w.heap.size + 1, 4, none⟩ = some (.string ⟨#[]⟩) := by rw [block_cell hz2]; rfl
        have x5 : w2.cell? ⟨w.heap.size + 1, 5, none⟩ = some (.string ⟨#[]⟩) := by rw [block_cell hz2]; rfl
        have x6 : w2.cell? ⟨w.heap.size + 1, 6, none⟩ = some (.int .i64 0) := by rw [block_cell hz2]; rfl
        have x7 : w2.cell? ⟨w.heap.size + 1, 7, none⟩ = some (.slice none 0 0) := by rw [block_cell hz2]; rfl
        have x8 : w2.cell? ⟨w.heap.size + 1, 8, none⟩ = some (.slice none 0 0) := by rw [block_cell hz2]; rfl
        have f0 : w2.frozen? ⟨w.heap.size + 1, 0, none⟩ = false := block_frozen hz2 0
        have f1 : w2.frozen? ⟨w.heap.size + 1, 1, none⟩ = false := block_frozen hz2 1
        have f2 : w2.frozen? ⟨w.heap.size + 1, 2, none⟩ = false := block_frozen hz2 2
        have f3 : w2.frozen? ⟨w.heap.size + 1, 3, none⟩ = false := block_frozen hz2 3
        have f4 : w2.frozen? ⟨w.heap.size + 1, 4, none⟩ = false := block_frozen hz2 4
        have f5 : w2.frozen? ⟨w.heap.size + 1, 5, none⟩ = false := block_frozen hz2 5
        have f6 : w2.frozen? ⟨w.heap.size + 1, 6, none⟩ = false := block_frozen hz2 6
        have f7 : w2.frozen? ⟨w.heap.size + 1, 7, none⟩ = false := block_frozen hz2 7
        have f8 : w2.frozen? ⟨w.heap.size + 1, 8, none⟩ = false := block_frozen hz2 8
        clear hz2 hz hb hB
        go_wp2_with fail
        refine bodyPost_ret (results_row2 rfl _ _ (w.heap.size + 1) #[.int .i64 0, .int .u64 0, .int .u64 0, .int .u64 0, .string ⟨#[]⟩, .string ⟨#[]⟩, .int .i64 0, .slice none 0 0, .slice none 0 0] rfl (load_value (nine_set HZ.out))) rfl ?_
        refine ⟨?_, below_nine HB5.out (Nat.le_succ _) _ _ _ _ _ _ _ _ _⟩
        rw [HE.out]
        rfl
      have e1 : decide (x < 0) = false := decide_eq_false c1
      by_cases c2 : (l'.length : Int) ≤ x
      · have e2 : decide ((l'.length : Int) ≤ x) = true := decide_eq_true c2
        have HE : Hid (r = none) := show _ = _ by rw [hr, getT, dif_neg (by omega)]
        clear hr ed hpl hpc hT
        go_upto_region 4 with fail
        refine wp_region_quiet_below (by kernel_rfl) (by kernel_rfl) ?_
        repeat (go_big_quiet_step (fail))
        refine wpQuiet_nil ?_
        intro _ hw'
        obtain ⟨⟨dq, osq⟩, hw''⟩ := hw'
        subst hw''
        have hz2 := ((below_regrown wr dq osq).block _ (block_lt hz)).trans hz
        have HB5 := Lib.hid (HB.out.trans ((below_regrown wr dq osq).mono HB.out.size))
        generalize Sort.grow (redrawn wr dq) osq = w2 at *
        have HZ := Lib.hid hz2
        have x0 : w2.cell? ⟨w.heap.size + 1, 0, none⟩ = some (.int .i64 0) := by rw [block_cell hz2]; rfl
        have x1 : w2.cell? ⟨w.heap.size + 1, 1, none⟩ = some (.int .u64 0) := by rw [block_cell hz2]; rfl
        have x2 : w2.cell? ⟨w.heap.size + 1, 2, none⟩ = some (.int .u64 0) := by rw [block_cell hz2]; rfl
        have x3 : w2.cell? ⟨w.heap.size + 1, 3, none⟩ = some (.int .u64 0) := by rw [block_cell hz2]; rfl
        have x4 : w2.cell? ⟨w.heap.size + 1, 4, none⟩ = some (.string ⟨#[]⟩) := by rw [block_cell hz2]; rfl
        have x5 : w2.cell? ⟨w.heap.size + 1, 5, none⟩ = some (.string ⟨#[]⟩) := by rw [block_cell hz2]; rfl
        have x6 : w2.cell? ⟨w.heap.size + 1, 6, none⟩ = some (.int .i64 0) := by rw [block_cell hz2]; rfl
        have x7 : w2.cell? ⟨w.heap.size + 1, 7, none⟩ = some (.slice none 0 0) := by rw [block_cell hz2]; rfl
        have x8 : w2.cell? ⟨w.heap.size + 1, 8, none⟩ = some (.slice none 0 0) := by rw [block_cell hz2]; rfl
        have f0 : w2.frozen? ⟨w.heap.size + 1, 0, none⟩ = false := block_frozen hz2 0
        have f1 : w2.frozen? ⟨w.heap.size + 1, 1, none⟩ = false := block_frozen hz2 1
        have f2 : w2.frozen? ⟨w.heap.size + 1, 2, none⟩ = false := block_frozen hz2 2
        have f3 : w2.frozen? ⟨w.heap.size + 1, 3, none⟩ = false := block_frozen hz2 3
        have f4 : w2.frozen? ⟨w.heap.size + 1, 4, none⟩ = false := block_frozen hz2 4
        have f5 : w2.frozen? ⟨w.heap.size + 1, 5, none⟩ = false := block_frozen hz2 5
        have f6 : w2.frozen? ⟨w.heap.size + 1, 6, none⟩ = false := block_frozen hz2 6
        have f7 : w2.frozen? ⟨w.heap.size + 1, 7, none⟩ = false := block_frozen hz2 7
        have f8 : w2.frozen? ⟨w.heap.size + 1, 8, none⟩ = false := block_frozen hz2 8
        clear hz2 hz hb hB
        go_wp2_with fail
        refine bodyPost_ret (results_row2 rfl _ _ (w.heap.size + 1) #[.int .i64 0, .int .u64 0, .int .u64 0, .int .u64 0, .string ⟨#[]⟩, .string ⟨#[]⟩, .int .i64 0, .slice none 0 0, .slice none 0 0] rfl (load_value (nine_set HZ.out))) rfl ?_
        refine ⟨?_, below_nine HB5.out (Nat.le_succ _) _ _ _ _ _ _ _ _ _⟩
        rw [HE.out]
        rfl
      have e2 : decide ((l'.length : Int) ≤ x) = false := decide_eq_false c2
      obtain ⟨m, rfl⟩ : ∃ m : Nat, x = (m : Int) := ⟨x.toNat, by omega⟩
      have hm : m < l'.length := by omega
      obtain ⟨_, _, _, _, ecs, _, _, _, hkids⟩ := hT.open_
      unfold cellsV at ecs
      simp only [List.cons.injEq, Value.slice.injEq, and_true, true_and] at ecs
      obtain ⟨gb, go, eK, hgb, hK⟩ := hkids (fun e => by rw [e] at hm; exact absurd hm (Nat.not_lt_zero _))
      have eKk : Kk = some ⟨gb, go, none⟩ := by rw [← eK]; simp_all
      subst eKk
      obtain ⟨_, _, kcs, _, hkc, hkT⟩ := kidsC_get hK m hm
      obtain ⟨y, hy⟩ : ∃ y, y = l'[m] := ⟨_, rfl⟩
      rw [← hy] at hkT
      have hr2 : r = getT y.2 (p.drop (k + 1)) := by
        rw [hr, getT, dif_pos (by omega), hy]
        rfl
      obtain ⟨yn, o2, l2⟩ := y
      have hkT : TreeC wr (· < w.heap.size) (.node o2 l2) kcs := hkT
      have hkTo := hkT.open_
      obtain ⟨Nb, nb, Nk, nk, rfl, _, _, _, _⟩ := hkTo
      have HR2 : Hid (r = getT (.node o2 l2) (p.drop (k + 1))) := hr2
      have HKT := Lib.hid hkT
      have HK1 : Hid (k + 1 ≤ n) := hlt
      have u2 : Hid (wrap64 ((k : Int) + 1) = ((k + 1 : Nat) : Int)) := show _ = _ from w64 (by omega) (by omega)
      have hm0 : (0 : Int) ≤ (m : Int) := by omega
      have hm1 : (m : Int) < (l'.length : Int) := by omega
      have q0 : wr.cell? ⟨gb, go + m * 10 + 1, none⟩ = some (.int .i64 o2.kind) := hkc 0 (by decide)
      have q1 : wr.cell? ⟨gb, go + m * 10 + 2, none⟩ = some (.int .u64 (o2.bits : Int)) := hkc 1 (by decide)
      have q2 : wr.cell? ⟨gb, go + m * 10 + 3, none⟩ = some (.int .u64 (o2.high : Int)) := hkc 2 (by decide)
      have q3 : wr.cell? ⟨gb, go + m * 10 + 4, none⟩ = some (.int .u64 (o2.low : Int)) := hkc 3 (by decide)
      have q4 : wr.cell? ⟨gb, go + m * 10 + 5, none⟩ = some (.string ⟨o2.text.toArray⟩) := hkc 4 (by decide)
      have q5 : wr.cell? ⟨gb, go + m * 10 + 6, none⟩ = some (.string ⟨o2.more.toArray⟩) := hkc 5 (by decide)
      have q6 : wr.cell? ⟨gb, go + m * 10 + 7, none⟩ = some (.int .i64 o2.sub) := hkc 6 (by decide)
      have q7 : wr.cell? ⟨gb, go + m * 10 + 8, none⟩ = some (.slice Nb o2.bytes.length nb) := hkc 7 (by decide)
      have q8 : wr.cell? ⟨gb, go + m * 10 + 9, none⟩ = some (.slice Nk l2.length nk) := hkc 8 (by decide)
      clear hr hr2 ed hpl hpc hT ecs hkids eK hK hkT hy hkc
      go_upto_region 4 with fail
      refine wp_region_quiet_below (by kernel_rfl) (by kernel_rfl) ?_
      repeat (go_big_quiet_step (fail))
      refine wpQuiet_nil ?_
      intro _ hw'
      obtain ⟨⟨dq, osq⟩, hw''⟩ := hw'
      subst hw''
      have hz2 := ((below_regrown wr dq osq).block _ (block_lt hz)).trans hz
      have hb2 := ((below_regrown wr dq osq).block _ (block_lt hb)).trans hb
      have hx2 := cell_regrown hx dq osq
      have j82 := cell_regrown j8 dq osq
      have s0 := cell_regrown q0 dq osq
      have s1 := cell_regrown q1 dq osq
      have s2 := cell_regrown q2 dq osq
      have s3 := cell_regrown q3 dq osq
      have s4 := cell_regrown q4 dq osq
      have s5 := cell_regrown q5 dq osq
      have s6 := cell_regrown q6 dq osq
      have s7 := cell_regrown q7 dq osq
      have s8 := cell_regrown q8 dq osq
      have HB5 := Lib.hid (HB.out.trans ((below_regrown wr dq osq).mono HB.out.size))
      have HKT5 := Lib.hid (TreeC.keep (fun b hb => (below_regrown wr dq osq).block b (Nat.lt_of_lt_of_le hb HB.out.size)) _ _ HKT.out)
      clear hz hb hx j8 rx r8 hB HKT q0 q1 q2 q3 q4 q5 q6 q7 q8
      generalize Sort.grow (redrawn wr dq) osq = w2 at *
      have HZ := Lib.hid hz2
      have HBB := Lib.hid hb2
      have x0 : w2.cell? ⟨w.heap.size, 0, none⟩ = some (.int .i64 o'.kind) := by rw [block_cell hb2]; rfl
      have x1 : w2.cell? ⟨w.heap.size, 1, none⟩ = some (.int .u64 (o'.bits : Int)) := by rw [block_cell hb2]; rfl
      have x2 : w2.cell? ⟨w.heap.size, 2, none⟩ = some (.int .u64 (o'.high : Int)) := by rw [block_cell hb2]; rfl
      have x3 : w2.cell? ⟨w.heap.size, 3, none⟩ = some (.int .u64 (o'.low : Int)) := by rw [block_cell hb2]; rfl
      have x4 : w2.cell? ⟨w.heap.size, 4, none⟩ = some (.string ⟨o'.text.toArray⟩) := by rw [block_cell hb2]; rfl
      have x5 : w2.cell? ⟨w.heap.size, 5, none⟩ = some (.string ⟨o'.more.toArray⟩) := by rw [block_cell hb2]; rfl
      have x6 : w2.cell? ⟨w.heap.size, 6, none⟩ = some (.int .i64 o'.sub) := by rw [block_cell hb2]; rfl
      have x7 : w2.cell? ⟨w.heap.size, 7, none⟩ = some (.slice Kb o'.bytes.length kb) := by rw [block_cell hb2]; rfl
      have x8 : w2.cell? ⟨w.heap.size, 8, none⟩ = some (.slice (some ⟨gb, go, none⟩) l'.length kk) := by rw [block_cell hb2]; rfl
      have f0 : w2.frozen? ⟨w.heap.size, 0, none⟩ = false := block_frozen hb2 0
      have f1 : w2.frozen? ⟨w.heap.size, 1, none⟩ = false := block_frozen hb2 1
      have f2 : w2.frozen? ⟨w.heap.size, 2, none⟩ = false := block_frozen hb2 2
      have f3 : w2.frozen? ⟨w.heap.size, 3, none⟩ = false := block_frozen hb2 3
      have f4 : w2.frozen? ⟨w.heap.size, 4, none⟩ = false := block_frozen hb2 4
      have f5 : w2.frozen? ⟨w.heap.size, 5, none⟩ = false := block_frozen hb2 5
      have f6 : w2.frozen? ⟨w.heap.size, 6, none⟩ = false := block_frozen hb2 6
      have f7 : w2.frozen? ⟨w.heap.size, 7, none⟩ = false := block_frozen hb2 7
      have f8 : w2.frozen? ⟨w.heap.size, 8, none⟩ = false := block_frozen hb2 8
      clear hz2 hb2
      go_upto_region 6 with fail
      go_still_tail 9, (by kernel_rfl)
      repeat still_step
      change wpList _ _ _ _ _ w2.drew
      go_wp2_with fail
      have ng : ∀ z, z < w.heap.size → ¬ w.heap.size = z := fun z hz => by omega
      have Y0 := Lib.hid (ng)
      have ng1 : ¬ w.heap.size = w.heap.size + 1 := by omega
      have Y1 := Lib.hid (below_nine HB5.out (Nat.le_refl _) (.int .i64 o2.kind) (.int .u64 (o2.bits : Int)) (.int .u64 (o2.high : Int)) (.int .u64 (o2.low : Int)) (.string ⟨o2.text.toArray⟩) (.string ⟨o2.more.toArray⟩) (.int .i64 o2.sub) (.slice Nb o2.bytes.length nb) (.slice Nk l2.length nk))
      have Y2 := Lib.hid ((keep_nine (w := w2) ng1 (.int .i64 o2.kind) (.int .u64 (o2.bits : Int)) (.int .u64 (o2.high : Int)) (.int .u64 (o2.low : Int)) (.string ⟨o2.text.toArray⟩) (.string ⟨o2.more.toArray⟩) (.int .i64 o2.sub) (.slice Nb o2.bytes.length nb) (.slice Nk l2.length nk)).trans HZ.out)
      have Y3 := Lib.hid (nine_set (A := .int .i64 o2.kind) (B := .int .u64 (o2.bits : Int)) (C := .int .u64 (o2.high : Int)) (D := .int .u64 (o2.low : Int)) (E := .string ⟨o2.text.toArray⟩) (F := .string ⟨o2.more.toArray⟩) (X := .int .i64 o2.sub) (Y := .slice Nb o2.bytes.length nb) (Z := .slice Nk l2.length nk) HBB.out)
      have Y4 := Lib.hid (TreeC.keep (fun z (hz : z < w.heap.size) => keep_nine (w := w2) (Y0.out z hz) (.int .i64 o2.kind) (.int .u64 (o2.bits : Int)) (.int .u64 (o2.high : Int)) (.int .u64 (o2.low : Int)) (.string ⟨o2.text.toArray⟩) (.string ⟨o2.more.toArray⟩) (.int .i64 o2.sub) (.slice Nb o2.bytes.length nb) (.slice Nk l2.length nk)) _ _ HKT5.out)
      clear x0 x1 x2 x3 x4 x5 x6 x7 x8 f0 f1 f2 f3 f4 f5 f6 f7 f8 s0 s1 s2 s3 s4 s5 s6 s7 s8 HZ HBB HKT5 HB5 hx2 j82
      generalize (((((((((w2.setCell ⟨w.heap.size, 0, none⟩ (.int .i64 o2.kind)).setCell ⟨w.heap.size, 1, none⟩ (.int .u64 (o2.bits : Int))).setCell ⟨w.heap.size, 2, none⟩ (.int .u64 (o2.high : Int))).setCell ⟨w.heap.size, 3, none⟩ (.int .u64 (o2.low : Int))).setCell ⟨w.heap.size, 4, none⟩ (.string ⟨o2.text.toArray⟩)).setCell ⟨w.heap.size, 5, none⟩ (.string ⟨o2.more.toArray⟩)).setCell ⟨w.heap.size, 6, none⟩ (.int .i64 o2.sub)).setCell ⟨w.heap.size, 7, none⟩ (.slice Nb o2.bytes.length nb)).setCell ⟨w.heap.size, 8, none⟩ (.slice Nk l2.length nk)) = W3 at *
      refine ⟨⟨Y1.out.drew, Y2.out, k + 1, o2, l2, Nb, nb, Nk, nk, HK1.out, rfl, Y3.out, TreeC.keep (w := W3) (w' := W3.drew) (fun _ _ => rfl) _ _ Y4.out, HR2.out⟩, ?_⟩
      have := HK1.out
      simp only [natV]
      omega
    · obtain rfl : k = n := by omega
      have d1 : decide ((k : Int) < (k : Int)) = false := decide_eq_false (by omega)
      have d1n : decide (k < k) = false := decide_eq_false (by omega)
      have HE : Hid (r = some (.node o' l')) := show _ = _ by
        have := HP.out.1
        rw [hr, List.drop_of_length_le (by omega), getT]
      have HT5 := Lib.hid hT
      have HZ := Lib.hid hz
      have x0 : wr.cell? ⟨w.heap.size, 0, none⟩ = some (.int .i64 o'.kind) := by rw [block_cell hb]; rfl
      have x1 : wr.cell? ⟨w.heap.size, 1, none⟩ = some (.int .u64 (o'.bits : Int)) := by rw [block_cell hb]; rfl
      have x2 : wr.cell? ⟨w.heap.size, 2, none⟩ = some (.int .u64 (o'.high : Int)) := by rw [block_cell hb]; rfl
      have x3 : wr.cell? ⟨w.heap.size, 3, none⟩ = some (.int .u64 (o'.low : Int)) := by rw [block_cell hb]; rfl
      have x4 : wr.cell? ⟨w.heap.size, 4, none⟩ = some (.string ⟨o'.text.toArray⟩) := by rw [block_cell hb]; rfl
      have x5 : wr.cell? ⟨w.heap.size, 5, none⟩ = some (.string ⟨o'.more.toArray⟩) := by rw [block_cell hb]; rfl
      have x6 : wr.cell? ⟨w.heap.size, 6, none⟩ = some (.int .i64 o'.sub) := by rw [block_cell hb]; rfl
      have x7 : wr.cell? ⟨w.heap.size, 7, none⟩ = some (.slice Kb o'.bytes.length kb) := by rw [block_cell hb]; rfl
      have x8 : wr.cell? ⟨w.heap.size, 8, none⟩ = some (.slice Kk l'.length kk) := by rw [block_cell hb]; rfl
      have z0 : wr.cell? ⟨w.heap.size + 1, 0, none⟩ = some (.int .i64 0) := by rw [block_cell hz]; rfl
      have z1 : wr.cell? ⟨w.heap.size + 1, 1, none⟩ = some (.int .u64 0) := by rw [block_cell hz]; rfl
      have z2 : wr.cell? ⟨w.heap.size + 1, 2, none⟩ = some (.int .u64 0) := by rw [block_cell hz]; rfl
      have z3 : wr.cell? ⟨w.heap.size + 1, 3, none⟩ = some (.int .u64 0) := by rw [block_cell hz]; rfl
      have z4 : wr.cell? ⟨w.heap.size + 1, 4, none⟩ = some (.string ⟨#[]⟩) := by rw [block_cell hz]; rfl
      have z5 : wr.cell? ⟨w.heap.size + 1, 5, none⟩ = some (.string ⟨#[]⟩) := by rw [block_cell hz]; rfl
      have z6 : wr.cell? ⟨w.heap.size + 1, 6, none⟩ = some (.int .i64 0) := by rw [block_cell hz]; rfl
      have z7 : wr.cell? ⟨w.heap.size + 1, 7, none⟩ = some (.slice none 0 0) := by rw [block_cell hz]; rfl
      have z8 : wr.cell? ⟨w.heap.size + 1, 8, none⟩ = some (.slice none 0 0) := by rw [block_cell hz]; rfl
      have f0 : wr.frozen? ⟨w.heap.size + 1, 0, none⟩ = false := block_frozen hz 0
      have f1 : wr.frozen? ⟨w.heap.size + 1, 1, none⟩ = false := block_frozen hz 1
      have f2 : wr.frozen? ⟨w.heap.size + 1, 2, none⟩ = false := block_frozen hz 2
      have f3 : wr.frozen? ⟨w.heap.size + 1, 3, none⟩ = false := block_frozen hz 3
      have f4 : wr.frozen? ⟨w.heap.size + 1, 4, none⟩ = false := block_frozen hz 4
      have f5 : wr.frozen? ⟨w.heap.size + 1, 5, none⟩ = false := block_frozen hz 5
      have f6 : wr.frozen? ⟨w.heap.size + 1, 6, none⟩ = false := block_frozen hz 6
      have f7 : wr.frozen? ⟨w.heap.size + 1, 7, none⟩ = false := block_frozen hz 7
      have f8 : wr.frozen? ⟨w.heap.size + 1, 8, none⟩ = false := block_frozen hz 8
      clear hz hb hr hT hB hlt hk hn
      go_wp2_with fail
      refine bodyPost_ret (results_row2 rfl _ _ (w.heap.size + 1) #[.int .i64 o'.kind, .int .u64 (o'.bits : Int), .int .u64 (o'.high : Int), .int .u64 (o'.low : Int), .string ⟨o'.text.toArray⟩, .string ⟨o'.more.toArray⟩, .int .i64 o'.sub, .slice Kb o'.bytes.length kb, .slice Kk l'.length kk] rfl (load_value (nine_set HZ.out))) rfl ?_
      refine ⟨?_, below_nine HB.out (Nat.le_succ _) _ _ _ _ _ _ _ _ _⟩
      rw [HE.out]
      exact ⟨o', Kb, kb, Kk, l'.length, kk, rfl, TreeC.weaken (fun b hb => Nat.lt_of_lt_of_le hb (below_nine HB.out (Nat.le_succ _) _ _ _ _ _ _ _ _ _).size) _ _ (TreeC.keep (fun b hb => keep_nine (by omega) _ _ _ _ _ _ _ _ _) _ _ HT5.out)⟩
end Go.Proofs.Ytmkgcifcfgfegaa
