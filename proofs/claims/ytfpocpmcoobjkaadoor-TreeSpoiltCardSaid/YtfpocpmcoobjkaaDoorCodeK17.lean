/-
  What the program's check and Check do (chapter 17): the path of the first value that is no value, and its error; by induction over trees, no condition but bounds.
-/
import Derived.Test.YtfpocpmcoobjkaaDoorCodeC17
namespace Go.Proofs.YtfpocpmcoobjkaaDoor
set_option maxRecDepth 100000
open Go.RowKit

mutual
/-- The path of the first value that is no value, turned round, and its error. -/
def bckT : Tree → List UInt8 → List Int × Int
  | .node o l, nm => if ownN o l.length nm = 0 then bckK l 0 else ([], ownN o l.length nm)
def bckK : List (List UInt8 × Tree) → Nat → List Int × Int
  | [], _ => ([], 0)
  | (n, t) :: l, i => if (bckT t n).2 = 0 then bckK l (i + 1) else ((bckT t n).1 ++ [(i : Int)], (bckT t n).2)
end
theorem bckK_step {l : List Kid} {k : Nat} (h : k < l.length) (i : Nat) : bckK (l.drop k) i = if (bckT (l[k]).2 (l[k]).1).2 = 0 then bckK (l.drop (k + 1)) (i + 1) else ((bckT (l[k]).2 (l[k]).1).1 ++ [(i : Int)], (bckT (l[k]).2 (l[k]).1).2) := by
  rw [List.drop_eq_getElem_cons h, bckK]
theorem bck_len : ∀ t nm, (bckT t nm).1.length + 1 ≤ cntT t := by
  refine Tree.ind ?_
  intro o l ih nm
  have q : ∀ (m : List Kid) (i : Nat), (∀ x ∈ m, x ∈ l) → (bckK m i).1.length ≤ cntK m := fun m => by
    induction m with
    | nil => intro i _; rw [bckK, cntK]; exact Nat.le_refl _
    | cons x m ihm =>
      intro i hm
      obtain ⟨n, t⟩ := x
      have h1 := ih (n, t) (hm _ (.head _)) n
      have h2 := ihm (i + 1) fun y hy => hm y (.tail _ hy)
      rw [bckK, cntK]
      split
      · omega
      · simp only [List.length_append, List.length_cons, List.length_nil]
        have h1 : (bckT t n).1.length + 1 ≤ cntT t := h1
        omega
  have := q l 0 fun _ h => h
  rw [bckT, cntT]
  split
  · omega
  · simp
theorem bck_ok : ∀ t nm, (bckT t nm).2 = 0 → (bckT t nm).1 = [] := by
  refine Tree.ind ?_
  intro o l ih nm
  have q : ∀ (m : List Kid) (i : Nat), (bckK m i).2 = 0 → (bckK m i).1 = [] := fun m => by
    induction m with
    | nil => intro i _; rw [bckK]
    | cons x m ihm =>
      intro i
      obtain ⟨n, t⟩ := x
      rw [bckK]
      split
      · exact ihm (i + 1)
      · intro h; contradiction
  rw [bckT]
  split
  · exact q l 0
  · intro _; rfl
theorem chk_bck : ∀ t nm p, chkT t nm p = if (bckT t nm).2 = 0 then ([], 0) else (p ++ (bckT t nm).1.reverse, (bckT t nm).2) := by
  refine Tree.ind ?_
  intro o l ih nm p
  have q : ∀ (m : List Kid) (i : Nat), (∀ x ∈ m, x ∈ l) → chkK m i p = if (bckK m i).2 = 0 then ([], 0) else (p ++ (bckK m i).1.reverse, (bckK m i).2) := fun m => by
    induction m with
    | nil => intro i _; rw [chkK, bckK]; rfl
    | cons x m ihm =>
      intro i hm
      obtain ⟨n, t⟩ := x
      have h1 : chkT t n (p ++ [(i : Int)]) = _ := ih (n, t) (hm _ (.head _)) n (p ++ [(i : Int)])
      have h2 := ihm (i + 1) fun y hy => hm y (.tail _ hy)
      rw [chkK, bckK, h1]
      by_cases z : (bckT t n).2 = 0
      · rw [if_pos z, if_pos rfl, if_pos z, h2]
      · rw [if_neg z, if_neg z, if_neg z, if_neg z]
        simp
  rw [chkT, bckT]
  by_cases z : ownN o l.length nm = 0
  · rw [if_pos z, if_pos z, q l 0 fun _ h => h]
  · rw [if_neg z, if_neg z, if_neg z]
    simp
/-- The answer of check, of a pair. -/
def AnsB (w : World) (r : List Int × Int) (e : Ending) (w' : World) : Prop :=
  (∃ A c, e = .returned (.tuple #[.slice A r.1.length c, .int .i64 r.2]) ∧ w'.ownsRow w.heap.size 3 1 (.slice A r.1.length c) r.1.length (intCells r.1)) ∧ Below w.heap.size w w'
theorem own_mono {w : World} {base base' : Nat} {e : TypeId} {size : Nat} {v : Value} {n : Nat} {xs : List Value} (h : w.ownsRow base e size v n xs) (hb : base' ≤ base) : w.ownsRow base' e size v n xs :=
  ⟨h.1, h.2.imp id fun ⟨g, cap, cur, e, hg, r⟩ => ⟨g, cap, cur, e, Nat.le_trans hb hg, r⟩⟩
theorem own_none (w : World) (base : Nat) : w.ownsRow base 3 1 (.slice none ([] : List Int).length 0) ([] : List Int).length (intCells []) := World.ownsRow_nil w base _ 1
set_option maxHeartbeats 4000000 in
theorem check2_any : ∀ (t : Tree) (nm : List UInt8) (b off : Nat) (w : World), Words w → cntT t ≤ 1000000 → fewT t → nm.length ≤ 100000000 → ValAt w (· < w.heap.size) b off t →
    Calls Tryd.prog 31 #[.string ⟨nm.toArray⟩, .pointer (some ⟨b, off, none⟩)] w (AnsB w (bckT t nm)) := by
  refine Tree.ind ?_
  intro o l ih nm b off w hW hc hf hnm hT
  obtain ⟨hb, Ab, cb, Ak, ck, ⟨_, _, _, _, _, _, _, _, c8⟩, _, hlen, _, hkids⟩ := hT.open_
  obtain ⟨R, hR⟩ : ∃ R, R = bckT (.node o l) nm := ⟨_, rfl⟩
  rw [← hR]
  rw [bckT] at hR
  rw [cntT] at hc
  rw [fewT] at hf
  have HK := Lib.hid hkids
  have HI := Lib.hid ih
  have HF := Lib.hid hf.2.2
  have HC := Lib.hid hc
  have HW := Lib.hid hW
  have Hb := Lib.hid hb
  have C8 := Lib.hid c8
  have HL : Hid (l.length ≤ 1000000) := show _ ≤ _ by have := len_le_cnt l; omega
  have cE := Lib.hid (checkOne_any o l nm b off w hW hf.1 hf.2.1 hnm hT)
  generalize ownN o l.length nm = e0 at *
  have HR0 := Lib.hid hR
  clear hc hf hnm hlen hkids ih hT hR hW hb c8
  go_enter Tryd.func31, Tryd.ntmps31
  go_wp2_with fail
  refine (cE.out).mono ?_
  rintro e w1 ⟨rfl, B1⟩
  have HB1 := Lib.hid B1
  clear B1 cE
  by_cases z : e0 = 0
  rotate_left 1
  · have y1 : (e0 == 0) = false := beq_eq_false_iff_ne.2 z
    have y2 : (e0 != 0) = true := by rw [bne, y1]; rfl
    have HE : Hid (R = ([], e0)) := show _ = _ by rw [HR0.out, if_neg z]
    clear HR0
    go_wp2_with fail
    go_ret2
    refine ⟨⟨none, 0, by rw [HE.out]; rfl, ?_⟩, HB1.out⟩
    rw [HE.out]
    exact own_none _ _
  subst z
  have HR : Hid (R = bckK (l.drop 0) 0) := show _ = _ by rw [HR0.out]; rfl
  clear HR0
  have j8 : w1.cell? ⟨b, off + 8, none⟩ = some (.slice Ak l.length ck) := (HB1.out.cell Hb.out).trans C8.out
  go_wp2_with fail
  clear j8
  go_loopw [19] (fun i wr => Below w.heap.size w wr ∧ ∃ k : Nat, k ≤ l.length ∧ i = .int .i64 (k : Int) ∧ R = bckK (l.drop k) k) (fun i _ => l.length - natV i)
  case atStart => exact ⟨HB1.out, 0, Nat.zero_le _, rfl, HR.out⟩
  case round =>
    obtain ⟨hB, k, hk, rfl, hr⟩ := hrel
    have HB := Lib.hid hB
    have j8 : wr.cell? ⟨b, off + 8, none⟩ = some (.slice Ak l.length ck) := (hB.cell Hb.out).trans C8.out
    by_cases hlt : k < l.length
    · have d1 : decide ((k : Int) < (l.length : Int)) = true := decide_eq_true (by omega)
      have d1n : decide (k < l.length) = true := decide_eq_true hlt
      obtain ⟨kb, ko, rfl, hbl, hK⟩ := HK.out (fun e => by rw [e] at hlt; exact absurd hlt (Nat.not_lt_zero _))
      obtain ⟨nm2, P2, E2, hn, cV, hr2, hln⟩ : ∃ (nm2 : List UInt8) (P2 : List Int) (E2 : Int), wr.cell? ⟨kb, ko + k * 10, none⟩ = some (.string ⟨nm2.toArray⟩) ∧ Hid (∀ (V : World), Below wr.heap.size wr V → Calls Tryd.prog 31 #[.string ⟨nm2.toArray⟩, .pointer (some ⟨kb, ko + k * 10 + 1, none⟩)] V (AnsB V (P2, E2))) ∧
          R = (if E2 = 0 then bckK (l.drop (k + 1)) (k + 1) else (P2 ++ [(k : Int)], E2)) ∧ P2.length + 1 ≤ 1000000 := by
        obtain ⟨hn, hV⟩ := kid_val hK hB hbl k hlt
        rw [bckK_step hlt] at hr
        have hkc := cntT_kid hlt
        have hc := HC.out
        have hfk := fewK_get HF.out hlt
        have hln := bck_len l[k].2 l[k].1
        refine ⟨l[k].1, (bckT l[k].2 l[k].1).1, (bckT l[k].2 l[k].1).2, hn, fun V hVV => ?_, hr, by omega⟩
        exact HI.out l[k] (List.getElem_mem hlt) l[k].1 kb (ko + k * 10 + 1) V ((HW.out.up HB.out).up hVV) (by omega) hfk.2 hfk.1 (hV.up hVV)
      have HE := Lib.hid hr2
      have HLN : Hid (P2.length + 1 ≤ 1000000) := hln
      have HK1 : Hid (k + 1 ≤ l.length) := hlt
      have u2 : Hid (wrap64 ((k : Int) + 1) = ((k + 1 : Nat) : Int)) := show _ = _ from w63 (by omega) (by have := HL.out; omega)
      have hlti : (k : Int) < (l.length : Int) := by omega
      have hlt0 : (0 : Int) ≤ (k : Int) := by omega
      clear hr hr2 hln hK hbl hk hB
      go_upto_region 8 with fail
      go_region_held3 (fun V : World => V.cell? ⟨kb, ko + k * 10, none⟩ = some (.string ⟨nm2.toArray⟩))
        ((repeat (first | with_reducible refine cell_drew ?_ | with_reducible refine cell_low B2 ?_)) <;> (first | with_reducible exact hn))
        (first | (go_at_call 31; (with_reducible refine (cV.out _ (Below.refl _ _).drew).mono ?_); rintro e w2 ⟨⟨A2, c2, rfl, I2⟩, B2⟩))
      have q2 := low17 (Below.refl wr.heap.size wr).drew B2
      have HB5 := Lib.hid (low17 HB.out q2)
      have HO : Hid (w2.ownsRow w.heap.size 3 1 (.slice A2 P2.length c2) P2.length (intCells P2)) := show World.ownsRow _ _ _ _ _ _ _ from own_mono I2 HB.out.size
      clear q2 B2 I2 cV j8 hn HB hlti hlt0
      by_cases z : E2 = 0
      · have HE2 : Hid (R = bckK (l.drop (k + 1)) (k + 1)) := show _ = _ by rw [HE.out, if_pos z]
        subst z
        clear HE
        go_wp2_with fail
        go_roundw
        case rel => exact ⟨HB5.out, k + 1, HK1.out, by rw [u2.out], HE2.out⟩
        case measure => rw [u2.out]; have := HK1.out; simp [natV]; omega
      · have y1 : (E2 == 0) = false := beq_eq_false_iff_ne.2 z
        have y2 : (E2 != 0) = true := by rw [bne, y1]; rfl
        have HE2 : Hid (R = (P2 ++ [(k : Int)], E2)) := show _ = _ by rw [HE.out, if_neg z]
        clear HE z
        obtain ⟨i0, hi0, hz0, hz1, hz2⟩ := info_parts info_int
        have HZ := Lib.hid hz0; have HI0 := Lib.hid hi0; have H1 := Lib.hid hz1; have H2 := Lib.hid hz2
        have M2 : P2.length + 1 ≤ maxLen := by have := HLN.out; simp only [maxLen]; omega
        have M3 : (P2.length + 1) * 8 ≤ 140737488355328 := by have := HLN.out; omega
        have l4 : ∀ u ∈ ([.int .i64 (k : Int)] : List Value), u.oneCell' = true := by simp [Value.oneCell']
        have hgn := heap_alloc_new w2 (.cells #[.int .i64 (k : Int)] 3)
        have HOA : Hid ((w2.alloc (.cells #[.int .i64 (k : Int)] 3)).ownsRow w.heap.size 3 1 (.slice A2 P2.length c2) P2.length (intCells P2)) := HO.out.alloc _
        have BA : Below w.heap.size w (w2.alloc (.cells #[.int .i64 (k : Int)] 3)) := HB5.out.alloc HB5.out.size _
        have HSr : Hid (0 < 1 → ∃ ad, some (⟨w2.heap.size, 0, none⟩ : Addr) = some ad ∧ ∀ j u, ([.int .i64 (k : Int)] : List Value)[j]? = some u → (w2.alloc (.cells #[.int .i64 (k : Int)] 3)).cell? (ad.add j) = some u) := fun _ =>
          ⟨_, rfl, World.news_of_block (cs := #[.int .i64 (k : Int)]) (t := 3) (fr := (0, 0)) hgn⟩
        have hsz : w.heap.size ≤ (w2.alloc (.cells #[.int .i64 (k : Int)] 3)).heap.size := BA.size
        clear hz0 hi0 hz1 hz2 HO hgn
        go_wp2_with (first | (at_builtin; refine wpList_append_held _ rfl (.tmp 41) (.tmp 43) 29 rfl w.heap.size 3 i0 _ 8 Tryd.underlying29 HI0.out HZ.out H1.out H2.out rfl _ P2.length (intCells P2) rfl HOA.out (some ⟨w2.heap.size, 0, none⟩) 1 1 [.int .i64 (k : Int)] rfl rfl HSr.out l4 M2 M3 hsz ?_))
        intro A5 c5 w5 ho5 hg5 _
        have HB6 := Lib.hid (BA.grown hg5 BA.size (fun k hk => (HOA.out.lt k hk).1))
        have HO5 : Hid (w5.ownsRow w.heap.size 3 1 (.slice A5 (P2.length + 1) c5) (P2.length + 1) (intCells (P2 ++ [(k : Int)]))) := show World.ownsRow _ _ _ _ _ _ _ from by
          have := ho5.out
          unfold intCells at this ⊢
          rw [List.map_append]
          exact this
        clear ho5 hg5 HOA BA HSr hsz l4 M2 M3 HB5
        go_wp2_with fail
        go_ret2
        have el : (P2 ++ [(k : Int)]).length = P2.length + 1 := by simp
        refine ⟨⟨A5, c5, by rw [HE2.out]; show _ = Ending.returned (.tuple #[.slice A5 (P2 ++ [(k : Int)]).length c5, .int .i64 E2]); rw [el]; rfl, ?_⟩, HB6.out⟩
        rw [HE2.out]
        show World.ownsRow _ _ _ _ (.slice A5 (P2 ++ [(k : Int)]).length c5) (P2 ++ [(k : Int)]).length _
        rw [el]
        exact HO5.out
    · obtain rfl : k = l.length := by omega
      have d1 : decide ((l.length : Int) < (l.length : Int)) = false := decide_eq_false (by omega)
      have d1n : decide (l.length < l.length) = false := decide_eq_false (by omega)
      rw [List.drop_length, bckK] at hr
      have HE := Lib.hid hr
      clear hr hlt hk hB
      go_wp2_with fail
      go_ret2
      refine ⟨⟨none, 0, by rw [HE.out]; rfl, ?_⟩, HB.out⟩
      rw [HE.out]
      exact own_none _ _
end Go.Proofs.YtfpocpmcoobjkaaDoor
