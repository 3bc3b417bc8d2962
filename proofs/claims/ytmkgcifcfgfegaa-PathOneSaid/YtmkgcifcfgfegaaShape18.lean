/-
  What the program's isOneShape does (chapter 18), for every two trees; where trees of one shape part, pure; no condition but bounds.
-/
import Derived.Test.YtmkgcifcfgfegaaPathPure

namespace Go.Proofs.Ytmkgcifcfgfegaa
set_option maxRecDepth 100000
open Go.RowKit
mutual
/-- Have two trees one shape? -/
def shapeT : Tree → Tree → Bool
  | .node _ l, .node _ m => decide (l.length = m.length) && shapeK l m
def shapeK : List (List UInt8 × Tree) → List (List UInt8 × Tree) → Bool
  | (n, t) :: l, (k, u) :: m => (n == k) && shapeT t u && shapeK l m
  | _, _ => true
end
theorem shapeK_step {l m : List Kid} {k : Nat} (h : k < l.length) (h' : k < m.length) : shapeK (l.drop k) (m.drop k) = (((l[k]).1 == (m[k]).1) && shapeT (l[k]).2 (m[k]).2 && shapeK (l.drop (k + 1)) (m.drop (k + 1))) := by
  rw [List.drop_eq_getElem_cons h, List.drop_eq_getElem_cons h', shapeK]
mutual
/-- Where two trees of one shape part. -/
def partsT : Tree → Tree → List Int → List (List Int)
  | .node o l, .node o' m, p => (if o = o' then [] else [p]) ++ partsK l m 0 p
def partsK : List (List UInt8 × Tree) → List (List UInt8 × Tree) → Nat → List Int → List (List Int)
  | (_, t) :: l, (_, u) :: m, i, p => partsT t u (p ++ [(i : Int)]) ++ partsK l m (i + 1) p
  | _, _, _, _ => []
end
theorem partsK_step {l m : List Kid} {k : Nat} (h : k < l.length) (h' : k < m.length) (i : Nat) (p : List Int) : partsK (l.drop k) (m.drop k) i p = partsT (l[k]).2 (m[k]).2 (p ++ [(i : Int)]) ++ partsK (l.drop (k + 1)) (m.drop (k + 1)) (i + 1) p := by
  rw [List.drop_eq_getElem_cons h, List.drop_eq_getElem_cons h', partsK]
theorem diff_parts : ∀ (t u : Tree) (p : List Int), diffT t u p = if shapeT t u = true then some (partsT t u p) else none := by
  refine Tree.ind ?_
  intro o l ih u p
  obtain ⟨o', m⟩ := u
  have q : ∀ (l' : List Kid), (∀ x ∈ l', x ∈ l) → ∀ (m' : List Kid) (i : Nat), l'.length = m'.length → diffK l' m' i p = if shapeK l' m' = true then some (partsK l' m' i p) else none := fun l' => by
    induction l' with
    | nil => intro _ m' i h; cases m' with
      | nil => rw [diffK, shapeK, partsK, if_pos rfl] <;> simp
      | cons y m' => simp at h
    | cons x l' ihl =>
      intro hm m' i h
      cases m' with
      | nil => simp at h
      | cons y m' =>
        obtain ⟨n, t⟩ := x
        obtain ⟨k, u⟩ := y
        have h1 : diffT t u (p ++ [(i : Int)]) = _ := ih (n, t) (hm _ (.head _)) u _
        have h2 := ihl (fun z hz => hm z (.tail _ hz)) m' (i + 1) (by simpa using h)
        rw [diffK, h1, h2, shapeK, partsK]
        by_cases a : shapeT t u = true
        · rw [if_pos a, a]
          by_cases b : n = k
          · subst b
            by_cases c : shapeK l' m' = true
            · simp [c]
            · simp [c]
          · simp [b]
        · rw [if_neg a]
          simp [a]
  rw [diffT, shapeT, partsT]
  by_cases hlen : l.length = m.length
  · rw [if_pos hlen, q l (fun _ h => h) m 0 hlen, decide_eq_true hlen, Bool.true_and]
    by_cases c : shapeK l m = true
    · rw [if_pos c, if_pos c]; rfl
    · rw [if_neg c, if_neg c]; rfl
  · rw [if_neg hlen, decide_eq_false hlen]
    simp
theorem parts_few : ∀ (t u : Tree) (p : List Int), (partsT t u p).length ≤ cntT t := by
  refine Tree.ind ?_
  intro o l ih u p
  obtain ⟨o', m⟩ := u
  have q : ∀ (l' : List Kid), (∀ x ∈ l', x ∈ l) → ∀ (m' : List Kid) (i : Nat), (partsK l' m' i p).length ≤ cntK l' := fun l' => by
    induction l' with
    | nil => intro _ m' i; rw [partsK] <;> simp
    | cons x l' ihl =>
      intro hm m' i
      cases m' with
      | nil => rw [partsK] <;> simp
      | cons y m' =>
        obtain ⟨n, t⟩ := x
        obtain ⟨k, u⟩ := y
        have h1 : (partsT t u (p ++ [(i : Int)])).length ≤ cntT t := ih (n, t) (hm _ (.head _)) u _
        have h2 := ihl (fun z hz => hm z (.tail _ hz)) m' (i + 1)
        rw [partsK, cntK, List.length_append]
        omega
  rw [partsT, cntT, List.length_append]
  have := q l (fun _ h => h) m 0
  split
  · simp; omega
  · simp; omega
set_option maxHeartbeats 8000000 in
theorem shape_any : ∀ (t : Tree) (b off : Nat) (u : Tree) (b' off' : Nat) (w : World), ValAt w (· < w.heap.size) b off t → ValAt w (· < w.heap.size) b' off' u →
    Calls Try.prog 30 #[.pointer (some ⟨b, off, none⟩), .pointer (some ⟨b', off', none⟩)] w fun e w' => e = .returned (.bool (shapeT t u)) ∧ Below w.heap.size w w' := by
  refine Tree.ind ?_
  intro o l ih b off u b' off' w hT hU
  cases u with
  | node p m =>
  obtain ⟨hb, Ab, cb, Ak, ck, ⟨i0, i1, i2, i3, i4, i5, i6, i7, i8⟩, _, hlen, hbytes, hkids⟩ := hT.open_
  obtain ⟨hb', Bb, db, Bk, dk, ⟨j0, j1, j2, j3, j4, j5, j6, j7, j8⟩, _, hlen2, hbytes2, hkids2⟩ := hU.open_
  obtain ⟨R, hR⟩ : ∃ R, R = shapeT (.node o l) (.node p m) := ⟨_, rfl⟩
  rw [← hR]
  rw [shapeT] at hR
  have HK := Lib.hid hkids
  have HK2 := Lib.hid hkids2
  have HI := Lib.hid ih
  have HL : Hid (l.length ≤ 9223372036854775807) := hlen
  have HL2 : Hid (m.length ≤ 9223372036854775807) := hlen2
  have Hb := Lib.hid hb
  have Hb' := Lib.hid hb'
  have I8 := Lib.hid i8
  have J8 := Lib.hid j8
  clear i0 i1 i2 i3 i4 i5 i6 i7 j0 j1 j2 j3 j4 j5 j6 j7 hb hb' hlen hlen2 hbytes hbytes2 hkids hkids2 ih hT hU
  have i8 := cell_regrown i8
  have j8 := cell_regrown j8
  by_cases hlm : l.length = m.length
  rotate_left 1
  · have n1 : ((l.length : Int) == (m.length : Int)) = false := beq_eq_false_iff_ne.2 (by omega)
    have n2 : ((l.length : Int) != (m.length : Int)) = true := by rw [bne, n1]; rfl
    have HE : Hid (R = false) := show _ = _ by
      rw [hR, decide_eq_false hlm]; rfl
    clear hR hlm
    go_enter Try.func30, Try.ntmps30
    go_upto_region 1 with fail
    refine wp_region_quiet_below (by kernel_rfl) (by kernel_rfl) ?_
    repeat (go_big_quiet_step (fail))
    refine wpQuiet_nil ?_
    intro _ hw'
    obtain ⟨⟨dq, osq⟩, hw''⟩ := hw'
    subst hw''
    have HB3 := Lib.hid (below_regrown w dq osq)
    go_wp2_with fail
    go_ret
    exact ⟨by rw [HE.out]; rfl, HB3.out⟩
  have n1 : ((l.length : Int) == (m.length : Int)) = true := by rw [hlm]; exact beq_self_eq_true _
  have n2 : ((l.length : Int) != (m.length : Int)) = false := by rw [bne, n1]; rfl
  have HLM := Lib.hid hlm
  have HR : Hid (R = shapeK (l.drop 0) (m.drop 0)) := show _ = _ by rw [hR, decide_eq_true hlm, Bool.true_and]; rfl
  clear hR hlm
  go_enter Try.func30, Try.ntmps30
  go_upto_region 1 with fail
  refine wp_region_quiet_below (by kernel_rfl) (by kernel_rfl) ?_
  repeat (go_big_quiet_step (fail))
  refine wpQuiet_nil ?_
  intro _ hw'
  obtain ⟨⟨dq, osq⟩, hw''⟩ := hw'
  subst hw''
  have HB3 := Lib.hid (below_regrown w dq osq)
  clear i8 j8
  generalize Sort.grow (redrawn w dq) osq = W at *
  have i8 : W.cell? ⟨b, off + 8, none⟩ = some (.slice Ak l.length ck) := (HB3.out.cell Hb.out).trans I8.out
  have j8 : W.cell? ⟨b', off' + 8, none⟩ = some (.slice Bk m.length dk) := (HB3.out.cell Hb'.out).trans J8.out
  go_wp2_with fail
  clear n1 n2 i8 j8
  go_loopw [24] (fun i wr => Below w.heap.size w wr ∧ ∃ k : Nat, k ≤ l.length ∧ i = .int .i64 (k : Int) ∧ R = shapeK (l.drop k) (m.drop k)) (fun i _ => l.length - natV i)
  case atStart => exact ⟨HB3.out, 0, Nat.zero_le _, rfl, HR.out⟩
  case round =>
    obtain ⟨hB, k, hk, rfl, hr⟩ := hrel
    have HB := Lib.hid hB
    have i8 : wr.cell? ⟨b, off + 8, none⟩ = some (.slice Ak l.length ck) := (hB.cell Hb.out).trans I8.out
    have j8 : wr.cell? ⟨b', off' + 8, none⟩ = some (.slice Bk m.length dk) := (hB.cell Hb'.out).trans J8.out
    by_cases hlt : k < l.length
    · have hlt2 : k < m.length := by rw [← HLM.out]; exact hlt
      have d1 : decide ((k : Int) < (l.length : Int)) = true := decide_eq_true (by omega)
      have d1n : decide (k < l.length) = true := decide_eq_true hlt
      rw [shapeK_step hlt hlt2] at hr
      obtain ⟨kb, ko, rfl, hbl, hK⟩ := HK.out (fun e => by rw [e] at hlt; exact absurd hlt (Nat.not_lt_zero _))
      obtain ⟨kb', ko', rfl, hbl', hK'⟩ := HK2.out (fun e => by rw [e] at hlt2; exact absurd hlt2 (Nat.not_lt_zero _))
      have hlti : (k : Int) < (l.length : Int) := by omega
      have hlti2 : (k : Int) < (m.length : Int) := by omega
      have HK1 : Hid (k + 1 ≤ l.length) := hlt
      have u2 : Hid (wrap64 ((k : Int) + 1) = ((k + 1 : Nat) : Int)) := show _ = _ from w63 (by omega) (by have := HL.out; omega)
      obtain ⟨x, hx⟩ : ∃ x, x = l[k] := ⟨_, rfl⟩
      obtain ⟨y, hy⟩ : ∃ y, y = m[k] := ⟨_, rfl⟩
      have KV : Hid (∀ w2, Below w.heap.size w w2 → w2.cell? ⟨kb, ko + k * 10, none⟩ = some (.string ⟨x.1.toArray⟩) ∧ ValAt w2 (· < w2.heap.size) kb (ko + k * 10 + 1) x.2) := fun w2 hb2 => by rw [hx]; exact kid_val hK hb2 hbl k hlt
      have KV' : Hid (∀ w2, Below w.heap.size w w2 → w2.cell? ⟨kb', ko' + k * 10, none⟩ = some (.string ⟨y.1.toArray⟩) ∧ ValAt w2 (· < w2.heap.size) kb' (ko' + k * 10 + 1) y.2) := fun w2 hb2 => by rw [hy]; exact kid_val hK' hb2 hbl' k hlt2
      have hr2 : R = ((x.1 == y.1) && shapeT x.2 y.2 && shapeK (l.drop (k + 1)) (m.drop (k + 1))) := by rw [hx, hy]; exact hr
      have cX : Hid (∀ (w2 : World), ValAt w2 (· < w2.heap.size) kb (ko + k * 10 + 1) x.2 → ValAt w2 (· < w2.heap.size) kb' (ko' + k * 10 + 1) y.2 → Calls Try.prog 30 #[.pointer (some ⟨kb, ko + k * 10 + 1, none⟩), .pointer (some ⟨kb', ko' + k * 10 + 1, none⟩)] w2 fun e w' => e = .returned (.bool (shapeT x.2 y.2)) ∧ Below w2.heap.size w2 w') := fun w2 h1 h2 => HI.out x (by rw [hx]; exact List.getElem_mem hlt) _ _ y.2 _ _ _ h1 h2
      clear hx hy
      obtain ⟨nm, v1⟩ := x
      obtain ⟨nm', v2⟩ := y
      have Hr : Hid (R = ((nm == nm') && shapeT v1 v2 && shapeK (l.drop (k + 1)) (m.drop (k + 1)))) := hr2
      clear hK hK' hbl hbl' hr2 hr hB hk
      go_upto_region 6 with fail
      go_quiet (fail)
      have HB4 := Lib.hid (HB.out.trans ((below_drewN wr nq).mono HB.out.size))
      clear HB i8 j8
      generalize wr.drewN nq = w2 at HB4 ⊢
      obtain ⟨hn, hT2⟩ := KV.out w2 HB4.out
      obtain ⟨hn', hU2⟩ := KV'.out w2 HB4.out
      have hr := Hr.out
      have rn := cell_regrown hn; have rn' := cell_regrown hn'
      by_cases hnn : nm = nm'
      · have e1 : (nm == nm') = true := beq_iff_eq.2 hnn
        rw [e1, Bool.true_and] at hr
        obtain ⟨v, hv⟩ : ∃ v, v = shapeT v1 v2 := ⟨_, rfl⟩
        have cI : ∀ d os, Calls Try.prog 30 #[.pointer (some ⟨kb, ko + k * 10 + 1, none⟩), .pointer (some ⟨kb', ko' + k * 10 + 1, none⟩)] (Sort.grow (redrawn w2 d) os) fun x w'' => x = .returned (.bool v) ∧ ∃ p : Regrown, w'' = Sort.grow (redrawn w2 p.d) p.os := fun d os => by
          rw [hv]
          exact Calls.regrown_of (cX.out _ (hT2.grown d os) (hU2.grown d os))
        subst hnn
        have HE : Hid (R = (v && shapeK (l.drop (k + 1)) (m.drop (k + 1)))) := show _ = _ by rw [hv]; exact hr
        clear hr Hr hv hT2 hU2 KV KV' cX hlt hlt2 hn hn' hlti hlti2 d1 d1n
        cases v
        case false =>
          go_upto_region 7 with fail
          refine wp_region_quiet_below (by kernel_rfl) (by kernel_rfl) ?_
          repeat (go_big_quiet_step (first | with_reducible exact cI _ _))
          refine wpQuiet_nil ?_
          intro _ hw'
          obtain ⟨⟨dq, osq⟩, hw''⟩ := hw'
          subst hw''
          have HB5 := Lib.hid (HB4.out.trans ((below_regrown w2 dq osq).mono HB4.out.size))
          clear cI
          go_wp2_with fail
          go_ret
          exact ⟨by rw [HE.out]; rfl, HB5.out⟩
        case true =>
          go_upto_region 7 with fail
          refine wp_region_quiet_below (by kernel_rfl) (by kernel_rfl) ?_
          repeat (go_big_quiet_step (first | with_reducible exact cI _ _))
          refine wpQuiet_nil ?_
          intro _ hw'
          obtain ⟨⟨dq, osq⟩, hw''⟩ := hw'
          subst hw''
          have HB5 := Lib.hid (HB4.out.trans ((below_regrown w2 dq osq).mono HB4.out.size))
          rw [Bool.true_and] at HE
          clear cI rn rn'
          generalize Sort.grow (redrawn w2 dq) osq = w3 at *
          go_wp2_with fail
          go_roundw
          case rel => exact ⟨HB5.out, k + 1, HK1.out, by rw [u2.out], HE.out⟩
          case measure => rw [u2.out]; have := HK1.out; simp [natV]; omega
      · have e1 : (nm == nm') = false := beq_eq_false_iff_ne.2 hnn
        have HE : Hid (R = false) := show _ = _ from hr.trans (by rw [e1]; rfl)
        clear hr Hr hT2 hU2 KV KV' cX hlt hlt2 hn hn' hlti hlti2 d1 d1n
        go_upto_region 7 with fail
        refine wp_region_quiet_below (by kernel_rfl) (by kernel_rfl) ?_
        repeat (go_big_quiet_step (fail))
        refine wpQuiet_nil ?_
        intro _ hw'
        obtain ⟨⟨dq, osq⟩, hw''⟩ := hw'
        subst hw''
        have HB5 := Lib.hid (HB4.out.trans ((below_regrown w2 dq osq).mono HB4.out.size))
        go_wp2_with fail
        go_ret
        exact ⟨by rw [HE.out]; rfl, HB5.out⟩
    · obtain rfl : k = l.length := by omega
      have d1 : decide ((l.length : Int) < (l.length : Int)) = false := decide_eq_false (by omega)
      have d1n : decide (l.length < l.length) = false := decide_eq_false (by omega)
      have HE : Hid (R = true) := show _ = _ by
        rw [hr, List.drop_length, HLM.out, List.drop_length, shapeK] <;> simp
      clear hr hlt hk hB
      go_wp2_with fail
      go_ret
      exact ⟨by rw [HE.out]; rfl, HB.out⟩
end Go.Proofs.Ytmkgcifcfgfegaa
