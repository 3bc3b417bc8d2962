/-
  What the program's kidsOn does (chapter 18): the Kids that a path goes through, for every tree and every path; no condition but bounds.
-/
import Derived.Test.YtmkgcifcfgfegaaPathPure
namespace Go.Proofs.Ytmkgcifcfgfegaa
set_option maxRecDepth 100000
open Go.RowKit

/-- The Kids that a path goes through. -/
def kidsP : Tree → List Int → Option (List Kid)
  | _, [] => some []
  | .node _ l, i :: p => if h : 0 ≤ i ∧ i < (l.length : Int) then (kidsP (l[i.toNat]'(by omega)).2 p).map ((l[i.toNat]'(by omega)) :: ·) else none
theorem names_kidsP : ∀ (p : List Int) (t : Tree), namesT t p = (kidsP t p).map (List.map (·.1))
  | [], .node o l => by rw [namesT, kidsP]; rfl
  | i :: p, .node o l => by
    rw [namesT, kidsP]
    by_cases h : 0 ≤ i ∧ i < (l.length : Int)
    · rw [dif_pos h, dif_pos h, names_kidsP p]
      cases kidsP (l[i.toNat]'(by omega)).2 p <;> rfl
    · rw [dif_neg h, dif_neg h]; rfl
theorem get_kidsP : ∀ (p : List Int) (t : Tree), getT t p = (kidsP t p).map fun ks => (ks.getLast?.map (·.2)).getD t
  | [], .node o l => by rw [getT, kidsP]; rfl
  | i :: p, .node o l => by
    rw [getT, kidsP]
    by_cases h : 0 ≤ i ∧ i < (l.length : Int)
    · rw [dif_pos h, dif_pos h, get_kidsP p]
      cases kidsP (l[i.toNat]'(by omega)).2 p with
      | none => rfl
      | some ks =>
        cases ks with
        | nil => rfl
        | cons y ks => simp [List.getLast?_cons]
    · rw [dif_neg h, dif_neg h]; rfl
/-- Pointers to Kids. -/
def PtrsAt (w : World) (M : Nat → Prop) : List Value → List Kid → Prop
  | [], [] => True
  | x :: xs, y :: ys => (∃ b off, x = .pointer (some ⟨b, off, none⟩) ∧ M b ∧ KidAt w M b off y) ∧ PtrsAt w M xs ys
  | _, _ => False
theorem PtrsAt.len {w : World} {M : Nat → Prop} : ∀ {xs : List Value} {ys : List Kid}, PtrsAt w M xs ys → xs.length = ys.length
  | [], [], _ => rfl
  | _ :: xs, _ :: ys, h => by rw [List.length_cons, List.length_cons, PtrsAt.len h.2]
theorem KidAt.keep {w w' : World} {M : Nat → Prop} {b off : Nat} {x : Kid} (hk : ∀ k, M k → w'.heap[k]? = w.heap[k]?) (hb : M b) (h : KidAt w M b off x) : KidAt w' M b off x := by
  obtain ⟨h1, h2, cs, h3, h4, h5⟩ := h
  exact ⟨(World.cell?_of_block (hk b hb)).trans h1, h2, cs, h3, fun j hj => (World.cell?_of_block (hk b hb)).trans (h4 j hj), h5.keep hk _ _⟩
theorem PtrsAt.keep {w w' : World} {M : Nat → Prop} (hk : ∀ k, M k → w'.heap[k]? = w.heap[k]?) : ∀ {xs : List Value} {ys : List Kid}, PtrsAt w M xs ys → PtrsAt w' M xs ys
  | [], [], _ => trivial
  | _ :: _, _ :: _, ⟨⟨b, off, e, hb, h⟩, r⟩ => ⟨⟨b, off, e, hb, h.keep hk hb⟩, PtrsAt.keep hk r⟩
theorem PtrsAt.one {w : World} {M : Nat → Prop} : ∀ {xs : List Value} {ys : List Kid}, PtrsAt w M xs ys → ∀ u ∈ xs, u.oneCell' = true
  | [], [], _, u, h => by cases h
  | x :: xs, y :: ys, ⟨⟨b, off, e, _, _⟩, r⟩, u, h => by
    rcases List.mem_cons.1 h with rfl | h
    · rw [e]; rfl
    · exact PtrsAt.one r u h
theorem PtrsAt.get {w : World} {M : Nat → Prop} : ∀ {xs : List Value} {ys : List Kid}, PtrsAt w M xs ys → ∀ (k : Nat) (h : k < ys.length), ∃ b off, xs[k]? = some (.pointer (some ⟨b, off, none⟩)) ∧ M b ∧ KidAt w M b off ys[k]
  | [], [], _, _, h => absurd h (Nat.not_lt_zero _)
  | _ :: _, _ :: _, ⟨⟨b, off, e, hb, hk⟩, _⟩, 0, _ => ⟨b, off, by rw [e]; rfl, hb, hk⟩
  | _ :: _, _ :: _, ⟨_, r⟩, k + 1, h => by
    obtain ⟨b, off, h1, h2, h3⟩ := PtrsAt.get r k (Nat.lt_of_succ_lt_succ h)
    exact ⟨b, off, by simpa using h1, h2, by simpa using h3⟩
theorem PtrsAt.snoc {w : World} {M : Nat → Prop} {b off : Nat} {y : Kid} (hb : M b) (hk : KidAt w M b off y) : ∀ {xs : List Value} {ys : List Kid}, PtrsAt w M xs ys → PtrsAt w M (xs ++ [.pointer (some ⟨b, off, none⟩)]) (ys ++ [y])
  | [], [], _ => ⟨⟨b, off, rfl, hb, hk⟩, trivial⟩
  | _ :: _, _ :: _, ⟨h, r⟩ => ⟨h, PtrsAt.snoc hb hk r⟩
theorem info_ptr : (Try.prog.info? 53).map (fun i => (i.zero, i.size, i.bytes)) = some (some (.pointer none), 1, 8) := by kernel_rfl
theorem info_strs : (Try.prog.info? 9).map (fun i => (i.zero, i.size, i.bytes)) = some (some (.string ⟨#[]⟩), 1, 16) := by kernel_rfl
/-- The answer of kidsOn. -/
def AnsK (w : World) (M : Nat → Prop) (r : Option (List Kid)) (e : Ending) (w' : World) : Prop :=
  (match r with
    | none => e = .returned (.tuple #[.slice none 0 0, .bool false])
    | some ks => ∃ (A : Option Addr) (c : Nat) (xs : List Value), e = .returned (.tuple #[.slice A ks.length c, .bool true]) ∧ w'.ownsRow w.heap.size 53 1 (.slice A ks.length c) ks.length xs ∧ PtrsAt w' M xs ks) ∧ Below w.heap.size w w'
set_option maxHeartbeats 8000000 in
theorem kidsOn_any (p : List Int) (o : OwnV) (l : List Kid) (b off : Nat) (Ak : Option Addr) (ck : Nat) (A : Option Addr) (n c : Nat) (w : World) (M : Nat → Prop) (hM : ∀ b, M b → b < w.heap.size) (hb : b < w.heap.size) (h8 : w.cell? ⟨b, off + 8, none⟩ = some (.slice Ak l.length ck))
    (hK : l ≠ [] → ∃ b off, Ak = some ⟨b, off, none⟩ ∧ M b ∧ KidsAt w M b off l) (hP : Ints w (· < w.heap.size) A n p) (hn : n ≤ 1000000) :
    Calls Try.prog 23 #[.pointer (some ⟨b, off, none⟩), .slice A n c] w (AnsK w M (kidsP (.node o l) p)) := by
  obtain ⟨r, hr⟩ : ∃ r, r = kidsP (.node o l) p := ⟨_, rfl⟩
  rw [← hr]
  have hr0 : r = (kidsP (.node o l) (p.drop 0)).map (([] : List Kid) ++ ·) := by
    rw [hr, List.drop_zero]
    cases kidsP (.node o l) p <;> rfl
  have HR := Lib.hid hr0
  have HP := Lib.hid hP
  have HN := Lib.hid hn
  have HM := Lib.hid hM
  have Hb := Lib.hid hb
  have H8 := Lib.hid h8
  have HK := Lib.hid hK
  clear hr hr0 hP hn hM hb h8 hK
  go_enter Try.func23, Try.ntmps23
  go_wp2_with fail
  go_loopw [0, 6, 11] (fun v s i wr => Below w.heap.size w wr ∧ ∃ (k : Nat) (o' : OwnV) (l' : List Kid) (b' off' : Nat) (Kk : Option Addr) (kk : Nat) (C : Option Addr) (d : Nat) (xs : List Value) (ks : List Kid), k ≤ n ∧ ks.length = k ∧ i = .int .i64 (k : Int) ∧ v = .pointer (some ⟨b', off', none⟩) ∧ b' < w.heap.size ∧ wr.cell? ⟨b', off' + 8, none⟩ = some (.slice Kk l'.length kk) ∧ (l' ≠ [] → ∃ b off, Kk = some ⟨b, off, none⟩ ∧ M b ∧ KidsAt wr M b off l') ∧
    s = .slice C k d ∧ wr.ownsRow w.heap.size 53 1 (.slice C k d) k xs ∧ PtrsAt wr M xs ks ∧ r = (kidsP (.node o' l') (p.drop k)).map (ks ++ ·)) (fun _ _ i _ => n - natV i)
  case atStart => exact ⟨Below.refl _ _, 0, o, l, b, off, Ak, ck, none, 0, [], [], Nat.zero_le _, rfl, rfl, rfl, Hb.out, H8.out, HK.out, rfl, World.ownsRow_nil _ _ _ 1, trivial, HR.out⟩
  case round =>
    obtain ⟨hB, k, o', l', b', off', Kk, kk, C, d, xs, ks, hk, hkl, rfl, rfl, hbl, j8, hkids, rfl, ho, hx, hr⟩ := hrel
    clear HR H8 Hb HK
    have HB := Lib.hid hB
    have HO := Lib.hid ho
    have HX := Lib.hid hx
    have hn := HN.out
    by_cases hlt : k < n
    · have d1 : decide ((k : Int) < (n : Int)) = true := decide_eq_true (by omega)
      have d1n : decide (k < n) = true := decide_eq_true hlt
      have hpl := HP.out.1
      obtain ⟨pb, po, rfl, hpb, hpc⟩ := HP.out.2 (by omega)
      have hxx : wr.cell? ⟨pb, po + k, none⟩ = some (.int .i64 (p.getD k 0)) := (hB.cell hpb).trans (hpc k hlt)
      have ed : p.drop k = p.getD k 0 :: p.drop (k + 1) := by
        rw [List.drop_eq_getElem_cons (by omega)]
        simp [List.getD, show k < p.length by omega]
      rw [ed] at hr
      generalize p.getD k 0 = x at *
      have hki : (0 : Int) ≤ (k : Int) := by omega
      have hkn : (k : Int) < (n : Int) := by omega
      by_cases c1 : x < 0
      · have e1 : decide (x < 0) = true := decide_eq_true c1
        have HE : Hid (r = none) := show _ = _ by rw [hr, kidsP, dif_neg (by omega)]; rfl
        clear hr ed hpl hpc hkids ho hx
        go_wp2_with fail
        go_ret2
        refine ⟨?_, HB.out⟩
        rw [HE.out]
        rfl
      have e1 : decide (x < 0) = false := decide_eq_false c1
      by_cases c2 : (l'.length : Int) ≤ x
      · have e2 : decide ((l'.length : Int) ≤ x) = true := decide_eq_true c2
        have HE : Hid (r = none) := show _ = _ by rw [hr, kidsP, dif_neg (by omega)]; rfl
        clear hr ed hpl hpc hkids ho hx
        go_wp2_with fail
        go_ret2
        refine ⟨?_, HB.out⟩
        rw [HE.out]
        rfl
      have e2 : decide ((l'.length : Int) ≤ x) = false := decide_eq_false c2
      obtain ⟨m, rfl⟩ : ∃ m : Nat, x = (m : Int) := ⟨x.toNat, by omega⟩
      have hm : m < l'.length := by omega
      obtain ⟨gb, go, rfl, hgb, hK⟩ := hkids (fun e => by rw [e] at hm; exact absurd hm (Nat.not_lt_zero _))
      have hkid := kids_get hK m hm
      obtain ⟨y, hy⟩ : ∃ y, y = l'[m] := ⟨_, rfl⟩
      rw [← hy] at hkid
      have hr2 : r = (kidsP y.2 (p.drop (k + 1))).map ((ks ++ [y]) ++ ·) := by
        rw [hr, kidsP, dif_pos (by omega), hy]
        simp only [Int.toNat_natCast, Option.map_map]
        congr 1
        funext z
        simp
      have HR2 := Lib.hid hr2
      have HKID := Lib.hid hkid
      have HGB := Lib.hid hgb
      have HK1 : Hid (k + 1 ≤ n) := hlt
      have HKL := Lib.hid hkl
      have HBL := Lib.hid hbl
      have u2 : Hid (wrap64 ((k : Int) + 1) = ((k + 1 : Nat) : Int)) := show _ = _ from w64 (by omega) (by omega)
      have hm0 : (0 : Int) ≤ (m : Int) := by omega
      have hm1 : (m : Int) < (l'.length : Int) := by omega
      obtain ⟨i0, hi0, hz0, hz1, hz2⟩ := info_parts info_ptr
      have HZ := Lib.hid hz0; have HI0 := Lib.hid hi0; have H1 := Lib.hid hz1; have H2 := Lib.hid hz2
      have M2 : k + 1 ≤ maxLen := by simp only [maxLen]; omega
      have M3 : (k + 1) * 8 ≤ 140737488355328 := by omega
      have l4 : ∀ u ∈ ([.pointer (some ⟨gb, go + m * 10, none⟩)] : List Value), u.oneCell' = true := by simp [Value.oneCell']
      have hgn := heap_alloc_new wr (.cells #[.pointer (some ⟨gb, go + m * 10, none⟩)] 53)
      have HOA : Hid ((wr.alloc (.cells #[.pointer (some ⟨gb, go + m * 10, none⟩)] 53)).ownsRow w.heap.size 53 1 (.slice C k d) k xs) := HO.out.alloc _
      have BA : Below w.heap.size w (wr.alloc (.cells #[.pointer (some ⟨gb, go + m * 10, none⟩)] 53)) := HB.out.alloc HB.out.size _
      have BAr : Below wr.heap.size wr (wr.alloc (.cells #[.pointer (some ⟨gb, go + m * 10, none⟩)] 53)) := (Below.refl _ _).alloc (Nat.le_refl _) _
      have HSr : Hid (0 < 1 → ∃ ad, some (⟨wr.heap.size, 0, none⟩ : Addr) = some ad ∧ ∀ j u, ([.pointer (some ⟨gb, go + m * 10, none⟩)] : List Value)[j]? = some u → (wr.alloc (.cells #[.pointer (some ⟨gb, go + m * 10, none⟩)] 53)).cell? (ad.add j) = some u) := fun _ =>
        ⟨_, rfl, World.news_of_block (cs := #[.pointer (some ⟨gb, go + m * 10, none⟩)]) (t := 53) (fr := (0, 0)) hgn⟩
      have hsz : w.heap.size ≤ (wr.alloc (.cells #[.pointer (some ⟨gb, go + m * 10, none⟩)] 53)).heap.size := BA.size
      have J8 := Lib.hid j8
      clear hz0 hi0 hz1 hz2 ho hx hgn hr hr2 ed hpl hpc hK hkid hgb hkl
      go_wp2_with (first | (at_builtin; refine wpList_append_held _ rfl (.tmp 26) (.tmp 33) 49 rfl w.heap.size 53 i0 _ 8 Try.underlying49 HI0.out HZ.out H1.out H2.out rfl _ k xs rfl HOA.out (some ⟨wr.heap.size, 0, none⟩) 1 1 [.pointer (some ⟨gb, go + m * 10, none⟩)] rfl rfl HSr.out l4 M2 M3 hsz ?_))
      intro A5 c5 w5 ho5 hg5 _
      have BW := BA.grown hg5 BA.size (fun k hk => (HOA.out.lt k hk).1)
      have low : ∀ z, z < w.heap.size → w5.heap[z]? = wr.heap[z]? := fun z hz => (BW.block z hz).trans (HB.out.block z hz).symm
      have HB6 := Lib.hid BW
      have HO5 := Lib.hid ho5.out
      have HX5 : Hid (PtrsAt w5 M (xs ++ [.pointer (some ⟨gb, go + m * 10, none⟩)]) (ks ++ [y])) := show PtrsAt _ _ _ _ from PtrsAt.snoc HGB.out (HKID.out.keep (fun z hz => low z (HM.out z hz)) HGB.out) (HX.out.keep fun z hz => low z (HM.out z hz))
      have HKID5 := Lib.hid (HKID.out.keep (fun z hz => low z (HM.out z hz)) HGB.out)
      have s8 : w5.cell? ⟨b', off' + 8, none⟩ = some (.slice (some ⟨gb, go, none⟩) l'.length kk) := (World.cell?_of_block (low b' HBL.out)).trans J8.out
      clear ho5 hg5 HOA BA BAr HSr hsz l4 M2 M3 BW low hxx j8 HX HKID HO HI0 HZ H1 H2
      go_wp2_with fail
      go_roundw
      case rel =>
        obtain ⟨yn, o2, l2⟩ := y
        obtain ⟨_, _, cs, hc9, hc, hT⟩ := HKID5.out
        obtain ⟨Nb, nb, Nk, nk, rfl, _, _, _, hk2⟩ := TreeAt.open_ hT
        exact ⟨HB6.out, k + 1, o2, l2, gb, go + m * 10 + 1, Nk, nk, A5, c5, xs ++ [.pointer (some ⟨gb, go + m * 10, none⟩)], ks ++ [(yn, .node o2 l2)], HK1.out, by rw [List.length_append, HKL.out]; rfl, rfl, rfl, HM.out _ HGB.out, hc 8 (by decide), hk2, rfl, HO5.out, HX5.out, HR2.out⟩
      case measure => have := HK1.out; simp [natV]; omega
    · obtain rfl : k = n := by omega
      have d1 : decide ((k : Int) < (k : Int)) = false := decide_eq_false (by omega)
      have d1n : decide (k < k) = false := decide_eq_false (by omega)
      have HE : Hid (r = some ks) := show _ = _ by
        have := HP.out.1
        rw [hr, List.drop_of_length_le (by omega), kidsP]
        simp
      have HKL := Lib.hid hkl
      clear hr hkids ho hx hkl
      go_wp2_with fail
      go_ret2
      refine ⟨?_, HB.out⟩
      rw [HE.out]
      have e := HKL.out
      refine ⟨C, d, xs, by rw [e]; rfl, by rw [e]; exact HO.out, HX.out⟩
end Go.Proofs.Ytmkgcifcfgfegaa
