/-
  What the program's walk through all values does (chapter 18); by induction over trees, no condition but bounds.
-/
import Derived.Test.YtmkgcifcfgfegaaKeep18
namespace Go.Proofs.Ytmkgcifcfgfegaa
set_option maxRecDepth 100000
open Go.RowKit

theorem below_cell {B : Nat} {w w' : World} (hB : Below B w w') {b off : Nat} (hb : b < B) {v : Value} (h : w.cell? ⟨b, off, none⟩ = some v) : w'.cell? ⟨b, off, none⟩ = some v := (hB.cell (p := ⟨b, off, none⟩) hb).trans h
set_option maxHeartbeats 4000000 in
theorem all_any (B gt : Nat) (hB : B ≤ gt) : ∀ (t : Tree) (b off : Nat) (w : World) (p : List Int) (ls : List (List Int)), ValAt w (· < B) b off t → Trl B gt w p ls → p.length + cntT t ≤ 1000000 → ls.length + cntT t ≤ 1000000 →
    Calls Try.prog 27 #[.pointer (some ⟨gt, 0, none⟩), .pointer (some ⟨b, off, none⟩)] w fun e w' => (e = .returned (.tuple #[]) ∧ Trl B gt w' p (ls ++ allT t p)) ∧ Below B w w' := by
  refine Tree.ind ?_
  intro o l ih b off w p ls hV hT hcp hcl
  obtain ⟨R, hR⟩ : ∃ R, R = allT (.node o l) p := ⟨_, rfl⟩
  rw [← hR]
  have hRl : R.length = cntT (.node o l) := by rw [hR]; exact allT_length _ _
  rw [allT] at hR
  rw [cntT] at hcp hcl hRl
  obtain ⟨hb, Ab, cb, Ak, ck, ⟨_, _, _, _, _, _, _, _, c8⟩, _, _, _, hkids⟩ := hV.open_
  have cK := Lib.hid (keep_any B gt w p ls hT hB (by omega) (by omega))
  have HK := Lib.hid hkids
  have HI := Lib.hid ih
  have HCP := Lib.hid hcp
  have HCL := Lib.hid hcl
  have HRL := Lib.hid hRl
  have HR0 := Lib.hid hR
  have Hb := Lib.hid hb
  have C8 := Lib.hid c8
  have HBG := Lib.hid hB
  have HL : Hid (l.length ≤ 1000000) := show _ ≤ _ by have := len_le_cnt l; omega
  clear hkids ih hcp hcl hRl hR hb c8 hV hT hB
  go_enter Try.func27, Try.ntmps27
  go_wp2_with fail
  refine (cK.out).mono ?_
  rintro e w1 ⟨⟨rfl, T1⟩, B1⟩
  have cD := Lib.hid (down_any B gt w1 p (ls ++ [p]) T1 HBG.out (by have := HCP.out; omega))
  have HB1 := Lib.hid B1
  clear T1 B1 cK
  go_wp2_with fail
  refine (cD.out).mono ?_
  rintro e w2 ⟨⟨rfl, T2⟩, B2⟩
  have HB2 := Lib.hid (HB1.out.trans B2)
  have HT2 := Lib.hid T2
  have j8 : w2.cell? ⟨b, off + 8, none⟩ = some (.slice Ak l.length ck) := below_cell HB2.out Hb.out C8.out
  clear T2 B2 cD HB1
  go_wp2_with fail
  clear j8
  go_loopw [14] (fun i wr => Below B w wr ∧ ∃ (k : Nat) (x : Int) (ds : List (List Int)), k ≤ l.length ∧ i = .int .i64 (k : Int) ∧ Trl B gt wr (p ++ [x]) (ls ++ ds) ∧ R = ds ++ allK (l.drop k) k p) (fun i _ => l.length - natV i)
  case atStart => exact ⟨HB2.out, 0, 0, [p], Nat.zero_le _, rfl, HT2.out, HR0.out⟩
  case round =>
    obtain ⟨hB, k, x, ds, hk, rfl, hT, hr⟩ := hrel
    clear HB2 HT2
    have HB := Lib.hid hB
    by_cases hlt : k < l.length
    · have d1 : decide ((k : Int) < (l.length : Int)) = true := decide_eq_true (by omega)
      have d1n : decide (k < l.length) = true := decide_eq_true hlt
      obtain ⟨kb, ko, rfl, hbl, hK⟩ := HK.out (fun e => by rw [e] at hlt; exact absurd hlt (Nat.not_lt_zero _))
      have hkid := (kids_get hK k hlt).val hbl
      rw [allK_step hlt] at hr
      have hkc := cntT_kid hlt
      have hrl := hr ▸ HRL.out
      rw [List.length_append, List.length_append, allT_length] at hrl
      have hcp := HCP.out
      have hcl := HCL.out
      have cT := Lib.hid (turn_any B gt wr p x (k : Int) (ls ++ ds) hT (by omega))
      have hih := HI.out l[k] (List.getElem_mem hlt)
      obtain ⟨r2, hr2⟩ : ∃ r2, r2 = allT (l[k]).2 (p ++ [(k : Int)]) := ⟨_, rfl⟩
      have cA := Lib.hid fun (V : World) (hV : Below B wr V) (hT : Trl B gt V (p ++ [(k : Int)]) (ls ++ ds)) => hih kb (ko + k * 10 + 1) V (p ++ [(k : Int)]) (ls ++ ds) (hkid.keep (fun z hz => ((hB.trans hV).block z hz))) hT (by simp; omega) (by rw [List.length_append]; omega)
      rw [← hr2] at hr cA
      have HE := Lib.hid hr
      have HK1 : Hid (k + 1 ≤ l.length) := hlt
      have u2 : Hid (wrap64 ((k : Int) + 1) = ((k + 1 : Nat) : Int)) := show _ = _ from w64 (by omega) (by have := HL.out; omega)
      have hlti : (k : Int) < (l.length : Int) := by omega
      have hlt0 : (0 : Int) ≤ (k : Int) := by omega
      clear hr hr2 hih hkid hkc hrl hcp hcl hT hK hk hB
      go_wp2_with fail
      refine (cT.out).mono ?_
      rintro e w3 ⟨⟨rfl, T3⟩, B3⟩
      have HB3 := Lib.hid (HB.out.trans B3)
      have j8 : w3.cell? ⟨b, off + 8, none⟩ = some (.slice (some ⟨kb, ko, none⟩) l.length ck) := below_cell HB3.out Hb.out C8.out
      have cA2 := Lib.hid (cA.out w3 B3 T3)
      clear B3 T3 cT cA
      go_wp2_with fail
      refine (cA2.out).mono ?_
      rintro e w4 ⟨⟨rfl, T4⟩, B4⟩
      have HB4 := Lib.hid (HB3.out.trans B4)
      have HT4 := Lib.hid T4
      clear B4 T4 cA2 j8 HB3 HB
      go_wp2_with fail
      go_roundw
      case rel => exact ⟨HB4.out, k + 1, (k : Int), ds ++ r2, HK1.out, by first | rfl | rw [u2.out], by rw [← List.append_assoc]; exact HT4.out, by rw [HE.out, List.append_assoc]⟩
      case measure => have := HK1.out; first | (rw [u2.out]; simp [natV]; omega) | (simp [natV]; omega)
    · obtain rfl : k = l.length := by omega
      have d1 : decide ((l.length : Int) < (l.length : Int)) = false := decide_eq_false (by omega)
      have d1n : decide (l.length < l.length) = false := decide_eq_false (by omega)
      rw [List.drop_length, allK, List.append_nil] at hr
      have cU := Lib.hid (up_any B gt wr p x (ls ++ ds) hT HBG.out (by have := HCP.out; omega))
      rw [← hr] at cU
      clear hr hT hlt hk hB
      go_wp2_with fail
      refine (cU.out).mono ?_
      rintro e w5 ⟨⟨rfl, T5⟩, B5⟩
      have HB5 := Lib.hid (HB.out.trans B5)
      have HT5 := Lib.hid T5
      clear B5 T5 cU
      go_wp2_with fail
      refine bodyPost_end (results_none rfl _ _ _) rfl ?_
      exact ⟨⟨rfl, HT5.out⟩, HB5.out⟩
end Go.Proofs.Ytmkgcifcfgfegaa
