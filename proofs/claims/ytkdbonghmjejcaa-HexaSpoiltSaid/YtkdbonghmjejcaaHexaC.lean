/-
  What hexa.Bytes and the document's Unhex do, one contract each; no condition beyond what each contract asks.
-/
import Derived.Test.YtkdbonghmjejcaaHexaB
namespace Go.Proofs.Ytkdbonghmjejcaa
open Go.RowKit

/-- Bytes that were read, or none. -/
def Got (r : Option (List UInt8)) (w : World) (e : Ending) (w' : World) : Prop :=
  ∃ A c, e = .returned (.tuple #[.slice A (r.getD []).length c, .bool r.isSome]) ∧ Held w' (· < w'.heap.size) A (r.getD []).length (r.getD []) ∧ Below w.heap.size w w'
theorem got_none {r : Option (List UInt8)} (h : r = none) {w w' : World} (hb : Below w.heap.size w w') : Got r w (.returned (.tuple #[.slice none 0 0, .bool false])) w' := by
  subst h
  exact ⟨none, 0, rfl, Held.nothing rfl, hb⟩
theorem got_some {r : Option (List UInt8)} {m : List UInt8} (h : r = some m) {w w' : World} {A : Option Addr} {n c : Nat} (hl : Held w' (· < w'.heap.size) A n m) (hb : Below w.heap.size w w') : Got r w (.returned (.tuple #[.slice A n c, .bool true])) w' := by
  subst h
  obtain rfl := hl.1
  exact ⟨A, c, rfl, hl, hb⟩

/-- A byte of a text. -/
theorem at_str (l : List UInt8) (i : Int) (j : Nat) (hi : i = (j : Int)) (hj : j < l.length) (w : World) :
    (Instr.index 9 (.string ⟨l.toArray⟩) (.int .i64 i)).run Try.prog w = .ok (.int .u8 ((l.getD j 0).toNat : Int)) w := by
  subst hi
  rw [run_index_string w _ _ _ _ Try.underlying9, dif_pos ⟨by omega, by simp [ByteArray.size]; omega⟩]
  have e : (⟨l.toArray⟩ : ByteArray)[((j : Int)).toNat]'(by simp [ByteArray.size]; omega) = l.getD j 0 := by
    show l.toArray[((j : Int)).toNat]'(by simp; omega) = l.getD j 0
    simp [List.getD, hj]
  rw [e]

theorem wraps_u8 (n : Int) (h₀ : 0 ≤ n) (h₁ : n < 2 ^ 8) : IntKind.u8.wrap n = n := by rw [IntKind.wrap_u8]; omega
theorem u8_join (x y : Nat) (hx : x < 16) (hy : y < 16) : bits .or .u8 ((x : Int) * 16) (y : Int) = (((UInt8.ofNat (x * 16 + y)).toNat : Nat) : Int) := by
  rw [bits_join .u8 8 (by decide) wraps_u8 4 ((x : Int) * 16) (y : Int) (by omega) (by omega) (by omega) (by omega) (by omega) (by omega), UInt8.toNat_ofNat', Nat.mod_eq_of_lt (by omega)]
  omega
theorem set_next (pre : List UInt8) (old : Value) (rest : List Value) (k : Nat) (h : pre.length = k) (x : UInt8) :
    (cellsOf pre ++ old :: rest).toArray.setIfInBounds k (.int .u8 (x.toNat : Int)) = (cellsOf (pre ++ [x]) ++ rest).toArray := by
  subst h
  rw [List.setIfInBounds_toArray, ← cellsOf_length, List.set_append_right _ _ (Nat.le_refl _), Nat.sub_self, List.set_cons_zero, cellsOf_append]
  simp [cellsOf]

set_option maxHeartbeats 2000000 in
theorem bytes_odd (l : List UInt8) (h : l.length % 2 = 1) (w : World) :
    Calls Try.prog 8 #[.string ⟨l.toArray⟩] w (Got (unhex l) w) := by
  have HR : Hid (unhex l = none) := unhex_odd l (by omega)
  have d : ((l.length : Int) % 2 != 0) = true := by simp; omega
  go_enter Try.func8, Try.ntmps8
  go_wp2_with fail
  go_ret2
  exact got_none HR.out (Below.refl _ _)

def BytesRel (w : World) (l : List UInt8) (i : Value) (wr : World) : Prop :=
  ∃ (k : Nat) (pre : List UInt8) (rest : List Value), 2 * k ≤ l.length ∧ i = .int .i64 (k : Int) ∧ pre.length = k ∧ 2 * (k + rest.length) = l.length ∧
    wr.heap[w.heap.size]? = some (.cells (cellsOf pre ++ rest).toArray 5 (0, 0)) ∧ unhex l = (unhex (l.drop (2 * k))).map (pre ++ ·) ∧ Below w.heap.size w wr

set_option maxHeartbeats 4000000 in
theorem bytes_even (l : List UInt8) (h : Nat) (hl : l.length = 2 * h) (hm : h ≤ 1000000) (w : World) :
    Calls Try.prog 8 #[.string ⟨l.toArray⟩] w (Got (unhex l) w) := by
  obtain ⟨i0, hi0, hz0, hz1, hz2⟩ := info_parts info_u8
  have hml : h ≤ maxLen := by simp only [maxLen]; omega
  have hb2 : i0.bytes * h ≤ 281474976710656 := by rw [hz2]; omega
  have HZ := Lib.hid hz0; have HI := Lib.hid hi0; have H1 := Lib.hid hz1; have H2 := Lib.hid hz2
  clear hz0 hi0 hz1 hz2
  have d : ((l.length : Int) % 2 != 0) = false := by simp; omega
  have s : wrap64 ((l.length : Int) / 2) = (h : Int) := by simp only [wrap64]; omega
  have HLen := Lib.hid hl
  clear hl
  obtain ⟨r, hr⟩ : ∃ r, r = unhex l := ⟨_, rfl⟩
  rw [← hr]
  have HR := Lib.hid hr
  clear hr
  go_enter Try.func8, Try.ntmps8
  go_wp2_with (first | (at_make; refine wpList_make_full _ rfl _ _ 22 rfl w.heap.size 5 i0 _ 1 Try.underlying22 HI.out HZ.out H1.out _ _ _ _ h rfl rfl s s hb2 hml (Nat.le_refl _) ?_))
  intro w1 hown1 hgr1
  have B1 : Below w.heap.size w w1 := (Below.refl _ _).grown hgr1 (Nat.le_refl _) (by intro k hk; cases hk)
  obtain ⟨cur, HG, HL⟩ : ∃ cur : List Value, Hid (w1.heap[w.heap.size]? = some (.cells cur.toArray 5 (0, 0))) ∧ Hid (cur.length = h) := by
    rcases hown1.2 with ⟨h, _⟩ | ⟨g, cap, cur, hv, _, hg, _, _, hs, _⟩
    · cases h
    · injection hv with h1 h2 h3
      injection h1 with h1
      injection h1 with h1
      subst h1
      subst h3
      exact ⟨cur.toList, show _ = _ by simpa using hg, show _ = _ by simpa using hs⟩
  clear hown1 hgr1
  go_wp2_with fail
  go_loopw [20] (fun i wr => BytesRel w l i wr) (fun i _ => h - (intOf i).toNat)
  case atStart => exact ⟨0, [], cur, by omega, rfl, rfl, by rw [HL.out, HLen.out]; omega, HG.out, by simp, B1⟩
  case round =>
    obtain ⟨k, pre, rest, hk, rfl, hpre, hrest, hg, hun, Br⟩ := hrel
    rw [HLen.out] at hk hrest
    have HP := Lib.hid hpre; have HGk := Lib.hid hg; have HU := Lib.hid hun
    clear hpre hg hun
    by_cases hlt : k < h
    · have d1 : decide ((k : Int) < (h : Int)) = true := by simp; omega
      have d1n : decide (k < h) = true := by simp; omega
      obtain ⟨old, rest, rfl⟩ : ∃ a r, rest = a :: r := by
        cases rest with
        | nil => simp at hrest; omega
        | cons a r => exact ⟨a, r, rfl⟩
      have hrest' : Hid (2 * (k + 1 + rest.length) = l.length) := show _ = _ by rw [HLen.out]; simp at hrest; omega
      clear hrest
      have hc := block_cell HGk.out k
      have hf := block_frozen HGk.out k
      rw [List.getElem?_toArray, List.getElem?_append_right (by rw [cellsOf_length, HP.out]; omega), cellsOf_length, HP.out, Nat.sub_self] at hc
      simp only [List.getElem?_cons_zero] at hc
      have i1 := at_str l (2 * (k : Int)) (2 * k) (by omega) (by rw [HLen.out]; omega)
      have i2 := at_str l (2 * (k : Int) + 1) (2 * k + 1) (by omega) (by rw [HLen.out]; omega)
      have hat := unhex_at l k (by rw [HLen.out]; omega)
      obtain ⟨a, ha⟩ : ∃ a, a = l.getD (2 * k) 0 := ⟨_, rfl⟩
      obtain ⟨b, hb⟩ : ∃ b, b = l.getD (2 * k + 1) 0 := ⟨_, rfl⟩
      rw [← ha] at i1 hat
      rw [← hb] at i2 hat
      have HAT := Lib.hid hat
      clear ha hb hat
      go_wp2_with fail
      refine (value_any a wr).mono ?_
      rintro e w2 ⟨rfl, rfl⟩
      unfold valV
      by_cases v1 : val a < 16
      · by_cases v2 : val b < 16
        · rw [decide_eq_true v1, Nat.mod_eq_of_lt v1]
          go_wp2_with fail
          refine (value_any b wr).mono ?_
          rintro e w2 ⟨rfl, rfl⟩
          unfold valV
          rw [decide_eq_true v2, Nat.mod_eq_of_lt v2]
          have hset := block_set HGk.out k (.int .u8 ((UInt8.ofNat (val a * 16 + val b)).toNat : Int))
          rw [set_next pre old rest k HP.out] at hset
          have HS := Lib.hid hset
          have BS : Below w.heap.size w (wr.setCell ⟨w.heap.size, k, none⟩ (.int .u8 ((UInt8.ofNat (val a * 16 + val b)).toNat : Int))) := Br.setCell (p := ⟨w.heap.size, k, none⟩) (Nat.le_refl _) _
          have HJ := Lib.hid (u8_join (val a) (val b) v1 v2)
          have HN : Hid (unhex l = (unhex (l.drop (2 * (k + 1)))).map ((pre ++ [UInt8.ofNat (val a * 16 + val b)]) ++ ·)) := show _ = _ by
            rw [HU.out, HAT.out, if_pos ⟨v1, v2⟩]
            simp [Function.comp_def]
          clear hset HAT HU
          go_wp2_with fail
          rw [HJ.out]
          go_roundw
          case rel => exact ⟨k + 1, _, rest, by rw [HLen.out]; omega, by go_num, by simp [HP.out], hrest'.out, HS.out, HN.out, BS⟩
          case measure => simp [intOf]; omega
        · have HN : Hid (r = none) := show _ = _ by
            rw [HR.out, HU.out, HAT.out, if_neg (by omega)]
            rfl
          rw [decide_eq_true v1, Nat.mod_eq_of_lt v1]
          go_wp2_with fail
          refine (value_any b wr).mono ?_
          rintro e w2 ⟨rfl, rfl⟩
          unfold valV
          rw [decide_eq_false v2]
          go_wp2_with fail
          go_ret2
          exact got_none HN.out Br
      · have HN : Hid (r = none) := show _ = _ by
          rw [HR.out, HU.out, HAT.out, if_neg (by omega)]
          rfl
        rw [decide_eq_false v1]
        go_wp2_with fail
        refine (value_any b wr).mono ?_
        rintro e w2 ⟨rfl, rfl⟩
        unfold valV
        go_wp2_with fail
        go_ret2
        exact got_none HN.out Br
    · have hkh : k = h := by omega
      subst hkh
      have d1 : decide ((k : Int) < (k : Int)) = false := by simp
      have HF : Hid (r = some pre) := show _ = _ by
        rw [HR.out, HU.out, List.drop_eq_nil_of_le (by rw [HLen.out]; omega)]
        simp [unhex]
      have hr0 : rest = [] := List.eq_nil_of_length_eq_zero (by omega)
      have HE : Hid (Held wr (· < wr.heap.size) (some ⟨w.heap.size, 0, none⟩) k pre) := by
        have hg := HGk.out
        rw [hr0, List.append_nil] at hg
        exact Held.of_row hg HP.out (block_lt hg)
      clear hr0
      go_wp2_with fail
      go_ret2
      exact got_some HF.out HE.out Br

theorem bytes_any (l : List UInt8) (hl : l.length ≤ 2000000) (w : World) : Calls Try.prog 8 #[.string ⟨l.toArray⟩] w (Got (unhex l) w) := by
  rcases Nat.mod_two_eq_zero_or_one l.length with h | h
  · exact bytes_even l (l.length / 2) (by omega) (by omega) w
  · exact bytes_odd l h w

end Go.Proofs.Ytkdbonghmjejcaa
