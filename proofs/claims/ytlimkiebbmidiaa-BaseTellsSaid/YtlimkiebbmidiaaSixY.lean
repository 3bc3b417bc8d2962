/-
  What the document's Unbase does; no condition beyond what the contract asks.
-/
import Derived.Test.YtlimkiebbmidiaaSixX
namespace Go.Proofs.Ytlimkiebbmidiaa
open Go.RowKit

set_option maxHeartbeats 1000000 in
theorem refUnbase_odd (l : List UInt8) (h : ¬ l.length % 4 = 0) (w : World) :
    Calls Try.prog 11 #[.string ⟨l.toArray⟩] w (Got (unb l) w) := by
  have HR : Hid (unb l = none) := unb_odd l h
  have d : ((l.length : Int) % 4 != 0) = true := by simp; omega
  go_enter Try.func11, Try.ntmps11
  go_wp2_with fail
  go_ret2
  exact got_none HR.out (Below.refl _ _)

theorem fills_next {s : List UInt8} {j : Nat} (h4 : 4 ≤ s.length) (hj : j ≤ fills s) (h2 : j < 2) : s.getD (s.length - (j + 1)) 0 = 61 ↔ j + 1 ≤ fills s := by
  unfold fills at *
  rw [if_neg (by omega)] at *
  rcases (by omega : j = 0 ∨ j = 1) with rfl | rfl
  · simp only [Nat.zero_add]
    by_cases c : s.getD (s.length - 1) 0 = 61
    · rw [if_pos c]
      refine ⟨fun _ => ?_, fun _ => c⟩
      split <;> omega
    · rw [if_neg c]
      exact ⟨fun e => absurd e c, fun e => absurd e (by omega)⟩
  · simp only [Nat.reduceAdd]
    by_cases c : s.getD (s.length - 1) 0 = 61
    · rw [if_pos c] at *
      by_cases c2 : s.getD (s.length - 2) 0 = 61
      · rw [if_pos c2]
        exact ⟨fun _ => by omega, fun _ => c2⟩
      · rw [if_neg c2]
        exact ⟨fun e => absurd e c2, fun e => absurd e (by omega)⟩
    · rw [if_neg c] at hj
      omega
theorem dec_at {s : List UInt8} {p : Nat} (h : p + 4 ≤ s.length) : dec (s.drop p) = [by1 (sz (s.getD p 0)) (sz (s.getD (p + 1) 0)), by2 (sz (s.getD (p + 1) 0)) (sz (s.getD (p + 2) 0)), by3 (sz (s.getD (p + 2) 0)) (sz (s.getD (p + 3) 0))] ++ dec (s.drop (p + 4)) := by
  rw [un4 h, dec]
  rfl

def UnbaseRel (w : World) (s : List UInt8) (v i : Value) (wr : World) : Prop :=
  ∃ (k m : Nat) (pre : List UInt8) (A : Option Addr) (c : Nat), 4 * k ≤ s.length ∧ i = .int .i64 (4 * (k : Int)) ∧ v = .slice A m c ∧ m = 3 * k ∧
    wr.ownsRow w.heap.size 5 1 (.slice A m c) m (cellsOf pre) ∧ dec s = pre ++ dec (s.drop (4 * k)) ∧ Below w.heap.size w wr
def StripRel (W : World) (s : List UInt8) (A : Option Addr) (m c : Nat) (v k : Value) (wr : World) : Prop :=
  wr = W ∧ ∃ (j n : Nat), j ≤ fills s ∧ k = .int .i64 ((j : Int) + 1) ∧ v = .slice A n c ∧ n = m - j

set_option maxHeartbeats 8000000 in
set_option maxRecDepth 100000 in
theorem refUnbase_even (s : List UInt8) (h : Nat) (hl : s.length = 4 * h) (hm : h ≤ 250000) (w : World) :
    Calls Try.prog 11 #[.string ⟨s.toArray⟩] w (Got (unb s) w) := by
  obtain ⟨i0, hi0, hz0, hz1, hz2⟩ := info_parts info_u8
  have HZ := Lib.hid hz0; have HI := Lib.hid hi0; have H1 := Lib.hid hz1; have H2 := Lib.hid hz2
  clear hz0 hi0 hz1 hz2
  have d : ((s.length : Int) % 4 != 0) = false := by simp; omega
  have HLen := Lib.hid hl
  have hlb : (s.length : Int) = 4 * (h : Int) := by omega
  obtain ⟨r, hr⟩ : ∃ r, r = unb s := ⟨_, rfl⟩
  rw [← hr]
  have HR := Lib.hid hr
  clear hr hl
  have HLB := Lib.hid hlb
  obtain ⟨N, hN⟩ : ∃ N, N = s.length := ⟨_, rfl⟩
  have hNh : N = 4 * h := by rw [hN]; exact HLen.out
  have HN := Lib.hid hN
  clear hN hlb
  go_enter Try.func11, Try.ntmps11
  go_wp2_with fail
  go_loopw [4, 5] (fun v i wr => UnbaseRel w s v i wr) (fun _ i _ => N - (intOf i).toNat)
  case atStart => exact ⟨0, 0, [], none, 0, by omega, rfl, rfl, rfl, World.ownsRow_nil _ _ _ _, by simp, Below.refl _ _⟩
  case round =>
    obtain ⟨k, m, pre, A, c, hk, rfl, rfl, hm3, hown, hdec, Br⟩ := hrel
    rw [HLen.out] at hk
    have HO := Lib.hid hown; have HD := Lib.hid hdec; have HM3 := Lib.hid hm3
    have hmb : m ≤ 750000 := by omega
    clear hown hdec hm3
    by_cases hlt : k < h
    · have d1 : decide (4 * (k : Int) < (s.length : Int)) = true := by rw [HLB.out]; simp; omega
      have x1 := at_txt s .i64 (4 * (k : Int)) (4 * k) (by omega) (by rw [HLen.out]; omega)
      have x2 := at_txt s .i64 (4 * (k : Int) + 1) (4 * k + 1) (by omega) (by rw [HLen.out]; omega)
      have x3 := at_txt s .i64 (4 * (k : Int) + 2) (4 * k + 2) (by omega) (by rw [HLen.out]; omega)
      have x4 := at_txt s .i64 (4 * (k : Int) + 3) (4 * k + 3) (by omega) (by rw [HLen.out]; omega)
      have y2 : IntKind.i64.wrap (4 * (k : Int) + 1) = 4 * (k : Int) + 1 := by rw [IntKind.wrap_i64]; omega
      have y3 : IntKind.i64.wrap (4 * (k : Int) + 2) = 4 * (k : Int) + 2 := by rw [IntKind.wrap_i64]; omega
      have y4 : IntKind.i64.wrap (4 * (k : Int) + 3) = 4 * (k : Int) + 3 := by rw [IntKind.wrap_i64]; omega
      have hat := dec_at (s := s) (p := 4 * k) (by rw [HLen.out]; omega)
      generalize s.getD (4 * k) 0 = ca at x1 hat
      generalize s.getD (4 * k + 1) 0 = cb at x2 hat
      generalize s.getD (4 * k + 2) 0 = cc at x3 hat
      generalize s.getD (4 * k + 3) 0 = cd at x4 hat
      have q1 := sz_lt ca; have q2 := sz_lt cb; have q3 := sz_lt cc; have q4 := sz_lt cd
      have HAT := Lib.hid hat
      clear hat
      have r1 : IntKind.i64.wrap ((sz ca : Int) * 64) = (sz ca : Int) * 64 := by rw [IntKind.wrap_i64]; omega
      have r2 : IntKind.i64.wrap ((sz ca : Int) * 64 + (sz cb : Int)) = (sz ca : Int) * 64 + (sz cb : Int) := by rw [IntKind.wrap_i64]; omega
      have r3 : IntKind.i64.wrap (((sz ca : Int) * 64 + (sz cb : Int)) * 64) = ((sz ca : Int) * 64 + (sz cb : Int)) * 64 := by rw [IntKind.wrap_i64]; omega
      have r4 : IntKind.i64.wrap (((sz ca : Int) * 64 + (sz cb : Int)) * 64 + (sz cc : Int)) = ((sz ca : Int) * 64 + (sz cb : Int)) * 64 + (sz cc : Int) := by rw [IntKind.wrap_i64]; omega
      have r5 : IntKind.i64.wrap ((((sz ca : Int) * 64 + (sz cb : Int)) * 64 + (sz cc : Int)) * 64) = (((sz ca : Int) * 64 + (sz cb : Int)) * 64 + (sz cc : Int)) * 64 := by rw [IntKind.wrap_i64]; omega
      have r6 : IntKind.i64.wrap ((((sz ca : Int) * 64 + (sz cb : Int)) * 64 + (sz cc : Int)) * 64 + (sz cd : Int)) = (((sz ca : Int) * 64 + (sz cb : Int)) * 64 + (sz cc : Int)) * 64 + (sz cd : Int) := by rw [IntKind.wrap_i64]; omega
      go_wp2_with fail
      go_quiet (first | (go_at_call 18; exact Calls.quiet_of_same (refSign_any _ _)))
      have BD : Below w.heap.size w (wr.drewN nq) := Below.drawn Br _
      have HOD : Hid ((wr.drewN nq).ownsRow w.heap.size 5 1 (.slice A m c) m (cellsOf pre)) := HO.out
      clear Br HO
      generalize wr.drewN nq = wd at *
      obtain ⟨x, hx⟩ : ∃ x : Nat, (x : Int) = (((sz ca : Int) * 64 + (sz cb : Int)) * 64 + (sz cc : Int)) * 64 + (sz cd : Int) := ⟨((sz ca * 64 + sz cb) * 64 + sz cc) * 64 + sz cd, by omega⟩
      rw [← hx]
      have hxl : x < 16777216 := by omega
      have v1 : (x : Int) / 65536 = ((by1 (sz ca) (sz cb)).toNat : Int) := by rw [by1_val q1 q2]; omega
      have v2 : (x : Int) / 256 % 256 = ((by2 (sz cb) (sz cc)).toNat : Int) := by rw [by2_val q2 q3]; omega
      have v3 : (x : Int) % 256 = ((by3 (sz cc) (sz cd)).toNat : Int) := by rw [by3_val q3 q4]; omega
      have HV1 := Lib.hid v1; have HV2 := Lib.hid v2; have HV3 := Lib.hid v3
      clear hx v1 v2 v3 x1 x2 x3 x4 y2 y3 y4 r1 r2 r3 r4 r5 r6 q1 q2 q3 q4
      generalize by1 (sz ca) (sz cb) = b1 at *
      generalize by2 (sz cb) (sz cc) = b2 at *
      generalize by3 (sz cc) (sz cd) = b3 at *
      have HN2 : Hid (dec s = (pre ++ [b1, b2, b3]) ++ dec (s.drop (4 * (k + 1)))) := show _ = _ by rw [HD.out, HAT.out, List.append_assoc, show 4 * (k + 1) = 4 * k + 4 by omega]
      have HCC : Hid (cellsOf [b1, b2, b3] = [.int .u8 ((x : Int) / 65536), .int .u8 ((x : Int) / 256 % 256), .int .u8 ((x : Int) % 256)]) := show _ = _ by rw [HV1.out, HV2.out, HV3.out]; rfl
      have hgn := heap_alloc_new wd (.cells #[.int .u8 ((x : Int) / 65536), .int .u8 ((x : Int) / 256 % 256), .int .u8 ((x : Int) % 256)] 5)
      have HOA : Hid ((wd.alloc (.cells #[.int .u8 ((x : Int) / 65536), .int .u8 ((x : Int) / 256 % 256), .int .u8 ((x : Int) % 256)] 5)).ownsRow w.heap.size 5 1 (.slice A m c) m (cellsOf pre)) := HOD.out.alloc _
      have BA : Below w.heap.size w (wd.alloc (.cells #[.int .u8 ((x : Int) / 65536), .int .u8 ((x : Int) / 256 % 256), .int .u8 ((x : Int) % 256)] 5)) := BD.alloc BD.size _
      have HS : Hid (0 < 3 → ∃ ad, some (⟨wd.heap.size, 0, none⟩ : Addr) = some ad ∧ ∀ j u, ([.int .u8 ((x : Int) / 65536), .int .u8 ((x : Int) / 256 % 256), .int .u8 ((x : Int) % 256)] : List Value)[j]? = some u → (wd.alloc (.cells #[.int .u8 ((x : Int) / 65536), .int .u8 ((x : Int) / 256 % 256), .int .u8 ((x : Int) % 256)] 5)).cell? (ad.add j) = some u) := fun _ =>
        ⟨_, rfl, World.news_of_block (cs := #[.int .u8 ((x : Int) / 65536), .int .u8 ((x : Int) / 256 % 256), .int .u8 ((x : Int) % 256)]) (t := 5) (fr := (0, 0)) hgn⟩
      have L2 : m + 3 ≤ maxLen := by simp only [maxLen]; omega
      have L3 : (m + 3) * 1 ≤ 140737488355328 := by omega
      have hsz := BA.size
      have L4 : ∀ u ∈ ([.int .u8 ((x : Int) / 65536), .int .u8 ((x : Int) / 256 % 256), .int .u8 ((x : Int) % 256)] : List Value), u.oneCell' = true := by simp [Value.oneCell']
      clear hgn HOD BD HV1 HV2 HV3
      go_wp2_with (first | (at_builtin; refine wpList_append_held _ rfl (.tmp 43) (.tmp 54) 22 rfl w.heap.size 5 i0 _ 1 Try.underlying22 HI.out HZ.out H1.out H2.out rfl _ m _ rfl HOA.out (some ⟨wd.heap.size, 0, none⟩) 3 3 [.int .u8 ((x : Int) / 65536), .int .u8 ((x : Int) / 256 % 256), .int .u8 ((x : Int) % 256)] rfl rfl HS.out L4 L2 L3 hsz ?_))
      intro A5 c5 w5 ho5 hg5 _
      have B5 : Below w.heap.size w w5 := BA.grown hg5 hsz (fun k hk => (HOA.out.lt k hk).1)
      have HO5 : Hid (w5.ownsRow w.heap.size 5 1 (.slice A5 (m + 3) c5) (m + 3) (cellsOf (pre ++ [b1, b2, b3]))) := by
        rw [cellsOf_append, HCC.out]
        exact ho5
      have hm5 : Hid (m + 3 = 3 * (k + 1)) := show _ = _ by rw [HM3.out]; omega
      clear ho5 hg5 HOA BA hsz HS L4
      go_wp2_with fail
      go_roundw
      case rel => exact ⟨k + 1, m + 3, pre ++ [b1, b2, b3], A5, c5, by rw [HLen.out]; omega, ret_val (by omega), rfl, hm5.out, HO5.out, HN2.out, B5⟩
      case measure => simp [intOf]; omega
    · obtain rfl : k = h := by omega
      have d1 : decide (4 * (k : Int) < (s.length : Int)) = false := by rw [HLB.out]; simp
      have hds : dec s = pre := by
        rw [HD.out, List.drop_eq_nil_of_le (by rw [HLen.out]; omega)]
        simp [dec]
      have HH : Hid (Held wr (· < wr.heap.size) A m (dec s)) := by rw [hds]; exact own_bytes HO.out
      have hmc : m ≤ c := by
        rcases HO.out.2 with ⟨_, h0⟩ | ⟨g, cap, cur, hv, _, _, hnc, _⟩
        · omega
        · injection hv with h1 h2 h3
          omega
      have hA : Option.map (fun x : Addr => x.add 0) A = A := by cases A <;> simp [Addr.add]
      clear hds HO HD
      have hfl := fills_le s
      have hfm : fills s ≤ m := by
        rw [HM3.out]
        by_cases h4 : s.length < 4
        · have : fills s = 0 := by unfold fills; rw [if_pos h4]
          omega
        · rw [HLen.out] at h4; omega
      have HSt : Hid (Held wr (· < wr.heap.size) A (m - fills s) (strip s)) := by
        have hp := HH.out.part (k := 0) (l := m - fills s) (by omega) A (fun _ b o e => by rw [e]; rfl)
        rw [List.drop_zero] at hp
        unfold strip
        rw [HH.out.1]
        exact hp
      go_wp2_with fail
      obtain ⟨W0, rfl⟩ : ∃ W0, W0 = wr := ⟨_, rfl⟩
      go_loopw [4, 7] (fun v k' wr' => StripRel W0 s A m c v k' wr') (fun _ k' _ => 4 - (intOf k').toNat)
      case atStart => exact ⟨rfl, 0, m, by omega, ret_val (by omega), rfl, by omega⟩
      case round =>
        obtain ⟨rfl, j, n, hj, rfl, rfl, hn⟩ := hrel
        have hnm : n ≤ m := by omega
        by_cases c2 : j = 2
        · have e1 : decide ((j : Int) + 1 ≤ 2) = false := by simp; omega
          have HSn : Hid (Held wr (· < wr.heap.size) A n (strip s)) := by
            rw [hn, show m - j = m - fills s by omega]
            exact HSt.out
          clear c2 hn hj hfl hfm d1 d
          go_wp2_with fail
          refine (refBase_any A n c (strip s) wr HSn.out (by omega)).mono ?_
          rintro e w9 ⟨rfl, B9⟩
          have B9' : Below w.heap.size w w9 := Br.trans (B9.mono Br.size)
          have HS9 := Lib.hid (HSn.out.on B9)
          have HU := Lib.hid (unb_strip s)
          clear B9 HSn HSt HH
          by_cases hb : b64 (strip s) = s
          · have dd : (b64 (strip s) == s) = true := by simpa using hb
            have dn : (b64 (strip s) != s) = false := by simpa using hb
            have HF : Hid (r = some (strip s)) := show _ = _ by rw [HR.out, HU.out, if_pos hb]
            clear hb HU
            generalize strip s = t at *
            generalize b64 t = u at *
            go_wp2_with fail
            go_ret2
            exact got_some HF.out HS9.out B9'
          · have dd : (b64 (strip s) == s) = false := by simpa using hb
            have dn : (b64 (strip s) != s) = true := by simpa using hb
            have HF : Hid (r = none) := show _ = _ by rw [HR.out, HU.out, if_neg hb]
            clear hb HU
            generalize strip s = t at *
            generalize b64 t = u at *
            go_wp2_with fail
            go_ret2
            exact got_none HF.out B9'
        have e1 : decide ((j : Int) + 1 ≤ 2) = true := by simp; omega
        by_cases h4 : s.length < 4
        · have e2 : decide ((j : Int) + 1 < (s.length : Int)) = false := by have := HLen.out; simp; omega
          have hf0 : fills s = 0 := by unfold fills; rw [if_pos h4]
          have HSn : Hid (Held wr (· < wr.heap.size) A n (strip s)) := by
            rw [hn, show m - j = m - fills s by omega]
            exact HSt.out
          clear c2 hn hj hfl hfm d1 d hf0 h4
          go_wp2_with fail
          refine (refBase_any A n c (strip s) wr HSn.out (by omega)).mono ?_
          rintro e w9 ⟨rfl, B9⟩
          have B9' : Below w.heap.size w w9 := Br.trans (B9.mono Br.size)
          have HS9 := Lib.hid (HSn.out.on B9)
          have HU := Lib.hid (unb_strip s)
          clear B9 HSn HSt HH
          by_cases hb : b64 (strip s) = s
          · have dd : (b64 (strip s) == s) = true := by simpa using hb
            have dn : (b64 (strip s) != s) = false := by simpa using hb
            have HF : Hid (r = some (strip s)) := show _ = _ by rw [HR.out, HU.out, if_pos hb]
            clear hb HU
            generalize strip s = t at *
            generalize b64 t = u at *
            go_wp2_with fail
            go_ret2
            exact got_some HF.out HS9.out B9'
          · have dd : (b64 (strip s) == s) = false := by simpa using hb
            have dn : (b64 (strip s) != s) = true := by simpa using hb
            have HF : Hid (r = none) := show _ = _ by rw [HR.out, HU.out, if_neg hb]
            clear hb HU
            generalize strip s = t at *
            generalize b64 t = u at *
            go_wp2_with fail
            go_ret2
            exact got_none HF.out B9'
        have e2 : decide ((j : Int) + 1 < (s.length : Int)) = true := by simp; omega
        have hidx := at_txt s .i64 ((s.length : Int) - ((j : Int) + 1)) (s.length - (j + 1)) (by omega) (by omega)
        have hnx := fills_next (s := s) (j := j) (by omega) hj (by omega)
        obtain ⟨y, hy⟩ : ∃ y, y = s.getD (s.length - (j + 1)) 0 := ⟨_, rfl⟩
        rw [← hy] at hidx hnx
        clear hy
        have hk1 : 1 ≤ k := by have := HLen.out; omega
        have hsl : s.length ≤ 1000000 := by have := HLen.out; omega
        have h4' : 4 ≤ s.length := by omega
        have hj2 : j ≤ 1 := by omega
        have w1 : wrap64 ((s.length : Int) - ((j : Int) + 1)) = (s.length : Int) - ((j : Int) + 1) := by simp only [wrap64]; omega
        have hm3 : 3 ≤ m := by rw [HM3.out]; omega
        by_cases he : y = 61
        · have e3 : ((y.toNat : Int) == 61) = true := by rw [he]; rfl
          have hj1 : j + 1 ≤ fills s := hnx.1 he
          have hn1 : 1 ≤ n := by omega
          have hnc : n ≤ c := by omega
          have hc0 : ¬ c = 0 := by omega
          have HN1 : Hid (n - 1 = m - (j + 1)) := show _ = _ by omega
          have e4 : (n : Int) - 1 = ((n - 1 : Nat) : Int) := by omega
          clear he hnx hn d1 d h4 c2
          generalize y.toNat = yn at *
          go_wp2_with fail
          go_roundw
          case rel => exact ⟨rfl, j + 1, n - 1, hj1, ret_val (by omega), rfl, HN1.out⟩
          case measure => simp [intOf]; omega
        · have e3 : ((y.toNat : Int) == 61) = false := by
            simp only [beq_eq_false_iff_ne, ne_eq]
            intro e
            exact he (UInt8.toNat_inj.1 (by show _ = 61; omega))
          have hjf : j = fills s := by
            have : ¬ j + 1 ≤ fills s := fun e => he (hnx.2 e)
            omega
          have HSn : Hid (Held wr (· < wr.heap.size) A n (strip s)) := by
            rw [hn, hjf]
            exact HSt.out
          clear c2 hn hj hfl hfm d1 d he hnx hjf h4
          generalize y.toNat = yn at *
          go_wp2_with fail
          refine (refBase_any A n c (strip s) wr HSn.out (by omega)).mono ?_
          rintro e w9 ⟨rfl, B9⟩
          have B9' : Below w.heap.size w w9 := Br.trans (B9.mono Br.size)
          have HS9 := Lib.hid (HSn.out.on B9)
          have HU := Lib.hid (unb_strip s)
          clear B9 HSn HSt HH
          by_cases hb : b64 (strip s) = s
          · have dd : (b64 (strip s) == s) = true := by simpa using hb
            have dn : (b64 (strip s) != s) = false := by simpa using hb
            have HF : Hid (r = some (strip s)) := show _ = _ by rw [HR.out, HU.out, if_pos hb]
            clear hb HU
            generalize strip s = t at *
            generalize b64 t = u at *
            go_wp2_with fail
            go_ret2
            exact got_some HF.out HS9.out B9'
          · have dd : (b64 (strip s) == s) = false := by simpa using hb
            have dn : (b64 (strip s) != s) = true := by simpa using hb
            have HF : Hid (r = none) := show _ = _ by rw [HR.out, HU.out, if_neg hb]
            clear hb HU
            generalize strip s = t at *
            generalize b64 t = u at *
            go_wp2_with fail
            go_ret2
            exact got_none HF.out B9'

theorem refUnbase_any (l : List UInt8) (hl : l.length ≤ 1000000) (w : World) : Calls Try.prog 11 #[.string ⟨l.toArray⟩] w (Got (unb l) w) := by
  by_cases h : l.length % 4 = 0
  · exact refUnbase_even l (l.length / 4) (by omega) (by omega) w
  · exact refUnbase_odd l h w

end Go.Proofs.Ytlimkiebbmidiaa
