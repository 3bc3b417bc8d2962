/-
  What Div does. No condition beyond what each contract says.
-/
import Derived.Test.YtemkllnnemadeaaDoorNDiv
namespace Go.Proofs.YtemkllnnemadeaaDoor.G
open Go.RowKit
set_option maxRecDepth 100000 in
theorem make_nats (n : Nat) (hn : n ≤ 1000000) (L : List Value) (hL : L = dc (List.replicate n 0)) (w : World) : (Instr.makeSlice 39 (.int .i64 (n : Int)) (.int .i64 (n : Int))).run Tryd.prog w = .ok (.slice (some ⟨w.heap.size, 0, none⟩) n n) (w.alloc (.cells L.toArray 86)) := by
  subst hL
  obtain ⟨i, hi, hz, hs, hb⟩ := info_parts (P := Tryd.prog) (e := 86) (z := .int .u16 0) (size := 1) (bytes := 2) (by kernel_rfl)
  have h := run_makeSlice (P := Tryd.prog) w 39 86 i _ Tryd.underlying39 hi hz .i64 .i64 (n : Int) (n : Int) (by omega) (by omega) (by rw [hs]; simp; omega) (by rw [hb]; omega) (by omega)
  rw [h, hs]
  congr 3
  rw [Int.toNat_natCast]
  apply Array.ext
  · simp [madeCells, dc]
  · intro c c1 c2
    simp only [madeCells, Array.getElem_map, Array.getElem_range, Value.cells]
    rw [show (#[.int .u16 0] : Array Value).size = 1 from rfl, Nat.mod_one]
    simp [dc]
/-- A window of a row, and what lies above it, which is worth nothing. -/
theorem window {ls : List Nat} {j m b N : Nat} (hd : Dg ls) (hl : ls.length = N) (hj : j + m + 1 ≤ N) (hb : b < 65536 ^ m) (hlt : nv ls < 65536 ^ (j + 1) * b) :
    ∃ xs : List Nat, xs = (ls.drop j).take (m + 1) ∧ xs.length = m + 1 ∧ Dg xs ∧ ls = ls.take j ++ xs ++ ls.drop (j + m + 1) ∧ nv ls = nv (ls.take j) + 65536 ^ j * nv xs ∧ nv xs < 65536 * b ∧ nv (ls.drop (j + m + 1)) = 0 := by
  refine ⟨_, rfl, by rw [List.length_take, List.length_drop]; omega, (hd.drop j).take _, ?_, ?_⟩
  · rw [List.append_assoc, show ls.drop (j + m + 1) = (ls.drop j).drop (m + 1) by rw [List.drop_drop]; congr 1, List.take_append_drop, List.take_append_drop]
  · have e1 := take_drop_nv ls j (by omega)
    have e2 := take_drop_nv (ls.drop j) (m + 1) (by rw [List.length_drop]; omega)
    rw [List.drop_drop, show j + (m + 1) = j + m + 1 by omega] at e2
    have hz : nv (ls.drop (j + m + 1)) = 0 := by
      rcases Nat.eq_zero_or_pos (nv (ls.drop (j + m + 1))) with h | h
      · exact h
      · exfalso
        have h1 : 65536 ^ (m + 1) * 1 ≤ 65536 ^ (m + 1) * nv (ls.drop (j + m + 1)) := Nat.mul_le_mul_left _ h
        have h2 : 65536 ^ j * 65536 ^ (m + 1) ≤ 65536 ^ j * nv (ls.drop j) := Nat.mul_le_mul_left _ (by omega)
        have h3 : 65536 ^ (j + 1) * b ≤ 65536 ^ (j + 1) * 65536 ^ m := Nat.mul_le_mul_left _ (Nat.le_of_lt hb)
        rw [← Nat.pow_add] at h2 h3
        rw [show j + 1 + m = j + (m + 1) by omega] at h3
        omega
    rw [hz, Nat.mul_zero, Nat.add_zero] at e2
    refine ⟨by rw [e1, e2], ?_, hz⟩
    have h5 : 65536 ^ j * nv ((ls.drop j).take (m + 1)) < 65536 ^ j * (65536 * b) := by
      rw [← e2]
      rw [Nat.pow_succ, Nat.mul_assoc] at hlt
      omega
    exact Nat.lt_of_mul_lt_mul_left h5
/-- One digit more of the quotient. -/
theorem digit_more {ls xs zs qs : List Nat} {j b d a : Nat} {post : List Nat} (hpre : (ls.take j).length = j) (hdl : Dg ls) (hls : nv ls = nv (ls.take j) + 65536 ^ j * nv xs) (hp : nv post = 0) (hz : nv zs = nv xs % b) (hd : d = nv xs / b) (hb : b ≠ 0)
    (hq : nv (qs.set j d) = nv qs + 65536 ^ j * d) (ha : a = nv qs * b + nv ls) :
    a = nv (qs.set j d) * b + nv (ls.take j ++ zs ++ post) ∧ nv (ls.take j ++ zs ++ post) < 65536 ^ j * b := by
  have e1 : nv (ls.take j ++ zs ++ post) = nv (ls.take j) + 65536 ^ j * (nv xs % b) := by
    rw [nv_append, nv_append, hp, hpre, hz, Nat.mul_zero, Nat.add_zero]
  have e2 := div_here (W := nv xs) (b := b) hd
  refine ⟨?_, ?_⟩
  · rw [e1, hq, ha, hls]
    generalize nv xs % b = r at *
    rw [e2]
    grind
  · rw [e1]
    have h1 : nv (ls.take j) < 65536 ^ j := by
      have := nv_lt (hdl.take j)
      rwa [hpre] at this
    have h2 := Nat.mod_lt (nv xs) (Nat.pos_of_ne_zero hb)
    have h3 : 65536 ^ j * (nv xs % b + 1) ≤ 65536 ^ j * b := Nat.mul_le_mul_left _ h2
    rw [Nat.mul_add, Nat.mul_one] at h3
    omega
theorem meas_lt (j : Nat) : ((j : Int) - 1 + 1).toNat < ((j : Int) + 1).toNat := by omega
/-- What holds at the head of Div's loop. -/
def DivI (w : World) (gl gq a b n k0 : Nat) (v8 : Value) (wr : World) : Prop :=
  ∃ (i : Nat) (qs ls : List Nat), i ≤ k0 ∧ v8 = .int .i64 ((i : Int) - 1) ∧ Row wr gq 86 (dc qs) ∧ qs.length = k0 ∧ Dg qs ∧ nv (qs.take i) = 0 ∧ Row wr gl 86 (dc ls) ∧ ls.length = n + 1 ∧ Dg ls ∧
    a = nv qs * b + nv ls ∧ nv ls < 65536 ^ i * b ∧ Below w.heap.size w wr
theorem zero_at {qs : List Nat} {j : Nat} (h : nv (qs.take (j + 1)) = 0) : nv (qs.take j) = 0 ∧ qs.getD j 0 = 0 := by
  rw [take_nv'] at h
  have h1 : nv (qs.take j) = 0 := by omega
  have h2 : 65536 ^ j * qs.getD j 0 = 0 := by omega
  have h3 := pow_posB j
  refine ⟨h1, ?_⟩
  rcases Nat.mul_eq_zero.1 h2 with h | h
  · omega
  · exact h
set_option maxHeartbeats 8000000 in
theorem div_some (A : Option Addr) (n c : Nat) (a : Nat) (B : Option Addr) (m d0 : Nat) (b : Nat) (w : World) (h1 : Digs w A n (dg a)) (h2 : Digs w B m (dg b)) (ha : a < top) (hb : b < top) (hb0 : b ≠ 0) (k0 : Nat) (hk : (m ≤ n + 1 ∧ k0 = n + 1 - m) ∨ (n + 1 < m ∧ k0 = 0)) :
    Calls Tryd.prog 34 #[.slice A n c, .slice B m d0] w fun e w' => ∃ Q R kq kr, e = .returned (.tuple #[.slice Q (dg (a / b)).length kq, .slice R (dg (a % b)).length kr, .bool true]) ∧
      Digs w' Q (dg (a / b)).length (dg (a / b)) ∧ Digs w' R (dg (a % b)).length (dg (a % b)) ∧ Below w.heap.size w w' := by
  have c1 := Lib.hid (is_yes A n c a w h1 ha)
  have c2 := Lib.hid (is_yes B m d0 b w h2 hb)
  have hn : n ≤ 256 := by have := top_len ha; have := h1.1; omega
  have hm : m ≤ 256 := by have := top_len hb; have := h2.1; omega
  have hm0 : 0 < m := by have := dg_some hb0; have := h2.1; omega
  have hbm : b < 65536 ^ m := (dg_len b m).1 (by have := h2.1; omega)
  have hstart : a < 65536 ^ k0 * b := by
    have h3 : 65536 ^ (m - 1) ≤ b := nv_dg_ge (by have := h2.1; omega)
    have h4 : a < 65536 ^ n := (dg_len a n).1 (by have := h1.1; omega)
    rcases hk with ⟨h5, h6⟩ | ⟨h5, h6⟩
    · have h7 : 65536 ^ n ≤ 65536 ^ k0 * 65536 ^ (m - 1) := by
        rw [← Nat.pow_add]
        exact Nat.pow_le_pow_right (by omega) (by omega)
      have h8 : 65536 ^ k0 * 65536 ^ (m - 1) ≤ 65536 ^ k0 * b := Nat.mul_le_mul_left _ h3
      omega
    · have h7 : 65536 ^ n ≤ 65536 ^ (m - 1) := Nat.pow_le_pow_right (by omega) (by omega)
      rw [h6, Nat.pow_zero, Nat.one_mul]
      omega
  have hk1 : k0 ≤ 257 := by omega
  have hkm : k0 = 0 ∨ k0 + m = n + 1 := by omega
  obtain ⟨N, hN⟩ : ∃ N, N = n + 1 := ⟨_, rfl⟩
  obtain ⟨L, hL⟩ : ∃ L, L = dc (List.replicate N 0) := ⟨_, rfl⟩
  obtain ⟨M, hM⟩ : ∃ M, M = dc (List.replicate k0 0) := ⟨_, rfl⟩
  have mk := make_nats N (by omega) L hL w
  have MK : Hid (∀ W : World, (Instr.makeSlice 39 (.int .i64 (k0 : Int)) (.int .i64 (k0 : Int))).run Tryd.prog W = .ok (.slice (some ⟨W.heap.size, 0, none⟩) k0 k0) (W.alloc (.cells M.toArray 86))) := fun W => make_nats k0 (by omega) M hM W
  have H1 := Lib.hid h1; have H2 := Lib.hid h2; have HL := Lib.hid hL; have HM := Lib.hid hM; have HN := Lib.hid hN; have HK := Lib.hid hk; have HKM := Lib.hid hkm; have HS := Lib.hid hstart; have HBM := Lib.hid hbm; have HB0 := Lib.hid hb0
  have hm00 : ((m : Int) == 0) = false := beq0_f (by omega)
  have hm00n : (m == 0) = false := by simp; omega
  have eN : (n : Int) + 1 = (N : Int) := by omega
  have eNn : N ≤ 257 := by omega
  have hxl : (dc (dg a)).length = Nat.min n N := by
    rw [dc_length, h1.1, hN]
    exact (Nat.min_eq_left (by omega)).symm
  have HXL := Lib.hid hxl
  have ONE := Lib.hid (dc_one (dg a))
  have hM0 := Lib.hid hm0
  have hsz := Lib.hid (show (Tryd.prog.info? 86).map (·.size) = some 1 by kernel_rfl)
  clear h1 h2 ha hb hbm hstart hb0 hk hkm hL hM hxl hN
  go_enter Tryd.func34, Tryd.ntmps34
  go_wp2_with fail
  refine c1.out.mono ?_
  rintro e v1 ⟨rfl, hw⟩; subst v1
  go_wp2_with fail
  refine c2.out.mono ?_
  rintro e v1 ⟨rfl, hw⟩; subst v1
  have R0 : Row (w.alloc (.cells L.toArray 86)) w.heap.size 86 L := Row.new w _ _
  have B0 : Below w.heap.size w (w.alloc (.cells L.toArray 86)) := (Below.refl _ _).alloc (Nat.le_refl _) _
  have HR0 := Lib.hid R0; have HB0' := Lib.hid B0
  have HPOS : Hid (0 < (dc (dg a)).length → ∃ ad, A = some ad ∧ ∀ j v, (dc (dg a))[j]? = some v → (w.alloc (.cells L.toArray 86)).cell? (ad.add j) = some v) := fun hp => by
    have hx := H1.out.1
    rw [dc_length] at hp
    obtain ⟨b1, o1, e, hb1, hc⟩ := H1.out.2.2 (by omega)
    refine ⟨_, e, fun j v hj => ?_⟩
    have hj' : j < (dg a).length := by
      have := (List.getElem?_eq_some_iff.1 hj).1
      rwa [dc_length] at this
    rw [Addr.add_lit, (B0.cell (p := ⟨b1, o1 + j, none⟩) hb1).trans (hc j (by omega))]
    rw [dc_get _ j hj'] at hj
    exact hj
  have hfit : Hid (0 + (dc (dg a)).length ≤ L.length) := show _ ≤ _ by
    rw [HL.out, dc_length, dc_length, List.length_replicate, H1.out.1]
    have := HN.out
    omega
  clear R0 B0 c1 c2
  go_wp2_with (first | (refine wpList_copy_splice rfl (.tmp 26) (.tmp 27) 39 39 rfl 86 Tryd.underlying39 hsz.out (some ⟨w.heap.size, 0, none⟩) A N N n c rfl rfl w.heap.size 0 L 86 HR0.out (dc (dg a)) HXL.out (fun h => ⟨rfl, HPOS.out h⟩) hfit.out ONE.out w.heap.size w HB0'.out (Nat.le_refl _) ?_))
  intro W1 hg1 B1
  have hsp : splice L 0 (dc (dg a)) = dc (dg a ++ [0]) := by
    have hx := H1.out.1
    rw [HL.out, dc_append]
    simp [splice, dc, hx, HN.out]
  rw [hsp] at hg1
  obtain ⟨gl, hgl⟩ : ∃ gl, gl = w.heap.size := ⟨_, rfl⟩
  rw [← hgl] at hg1 ⊢
  have RL : Row W1 gl 86 (dc (dg a ++ [0])) := hg1.out
  have HRL := Lib.hid RL; have HB1 := Lib.hid B1; have HGL := Lib.hid hgl
  have MK1 := MK.out W1
  clear hg1 B1 hsp RL hgl HR0 HB0' HPOS hfit ONE HXL HL mk MK hsz
  rcases HK.out with hcase | hcase
  · have e2 : (N : Int) - (m : Int) = (k0 : Int) := by have := HN.out; omega
    have hnn : ¬ (k0 : Int) < 0 := by omega
    clear hcase
    go_wp2_with fail
    have RQ : Row (W1.alloc (.cells M.toArray 86)) W1.heap.size 86 M := Row.new W1 _ _
    have RL : Row (W1.alloc (.cells M.toArray 86)) gl 86 (dc (dg a ++ [0])) := HRL.out.past _
    have B2 := HB1.out.alloc HB1.out.size (.cells M.toArray 86)
    have hlq : gl < W1.heap.size := HRL.out.lt
    obtain ⟨gq, hgq⟩ : ∃ gq, gq = W1.heap.size := ⟨_, rfl⟩
    rw [← hgq] at RQ hlq ⊢
    have hgq2 : w.heap.size ≤ gq := by have := HB1.out.size; omega
    have hne : gq ≠ gl := by omega
    rw [HM.out] at RQ RL B2 ⊢
    generalize W1.alloc (.cells (dc (List.replicate k0 0)).toArray 86) = W2 at *
    have HRQ := Lib.hid RQ; have HRL2 := Lib.hid RL; have HB2 := Lib.hid B2; have HGQ := Lib.hid hgq2; have HNE := Lib.hid hne
    clear RQ RL B2 hgq2 hne hlq hgq MK1 HRL HB1 e2 hnn
    go_loopw [8] (fun v wr => DivI w gl gq a b n k0 v wr) (fun v _ => (intOf v + 1).toNat)
    case atStart =>
      refine ⟨k0, List.replicate k0 0, dg a ++ [0], Nat.le_refl _, rfl, HRQ.out, List.length_replicate, Dg.noughts k0, by rw [List.take_replicate]; exact nv_noughts _, HRL2.out, by rw [List.length_append, H1.out.1]; rfl, (dg_dg a).append (Dg.one (by decide)), ?_, ?_, HB2.out⟩
      · rw [nv_noughts, nv_snoc, nv_dg]; omega
      · rw [nv_snoc, nv_dg]
        have := HS.out
        simpa using this
    case round =>
      clear HRQ HRL2 HB2
      obtain ⟨i, qs, ls, hi, rfl, R1, hql, hq, hqz, R2, hll, hl, hv, hlt, B1⟩ := hrel
      cases i with
      | zero =>
        have e0 : (((0 : Nat) : Int) - 1) = -1 := by decide
        rw [e0]
        rw [Nat.pow_zero, Nat.one_mul] at hlt
        have hquo : a / b = nv qs := by
          rw [hv, Nat.mul_comm, Nat.add_comm, Nat.add_mul_div_left _ _ (Nat.pos_of_ne_zero HB0.out), Nat.div_eq_of_lt hlt, Nat.zero_add]
        have hrem : a % b = nv ls := by
          rw [hv, Nat.mul_comm, Nat.add_comm, Nat.add_mul_mod_self_left, Nat.mod_eq_of_lt hlt]
        have cQ := Lib.hid (trimmed_any (some ⟨gq, 0, none⟩) k0 k0 qs wr (row_digs R1 hq hql) (by omega) (Nat.le_refl _) (by omega))
        have cR := Lib.hid (trimmed_any (some ⟨gl, 0, none⟩) N N ls wr (row_digs R2 hl (by rw [hll, HN.out])) (by omega) (Nat.le_refl _) (by omega))
        rw [← hquo] at cQ
        rw [← hrem] at cR
        have HB := Lib.hid B1
        clear R1 R2 hql hq hqz hll hl hv hlt B1 hquo hrem
        go_wp2_with fail
        refine cQ.out.mono ?_
        rintro e v1 ⟨rfl, hD, _, hw⟩; subst v1
        have HDQ := Lib.hid hD
        clear hD
        go_wp2_with fail
        refine cR.out.mono ?_
        rintro e v1 ⟨rfl, hD, _, hw⟩; subst v1
        have HDR := Lib.hid hD
        clear hD
        go_wp2_with fail
        go_ret3
        exact ⟨_, _, _, _, rfl, HDQ.out, HDR.out, HB.out⟩
      | succ j =>
        have e0 : (((j + 1 : Nat) : Int) - 1) = (j : Int) := by omega
        rw [e0]
        have hroom : j + m + 1 ≤ n + 1 := by have := HKM.out; omega
        obtain ⟨xs, hxs, hxl, hx, hparts, hval, hxb, hzero⟩ := window hl hll hroom HBM.out hlt
        have hpl : (ls.take j).length = j := by rw [List.length_take]; omega
        have d1 : decide ((0 : Int) ≤ (j : Int)) = true := by simp
        have j0 : (0 : Int) ≤ (j : Int) := by omega
        have jk : (j : Int) < (k0 : Int) := by omega
        obtain ⟨h, hh⟩ : ∃ h, h = j + m := ⟨_, rfl⟩
        obtain ⟨t, ht⟩ : ∃ t, t = h + 1 := ⟨_, rfl⟩
        have zh : (j : Int) + (m : Int) = (h : Int) := by omega
        have zt : (h : Int) + 1 = (t : Int) := by omega
        have jt : (j : Int) ≤ (t : Int) := by omega
        have jtn : j ≤ t := by omega
        have tN : (t : Int) ≤ (N : Int) := by have := HN.out; omega
        have tNn : t ≤ N := by have := HN.out; omega
        have jN : ¬ N = j := by have := HN.out; omega
        have hR2 := R2
        rw [hparts, dc_append, dc_append] at hR2
        obtain ⟨d, hd⟩ : ∃ d, d = nv xs / b := ⟨_, rfl⟩
        have cO := Lib.hid (once_any gl j (N - j) (dc (ls.take j)) (dc (ls.drop (j + m + 1))) xs B m d0 b wr hR2 (by rw [dc_length, hpl]) hxl hx (fun W BW => H2.out.below (B1.trans (BW.below B1.size (fun k hk e => by have := HGL.out; omega)))) (by omega) HB0.out hxb d hd (t - j) (by omega))
        have hz := zero_at hqz
        have hset := nv_set qs j d (by omega)
        rw [hz.2, Nat.mul_zero, Nat.add_zero] at hset
        have hd65 : d < 65536 := by rw [hd]; exact (Nat.div_lt_iff_lt_mul (Nat.pos_of_ne_zero HB0.out)).2 hxb
        have HMORE : Hid (∀ zs : List Nat, zs.length = m + 1 → nv zs = nv xs % b → a = nv (qs.set j d) * b + nv (ls.take j ++ zs ++ ls.drop (j + m + 1)) ∧ nv (ls.take j ++ zs ++ ls.drop (j + m + 1)) < 65536 ^ j * b) :=
          fun zs _ hzz => digit_more hpl hl hval hzero hzz hd HB0.out hset hv
        have HQ2 : Hid (nv ((qs.set j d).take j) = 0) := show _ = _ by rw [List.take_set_of_le (Nat.le_refl j)]; exact hz.1
        have HR1 := Lib.hid R1; have HB := Lib.hid B1
        have HDQ : Hid (Dg (qs.set j d)) := hq.set hd65
        have HQL : Hid ((qs.set j d).length = k0) := show _ = _ by rw [List.length_set, hql]
        have HQL0 := Lib.hid hql
        have HLD : Hid (Dg (ls.take j) ∧ Dg (ls.drop (j + m + 1))) := ⟨hl.take _, hl.drop _⟩
        have HLL : Hid (∀ zs : List Nat, zs.length = m + 1 → (ls.take j ++ zs ++ ls.drop (j + m + 1)).length = n + 1) := fun zs hzz => by
          rw [List.length_append, List.length_append, hpl, hzz, List.length_drop, hll]
          omega
        have HI : Hid (j ≤ k0) := show _ ≤ _ by omega
        clear R1 R2 hR2 B1 hxs hxl hx hparts hval hxb hzero hpl hh ht hd hz hset hd65 hql hq hqz hll hl hv hlt hroom hi e0
        go_wp2_with fail
        refine cO.out.mono ?_
        rintro e w3 ⟨rfl, zs, hzl, hz, hzv, R3, B3⟩
        have hm3 := HMORE.out zs hzl hzv
        have hl3 := HLL.out zs hzl
        have RQ := HR1.out
        have RQ3 : Row w3 gq 86 (dc qs) := (B3.block gq RQ.lt HNE.out).trans RQ
        have B4 := HB.out.trans (B3.below HB.out.size (fun k hk e => by have := HGL.out; omega))
        rw [← dc_append, ← dc_append] at R3
        have x1 : w3.cell? ⟨gq, j, none⟩ = some (.int .u16 ((qs.getD j 0 : Nat) : Int)) := (RQ3.cell j).trans (dc_get qs j (by have := HQL0.out; omega))
        have fl := RQ3.frozen j
        have RQ4 := RQ3.set j (.int .u16 (d : Int))
        rw [dc_set] at RQ4
        have RL4 := R3.other (a := ⟨gq, j, none⟩) (fun h => HNE.out h.symm) (.int .u16 (d : Int))
        have B5 := B4.setCell (p := ⟨gq, j, none⟩) HGQ.out (.int .u16 (d : Int))
        have H4 := Lib.hid RQ4; have H5 := Lib.hid RL4; have H6 := Lib.hid B5; have H7 := Lib.hid hm3; have H8 := Lib.hid hl3
        have H9 : Hid (Dg (ls.take j ++ zs ++ ls.drop (j + m + 1))) := (HLD.out.1.append hz).append HLD.out.2
        generalize qs.getD j 0 = x at x1
        clear hm3 hl3 RQ RQ3 B4 R3 RQ4 RL4 B5 B3 hzl hz hzv HR1 HB HMORE HLL zh zt jt jtn tN tNn jN cO
        go_wp2_with fail
        go_roundw
        case rel => exact ⟨j, qs.set j d, ls.take j ++ zs ++ ls.drop (j + m + 1), HI.out, ret_val (by omega), H4.out, HQL.out, HDQ.out, HQ2.out, H5.out, H8.out, H9.out, H7.out.1, H7.out.2, H6.out⟩
        case measure => exact meas_lt j
  · obtain ⟨z, hz⟩ : ∃ z : Int, z = (N : Int) - (m : Int) := ⟨_, rfl⟩
    have zneg : z < 0 := by have := HN.out; omega
    have e2 : (N : Int) - (m : Int) = z := hz.symm
    have ez : wrap64 z = z := by unfold wrap64; omega
    obtain rfl : k0 = 0 := hcase.2
    rw [show ((0 : Nat) : Int) = 0 from rfl] at MK1
    clear hcase hz
    go_wp2_with fail
    have RQ : Row (W1.alloc (.cells M.toArray 86)) W1.heap.size 86 M := Row.new W1 _ _
    have RL : Row (W1.alloc (.cells M.toArray 86)) gl 86 (dc (dg a ++ [0])) := HRL.out.past _
    have B2 := HB1.out.alloc HB1.out.size (.cells M.toArray 86)
    have hlq : gl < W1.heap.size := HRL.out.lt
    obtain ⟨gq, hgq⟩ : ∃ gq, gq = W1.heap.size := ⟨_, rfl⟩
    rw [← hgq] at RQ hlq ⊢
    have hgq2 : w.heap.size ≤ gq := by have := HB1.out.size; omega
    have hne : gq ≠ gl := by omega
    rw [HM.out] at RQ RL B2 ⊢
    generalize W1.alloc (.cells (dc (List.replicate 0 0)).toArray 86) = W2 at *
    have HRQ := Lib.hid RQ; have HRL2 := Lib.hid RL; have HB2 := Lib.hid B2; have HGQ := Lib.hid hgq2; have HNE := Lib.hid hne
    clear RQ RL B2 hgq2 hne hlq hgq MK1 HRL HB1 e2 zneg ez
    go_loopw [8] (fun v wr => DivI w gl gq a b n 0 v wr) (fun v _ => (intOf v + 1).toNat)
    case atStart =>
      refine ⟨0, List.replicate 0 0, dg a ++ [0], Nat.le_refl _, rfl, HRQ.out, List.length_replicate, Dg.noughts 0, by rw [List.take_replicate]; exact nv_noughts _, HRL2.out, by rw [List.length_append, H1.out.1]; rfl, (dg_dg a).append (Dg.one (by decide)), ?_, ?_, HB2.out⟩
      · rw [nv_noughts, nv_snoc, nv_dg]; omega
      · rw [nv_snoc, nv_dg]
        have := HS.out
        simpa using this
    case round =>
      clear HRQ HRL2 HB2
      obtain ⟨i, qs, ls, hi, rfl, R1, hql, hq, hqz, R2, hll, hl, hv, hlt, B1⟩ := hrel
      cases i with
      | zero =>
        have e0 : (((0 : Nat) : Int) - 1) = -1 := by decide
        rw [e0]
        rw [Nat.pow_zero, Nat.one_mul] at hlt
        have hquo : a / b = nv qs := by
          rw [hv, Nat.mul_comm, Nat.add_comm, Nat.add_mul_div_left _ _ (Nat.pos_of_ne_zero HB0.out), Nat.div_eq_of_lt hlt, Nat.zero_add]
        have hrem : a % b = nv ls := by
          rw [hv, Nat.mul_comm, Nat.add_comm, Nat.add_mul_mod_self_left, Nat.mod_eq_of_lt hlt]
        have cQ := Lib.hid (trimmed_any (some ⟨gq, 0, none⟩) 0 0 qs wr (row_digs R1 hq hql) (by omega) (Nat.le_refl _) (by omega))
        have cR := Lib.hid (trimmed_any (some ⟨gl, 0, none⟩) N N ls wr (row_digs R2 hl (by rw [hll, HN.out])) (by omega) (Nat.le_refl _) (by omega))
        rw [← hquo] at cQ
        rw [← hrem] at cR
        have HB := Lib.hid B1
        clear R1 R2 hql hq hqz hll hl hv hlt B1 hquo hrem
        go_wp2_with fail
        refine cQ.out.mono ?_
        rintro e v1 ⟨rfl, hD, _, hw⟩; subst v1
        have HDQ := Lib.hid hD
        clear hD
        go_wp2_with fail
        refine cR.out.mono ?_
        rintro e v1 ⟨rfl, hD, _, hw⟩; subst v1
        have HDR := Lib.hid hD
        clear hD
        go_wp2_with fail
        go_ret3
        exact ⟨_, _, _, _, rfl, HDQ.out, HDR.out, HB.out⟩
      | succ j => exact absurd hi (by omega)
theorem div_yes (A : Option Addr) (n c : Nat) (a : Nat) (B : Option Addr) (m d0 : Nat) (b : Nat) (w : World) (h1 : Digs w A n (dg a)) (h2 : Digs w B m (dg b)) (ha : a < top) (hb : b < top) (hb0 : b ≠ 0) :
    Calls Tryd.prog 34 #[.slice A n c, .slice B m d0] w fun e w' => ∃ Q R kq kr, e = .returned (.tuple #[.slice Q (dg (a / b)).length kq, .slice R (dg (a % b)).length kr, .bool true]) ∧
      Digs w' Q (dg (a / b)).length (dg (a / b)) ∧ Digs w' R (dg (a % b)).length (dg (a % b)) ∧ Below w.heap.size w w' := by
  rcases Nat.lt_or_ge (n + 1) m with h | h
  · exact div_some A n c a B m d0 b w h1 h2 ha hb hb0 0 (.inr ⟨h, rfl⟩)
  · exact div_some A n c a B m d0 b w h1 h2 ha hb hb0 _ (.inl ⟨h, rfl⟩)
set_option maxHeartbeats 1000000 in
theorem div_no (A : Option Addr) (n c : Nat) (xs : List Nat) (B : Option Addr) (m d : Nat) (ys : List Nat) (w : World) (h1 : Digs w A n xs) (h2 : Digs w B m ys) (hn : n ≤ 1000000000) (hm : m ≤ 1000000000) (hi : isN xs = false ∨ isN ys = false ∨ m = 0) :
    Calls Tryd.prog 34 #[.slice A n c, .slice B m d] w fun e w' => e = .returned (.tuple #[.slice none 0 0, .slice none 0 0, .bool false]) ∧ w' = w := by
  have c1 := Lib.hid (is_any A n c xs w h1 (by omega))
  have c2 := Lib.hid (is_any B m d ys w h2 (by omega))
  by_cases hx : isN xs = false
  · rw [hx] at c1
    clear hi hx c2
    go_enter Tryd.func34, Tryd.ntmps34
    go_wp2_with fail
    refine c1.out.mono ?_
    rintro e v1 ⟨rfl, hw⟩; subst v1
    go_wp2_with fail
    go_ret3
    exact ⟨rfl, rfl⟩
  · rw [eq_true_of_ne_false hx] at c1
    by_cases hy : isN ys = false
    · rw [hy] at c2
      clear hi hx hy
      go_enter Tryd.func34, Tryd.ntmps34
      go_wp2_with fail
      refine c1.out.mono ?_
      rintro e v1 ⟨rfl, hw⟩; subst v1
      go_wp2_with fail
      refine c2.out.mono ?_
      rintro e v1 ⟨rfl, hw⟩; subst v1
      go_wp2_with fail
      go_ret3
      exact ⟨rfl, rfl⟩
    · obtain rfl : m = 0 := by
        rcases hi with h | h | h
        · exact absurd h hx
        · exact absurd h hy
        · exact h
      rw [eq_true_of_ne_false hy] at c2
      clear hi hx hy
      go_enter Tryd.func34, Tryd.ntmps34
      go_wp2_with fail
      refine c1.out.mono ?_
      rintro e v1 ⟨rfl, hw⟩; subst v1
      go_wp2_with fail
      refine c2.out.mono ?_
      rintro e v1 ⟨rfl, hw⟩; subst v1
      go_wp2_with fail
      go_ret3
      exact ⟨rfl, rfl⟩
end Go.Proofs.YtemkllnnemadeaaDoor.G
