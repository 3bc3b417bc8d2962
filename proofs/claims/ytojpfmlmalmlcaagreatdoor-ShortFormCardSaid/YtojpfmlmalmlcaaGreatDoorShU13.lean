/-
  What short's Text does: the text of a pattern, as one predicate that has one solution. No condition but that the package-level variables hold what the statement lists.
  What short's size and Text do: the text of a pattern, as one predicate that has one solution. No condition but that the package-level variables hold what the statement lists.
-/
import Derived.Test.YtojpfmlmalmlcaaGreatDoorShD13
import Derived.Test.YtojpfmlmalmlcaaGreatDoorRefI12
import Derived.BigQuiet
import Derived.Laws.Concat
namespace Go.Proofs.YtojpfmlmalmlcaaGreatDoor
open Go.RowKit
open Go.Lib (decDigits itoa)

theorem cat13 (u v : List UInt8) (h : u.length + v.length ≤ 1000000000) (w : World) :
    (Op.stringOp .add ⟨u.toArray⟩ ⟨v.toArray⟩).run Tryz.prog w = .ok (.string ⟨(u ++ v).toArray⟩) w := by
  rw [run_string_add_sum w ⟨u.toArray⟩ ⟨v.toArray⟩ (by simp [ByteArray.size]; omega), cat_s12]
theorem cat13r (u : List UInt8) (a : Array UInt8) (v : List UInt8) (ha : a = v.toArray) (h : u.length + v.length ≤ 1000000000) (w : World) :
    (Op.stringOp .add ⟨u.toArray⟩ ⟨a⟩).run Tryz.prog w = .ok (.string ⟨(u ++ v).toArray⟩) w := by
  subst ha
  exact cat13 u v h w
theorem cat13l (a : Array UInt8) (u v : List UInt8) (ha : a = u.toArray) (h : u.length + v.length ≤ 1000000000) (w : World) :
    (Op.stringOp .add ⟨a⟩ ⟨v.toArray⟩).run Tryz.prog w = .ok (.string ⟨(u ++ v).toArray⟩) w := by
  subst ha
  exact cat13 u v h w

set_option maxHeartbeats 1000000 in
theorem cut_any13 (d : List UInt8) (n : Nat) (hn : n ≤ d.length) (hd : d.length ≤ 1000) (w : World) :
    Calls Tryz.prog 82 #[.string ⟨d.toArray⟩, .int .i64 (n : Int)] w fun e w' => e = .returned (.string ⟨(if d.length = n then d else d.take n ++ 46 :: d.drop n).toArray⟩) ∧ Below w.heap.size w w' := by
  obtain ⟨r, hr⟩ : ∃ r, r = if d.length = n then d else d.take n ++ 46 :: d.drop n := ⟨_, rfl⟩
  rw [← hr]
  have HR := Lib.hid hr
  have HB := Lib.hid (Below.refl w.heap.size w)
  by_cases h : d.length = n
  · have d1 : ((d.length : Int) == (n : Int)) = true := by simp; omega
    have d1n : (d.length == n) = true := by simp; omega
    have HE : Hid (r = d) := show _ = _ by rw [hr, if_pos h]
    clear hr
    go_enter Tryz.func82, Tryz.ntmps82
    go_wp2_with fail
    go_ret
    exact ⟨by rw [HE.out]; rfl, HB.out⟩
  · have d1 : ((d.length : Int) == (n : Int)) = false := by simp; omega
    have d1n : (d.length == n) = false := by simp; omega
    have HE : Hid (r = (d.take n ++ [46]) ++ d.drop n) := show _ = _ by rw [hr, if_neg h]; simp
    have s1 := upto_s12 d n hn
    have s2 := from_s12 d n (n : Int) rfl hn
    have l1 : (d.take n).length ≤ 1000 := by rw [List.length_take]; omega
    have l2 : (d.drop n).length ≤ 1000 := by rw [List.length_drop]; omega
    generalize d.take n = a at *
    generalize d.drop n = b at *
    have c1 := cat13r a #[46] [46] rfl (by simp; omega)
    have c2 := cat13 (a ++ [46]) b (by simp; omega)
    generalize a ++ [46] = ab at *
    clear hr h l1 l2
    go_enter Tryz.func82, Tryz.ntmps82
    go_wp2_with fail
    go_quiet (fail)
    go_wp2_with fail
    go_ret
    exact ⟨by rw [HE.out]; rfl, HB.out.trans ⟨rfl, rfl, rfl, Nat.le_refl _, fun _ _ => rfl⟩⟩

theorem wText_any (v : Int) (h0 : lowest ≤ v) (h1 : v ≤ highest) (w : World) (hL : Pows w) :
    Calls Tryz.prog 109 #[.int .i64 v] w fun e w' => e = .returned (.string ⟨(itoa v).toArray⟩) ∧ Below w.heap.size w w' := by
  have c := Lib.hid (formatInt_any v h0 h1 w hL)
  generalize itoa v = t at c ⊢
  clear h0 h1
  go_enter Tryz.func109, Tryz.ntmps109
  go_wp2_with (go_at_call 133; refine (c.out).mono ?_; rintro e w1 ⟨rfl, hb⟩)
  go_wp2_with fail
  go_ret
  exact ⟨rfl, hb⟩

set_option maxHeartbeats 1000000 in
theorem signed_any13 (x : Int) (hx : -400 ≤ x ∧ x ≤ 400) (w : World) (hL : Pows w) :
    Calls Tryz.prog 83 #[.int .i64 x] w fun e w' => e = .returned (.string ⟨(if x < 0 then itoa x else 43 :: itoa x).toArray⟩) ∧ Below w.heap.size w w' := by
  obtain ⟨r, hr⟩ : ∃ r, r = if x < 0 then itoa x else 43 :: itoa x := ⟨_, rfl⟩
  rw [← hr]
  have c := Lib.hid (wText_any x (by unfold lowest; omega) (by unfold highest; omega) w hL)
  have hl : (itoa x).length ≤ 1000 := by
    have e : ∀ u : Nat, u ≤ 400 → (decDigits u).length ≤ 3 := fun u hu => dec_short (by omega)
    unfold itoa
    split
    · have := e x.natAbs (by omega); simp only [List.length_cons]; omega
    · have := e x.toNat (by omega); omega
  generalize itoa x = t at *
  by_cases h : x < 0
  · have d1 : decide (x < 0) = true := decide_eq_true h
    have HE : Hid (r = t) := show _ = _ by rw [hr, if_pos h]
    clear hr hx hl
    go_enter Tryz.func83, Tryz.ntmps83
    go_wp2_with (go_at_call 109; refine (c.out).mono ?_; rintro e w1 ⟨rfl, hb⟩)
    go_wp2_with fail
    go_ret
    exact ⟨by rw [HE.out]; rfl, hb⟩
  · have d1 : decide (x < 0) = false := decide_eq_false h
    have HE : Hid (r = [43] ++ t) := show _ = _ by rw [hr, if_neg h]; rfl
    have c1 := cat13l #[43] [43] t rfl (by simp; omega)
    generalize [43] ++ t = y at *
    clear hr hx hl
    go_enter Tryz.func83, Tryz.ntmps83
    go_wp2_with (go_at_call 109; refine (c.out).mono ?_; rintro e w1 ⟨rfl, hb⟩)
    go_wp2_with fail
    go_ret
    exact ⟨by rw [HE.out]; rfl, hb⟩

set_option maxHeartbeats 2000000 in
theorem laid_any13 (d : List UInt8) (x : Int) (hd : d ≠ []) (hl : d.length ≤ 1000) (hx : -390 ≤ x ∧ x ≤ 390) (w : World) (hL : Pows w) :
    Calls Tryz.prog 48 #[.string ⟨d.toArray⟩, .int .i64 x] w fun e w' => e = .returned (.string ⟨(shBody d x).toArray⟩) ∧ Below w.heap.size w w' := by
  obtain ⟨r, hr⟩ : ∃ r, r = shBody d x := ⟨_, rfl⟩
  rw [← hr]
  have hl1 : 1 ≤ d.length := by have := List.length_pos_iff.2 hd; omega
  unfold shBody at hr
  have HLn := Lib.hid hL
  by_cases h1 : 21 < x ∨ x < -5
  · rw [if_neg (by omega), if_neg (by omega), if_neg (by omega)] at hr
    obtain ⟨y, hy⟩ : ∃ y : Int, y = x - 1 := ⟨_, rfl⟩
    have wy : wrap64 (x - 1) = y := by unfold wrap64; omega
    have c1 := Lib.hid (cut_any13 d 1 hl1 hl w)
    have c2 := Lib.hid fun w hL => signed_any13 y (by omega) w hL
    have e1 : (if d.length = 1 then d else d.take 1 ++ 46 :: d.drop 1) = d.take 1 ++ (if 1 < d.length then 46 :: d.drop 1 else []) := by
      by_cases h : d.length = 1
      · rw [if_pos h, if_neg (by omega), List.append_nil, List.take_of_length_le (by omega)]
      · rw [if_neg h, if_pos (by omega)]
    have e2 : (if y < 0 then itoa y else 43 :: itoa y) = if x < 1 then 45 :: decDigits (1 - x).toNat else 43 :: decDigits (x - 1).toNat := by
      unfold itoa
      by_cases h : x < 1
      · rw [if_pos (by omega), if_pos h, if_pos (by omega)]
        congr 2
        omega
      · rw [if_neg (by omega), if_neg h, if_neg (by omega), hy]
    rw [e1, show ((1 : Nat) : Int) = 1 from rfl] at c1
    rw [e2] at c2
    have l1 : (d.take 1 ++ (if 1 < d.length then 46 :: d.drop 1 else [])).length ≤ 2000 := by
      rw [← e1]
      split
      · omega
      · simp only [List.length_append, List.length_cons, List.length_take, List.length_drop]; omega
    have l2 : (if x < 1 then 45 :: decDigits (1 - x).toNat else 43 :: decDigits (x - 1).toNat).length ≤ 10 := by
      split
      · have := dec_short (u := (1 - x).toNat) (by omega); simp only [List.length_cons]; omega
      · have := dec_short (u := (x - 1).toNat) (by omega); simp only [List.length_cons]; omega
    have HE : Hid (r = ((d.take 1 ++ (if 1 < d.length then 46 :: d.drop 1 else [])) ++ [101]) ++ (if x < 1 then 45 :: decDigits (1 - x).toNat else 43 :: decDigits (x - 1).toNat)) := show _ = _ by
      rw [hr]; simp [List.append_assoc]
    clear hr e1 e2
    generalize d.take 1 ++ (if 1 < d.length then 46 :: d.drop 1 else []) = a at *
    generalize (if x < 1 then 45 :: decDigits (1 - x).toNat else 43 :: decDigits (x - 1).toNat) = b at *
    have k1 := cat13r a #[101] [101] rfl (by simp; omega)
    have k2 := cat13 (a ++ [101]) b (by simp; omega)
    generalize a ++ [101] = ab at *
    have hx1 : decide (21 < x) = true ∨ (decide (21 < x) = false ∧ decide (x < -5) = true) := by
      by_cases h : 21 < x
      · exact .inl (decide_eq_true h)
      · exact .inr ⟨decide_eq_false h, decide_eq_true (by omega)⟩
    clear h1 hx hl hl1 hd hL l1 l2 hy
    rcases hx1 with b1 | ⟨b1, b2⟩
    all_goals
      go_enter Tryz.func48, Tryz.ntmps48
      go_wp2_with fail
      refine c1.out.mono ?_
      rintro e w1 ⟨rfl, B1⟩
      have c3 := Lib.hid (c2.out w1 (HLn.out.after B1))
      have HB1 := Lib.hid B1
      clear B1
      go_wp2_with fail
      refine c3.out.mono ?_
      rintro e w2 ⟨rfl, B2⟩
      have HB2 := Lib.hid (HB1.out.trans (B2.mono HB1.out.size))
      clear B2
      go_wp2_with fail
      go_ret
      exact ⟨by rw [HE.out]; rfl, HB2.out⟩
  · have b1 : decide (21 < x) = false := decide_eq_false (by omega)
    have b2 : decide (x < -5) = false := decide_eq_false (by omega)
    by_cases h2 : x ≤ 0
    · rw [if_neg (by omega), if_neg (by omega), if_pos (by omega)] at hr
      have b3 : decide (x ≤ 0) = true := decide_eq_true h2
      obtain ⟨n, hn⟩ : ∃ n : Nat, (n : Int) = -x := ⟨(-x).toNat, by omega⟩
      have wn : wrap64 (-x) = (n : Int) := by unfold wrap64; omega
      have c1 := Lib.hid (repeat_any n (by omega) w)
      rw [show (-x).toNat = n by omega] at hr
      have l1 : (List.replicate n (48 : UInt8)).length ≤ 1000 := by rw [List.length_replicate]; omega
      have HE : Hid (r = ([48, 46] ++ List.replicate n 48) ++ d) := show _ = _ by rw [hr]; simp
      clear hr
      generalize List.replicate n (48 : UInt8) = a at *
      have k1 := cat13l #[48, 46] [48, 46] a rfl (by simp; omega)
      have k2 := cat13 ([48, 46] ++ a) d (by simp; omega)
      generalize [48, 46] ++ a = ab at *
      clear h1 hx hl hl1 hd hL l1 h2 hn
      go_enter Tryz.func48, Tryz.ntmps48
      go_wp2_with fail
      refine c1.out.mono ?_
      rintro e w1 ⟨rfl, B1⟩
      have HB1 := Lib.hid B1
      clear B1
      go_wp2_with fail
      go_ret
      exact ⟨by rw [HE.out]; rfl, HB1.out⟩
    · have b3 : decide (x ≤ 0) = false := decide_eq_false h2
      by_cases h3 : (d.length : Int) ≤ x
      · rw [if_pos (by omega)] at hr
        have b4 : decide ((d.length : Int) ≤ x) = true := decide_eq_true h3
        obtain ⟨n, hn⟩ : ∃ n : Nat, (n : Int) = x - (d.length : Int) := ⟨(x - (d.length : Int)).toNat, by omega⟩
        have wn : wrap64 (x - (d.length : Int)) = (n : Int) := by unfold wrap64; omega
        have c1 := Lib.hid (repeat_any n (by omega) w)
        rw [show x.toNat - d.length = n by omega] at hr
        have l1 : (List.replicate n (48 : UInt8)).length ≤ 1000 := by rw [List.length_replicate]; omega
        generalize List.replicate n (48 : UInt8) = a at *
        have k2 := cat13 d a (by omega)
        have HE := Lib.hid hr
        clear hr h1 hx hl hl1 hd hL l1 h2 hn
        go_enter Tryz.func48, Tryz.ntmps48
        go_wp2_with fail
        refine c1.out.mono ?_
        rintro e w1 ⟨rfl, B1⟩
        have HB1 := Lib.hid B1
        clear B1
        go_wp2_with fail
        go_ret
        exact ⟨by rw [HE.out]; rfl, HB1.out⟩
      · rw [if_neg (by omega), if_pos (by omega)] at hr
        have b4 : decide ((d.length : Int) ≤ x) = false := decide_eq_false h3
        obtain ⟨n, hn⟩ : ∃ n : Nat, (n : Int) = x := ⟨x.toNat, by omega⟩
        have c1 := Lib.hid (cut_any13 d n (by omega) hl w)
        rw [if_neg (by omega), hn] at c1
        rw [show x.toNat = n by omega] at hr
        generalize d.take n ++ 46 :: d.drop n = a at *
        have HE := Lib.hid hr
        clear hr h1 hx hl hl1 hd hL h2 hn
        go_enter Tryz.func48, Tryz.ntmps48
        go_wp2_with fail
        refine c1.out.mono ?_
        rintro e w1 ⟨rfl, B1⟩
        have HB1 := Lib.hid B1
        clear B1
        go_wp2_with fail
        go_ret
        exact ⟨by rw [HE.out]; rfl, HB1.out⟩
end Go.Proofs.YtojpfmlmalmlcaaGreatDoor

namespace Go.Proofs.YtojpfmlmalmlcaaGreatDoor
open Go.RowKit
open Go.Lib (decDigits itoa)

/-- The text without its sign. -/
def SizeAns (r : Nat) (t : List UInt8) : Prop :=
  (kOf r = 3 ∧ t = txInf) ∨ (kOf r = 1 ∧ t = [48]) ∨ (kOf r = 2 ∧ ∃ d x, ShAns r d x ∧ t = shBody d x)
theorem size_len {r : Nat} {t : List UInt8} (h : SizeAns r t) : t.length ≤ 100 := by
  rcases h with ⟨_, rfl⟩ | ⟨_, rfl⟩ | ⟨hk, d, x, h, rfl⟩
  · decide
  · decide
  · obtain ⟨r0, rm⟩ := k_two hk
    have := body_len (x := x) h.1 (sh_len r0 rm h).1 (by have := sh_exp r0 rm h; omega)
    omega

set_option maxHeartbeats 2000000 in
theorem size_any13 (s : Bool) (r : Nat) (hr : r < 9223372036854775808) (hk : kOf r ≠ 4) (w : World) (hL : L13 w) :
    Calls Tryz.prog 27 #[.int .i64 (kOf r), .int .u64 ((pat s r : Nat) : Int)] w fun e w' => (∃ t, e = .returned (.string ⟨t.toArray⟩) ∧ SizeAns r t) ∧ Below w.heap.size w w' := by
  have HB := Lib.hid (Below.refl w.heap.size w)
  rcases k_of (r := r) with ⟨_, h⟩ | h | ⟨_, h⟩ | ⟨_, h⟩
  · have HK := Lib.hid h
    rw [h]
    clear hr hL hk h
    go_enter Tryz.func27, Tryz.ntmps27
    go_wp2_with fail
    go_ret
    exact ⟨⟨[48], rfl, .inr (.inl ⟨HK.out, rfl⟩)⟩, HB.out⟩
  · have cD := Lib.hid (digits_any s r hr w hL)
    have HK := Lib.hid h
    have HL := Lib.hid hL
    rw [h]
    clear hr hL hk h
    go_enter Tryz.func27, Tryz.ntmps27
    go_wp2_with fail
    refine cD.out.mono ?_
    rintro e w1 ⟨⟨d, x, ok, rfl, hd⟩, B1⟩
    rcases hd with ⟨h0, _⟩ | ⟨_, hs, rfl⟩
    · exact absurd HK.out h0
    obtain ⟨r0, rm⟩ := k_two HK.out
    have e1 := sh_exp r0 rm hs
    have e2 := (sh_len r0 rm hs).1
    have cL := Lib.hid (laid_any13 d x hs.1.any (by omega) (by omega) w1 (HL.out.after B1).pows)
    have HS := Lib.hid hs
    have HB1 := Lib.hid B1
    clear B1 cD hs e1 e2 r0 rm
    go_wp2_with fail
    refine cL.out.mono ?_
    rintro e w2 ⟨rfl, B2⟩
    have HB2 := Lib.hid (HB1.out.trans (B2.mono HB1.out.size))
    clear B2
    go_wp2_with fail
    go_ret
    exact ⟨⟨_, rfl, .inr (.inr ⟨HK.out, d, x, HS.out, rfl⟩)⟩, HB2.out⟩
  · have HK := Lib.hid h
    rw [h]
    clear hr hL hk h
    go_enter Tryz.func27, Tryz.ntmps27
    go_wp2_with fail
    go_ret
    exact ⟨⟨txInf, rfl, .inl ⟨HK.out, rfl⟩⟩, HB.out⟩
  · exact absurd h hk

theorem text_of {s : Bool} {r : Nat} {t : List UInt8} (h : SizeAns r t) : TextAns s r (shSign s t) := by
  rcases h with ⟨h, rfl⟩ | ⟨h, rfl⟩ | ⟨h, d, x, k, rfl⟩
  · exact .inr (.inl ⟨h, rfl⟩)
  · exact .inr (.inr (.inl ⟨h, rfl⟩))
  · exact .inr (.inr (.inr ⟨h, d, x, k, rfl⟩))

set_option maxHeartbeats 2000000 in
theorem text_any13 (s : Bool) (r : Nat) (hr : r < 9223372036854775808) (w : World) (hL : L13 w) :
    Calls Tryz.prog 11 #[.int .u64 ((pat s r : Nat) : Int)] w fun e w' => (∃ t, e = .returned (.string ⟨t.toArray⟩) ∧ TextAns s r t) ∧ Below w.heap.size w w' := by
  have HB := Lib.hid (Below.refl w.heap.size w)
  have cS := Lib.hid (split_any s r hr w)
  by_cases hk : kOf r = 4
  · have HK := Lib.hid hk
    rw [hk] at cS
    clear hr hL hk
    go_enter Tryz.func11, Tryz.ntmps11
    go_wp2_with fail
    refine cS.out.mono ?_
    rintro x w5 ⟨rfl, hw5⟩; subst w5
    go_wp2_with fail
    go_ret
    exact ⟨⟨txNaN, rfl, .inl ⟨HK.out, rfl⟩⟩, HB.out⟩
  · have cZ := Lib.hid (size_any13 s r hr hk w hL)
    have d1 : (kOf r == 4) = false := by simpa using hk
    obtain ⟨v, hv⟩ : ∃ v : Int, v = kOf r := ⟨_, rfl⟩
    rw [← hv] at cS cZ d1
    clear hr hL hk hv
    cases s with
    | false =>
      go_enter Tryz.func11, Tryz.ntmps11
      go_wp2_with fail
      refine cS.out.mono ?_
      rintro x w5 ⟨rfl, hw5⟩; subst w5
      go_wp2_with fail
      refine cZ.out.mono ?_
      rintro x w1 ⟨⟨t, rfl, ht⟩, B1⟩
      have HT := Lib.hid (text_of (s := false) ht)
      have HB1 := Lib.hid B1
      clear B1 ht
      go_wp2_with fail
      go_ret
      exact ⟨⟨t, rfl, HT.out⟩, HB1.out⟩
    | true =>
      go_enter Tryz.func11, Tryz.ntmps11
      go_wp2_with fail
      refine cS.out.mono ?_
      rintro x w5 ⟨rfl, hw5⟩; subst w5
      go_wp2_with fail
      refine cZ.out.mono ?_
      rintro x w1 ⟨⟨t, rfl, ht⟩, B1⟩
      have c1 := cat13l #[45] [45] t rfl (by have := size_len ht; simp; omega)
      have HT : Hid (TextAns true r ([45] ++ t)) := show TextAns _ _ _ from text_of (s := true) ht
      generalize [45] ++ t = u at *
      have HB1 := Lib.hid B1
      clear B1 ht
      go_wp2_with fail
      go_ret
      exact ⟨⟨u, rfl, HT.out⟩, HB1.out⟩
end Go.Proofs.YtojpfmlmalmlcaaGreatDoor
