/-
  What the document's literal does (chapter 15); no condition but the text's length.
-/
import Derived.Test.YtkkoefiennccoaaGreatDoorRefN15
import Derived.Test.YtkkoefiennccoaaGreatDoorDecitRead
namespace Go.Proofs.YtkkoefiennccoaaGreatDoor
set_option maxRecDepth 100000
open Go.RowKit
open Go.Lib (decDigits itoa)

def sgnB : List UInt8 → Bool
  | [] => false
  | c :: _ => decide (c = 43 ∨ c = 45)
/-- What the tests at a text's front see. -/
theorem front15 (x : List UInt8) : (x = [] ∧ minus x = false ∧ sgnB x = false) ∨
    (decide (0 < (x.length : Int)) = true ∧ decide (0 < x.length) = true ∧ ∃ c : UInt8, (∀ w : World, (Instr.index 9 (.string ⟨x.toArray⟩) (.int .i64 0)).run Tryz.prog w = .ok (.int .u8 (c.toNat : Int)) w) ∧
      ((((c.toNat : Int) == 45) = true ∧ minus x = true ∧ sgnB x = true) ∨ (((c.toNat : Int) == 45) = false ∧ ((c.toNat : Int) == 43) = true ∧ minus x = false ∧ sgnB x = true) ∨
       (((c.toNat : Int) == 45) = false ∧ ((c.toNat : Int) == 43) = false ∧ minus x = false ∧ sgnB x = false))) := by
  cases x with
  | nil => exact .inl ⟨rfl, rfl, rfl⟩
  | cons c t =>
    obtain ⟨h1, h1n, h3, _, _, _⟩ := head_facts c t
    refine .inr ⟨h1, h1n, c, h3, ?_⟩
    have e43 : (43 : UInt8).toNat = 43 := rfl
    have e45 : (45 : UInt8).toNat = 45 := rfl
    by_cases h45 : c = 45
    · exact .inl ⟨by rw [h45]; rfl, decide_eq_true h45, decide_eq_true (.inr h45)⟩
    · have n45 := byte_ne h45
      by_cases h43 : c = 43
      · exact .inr (.inl ⟨beq_eq_false_iff_ne.2 (by omega), by rw [h43]; rfl, decide_eq_false h45, decide_eq_true (.inl h43)⟩)
      · have n43 := byte_ne h43
        exact .inr (.inr ⟨beq_eq_false_iff_ne.2 (by omega), beq_eq_false_iff_ne.2 (by omega), decide_eq_false h45, decide_eq_false (by rintro (e | e); exact h43 e; exact h45 e)⟩)
theorem sgn_yes {x : List UInt8} (h : sgnB x = true) (w : World) : (Instr.slice 9 (.string ⟨x.toArray⟩) (some (.int .i64 1)) none none).run Tryz.prog w = .ok (.string ⟨(unsign x).toArray⟩) w := by
  cases x with
  | nil => cases h
  | cons c t =>
    rw [show unsign (c :: t) = t from if_pos (of_decide_eq_true h)]
    exact (head_facts c t).2.2.2.1 w
theorem sgn_no {x : List UInt8} (h : sgnB x = false) : unsign x = x := by
  cases x with
  | nil => rfl
  | cons c t => exact if_neg (of_decide_eq_false h)
/-- What the test for a point sees. -/
def dotB : List UInt8 → Bool
  | [] => false
  | c :: _ => decide (c = 46)
theorem dot15 (x : List UInt8) : (x = [] ∧ dotB x = false) ∨
    (decide (0 < (x.length : Int)) = true ∧ decide (0 < x.length) = true ∧ ∃ c : UInt8, (∀ w : World, (Instr.index 9 (.string ⟨x.toArray⟩) (.int .i64 0)).run Tryz.prog w = .ok (.int .u8 (c.toNat : Int)) w) ∧ ((c.toNat : Int) == 46) = dotB x) := by
  cases x with
  | nil => exact .inl ⟨rfl, rfl⟩
  | cons c t =>
    obtain ⟨h1, h1n, h3, _, _, _⟩ := head_facts c t
    refine .inr ⟨h1, h1n, c, h3, ?_⟩
    have e46 : (46 : UInt8).toNat = 46 := rfl
    by_cases h : c = 46
    · rw [show dotB (c :: t) = true from decide_eq_true h, h]; rfl
    · have n := byte_ne h
      rw [show dotB (c :: t) = false from decide_eq_false h]
      exact beq_eq_false_iff_ne.2 (by omega)
theorem dot_yes {x : List UInt8} (h : dotB x = true) : ∃ t, x = 46 :: t := by
  cases x with
  | nil => cases h
  | cons c t => exact ⟨t, by rw [of_decide_eq_true h]⟩
theorem dot_no {x : List UInt8} (h : dotB x = false) : frac x = [] ∧ past x = x := by
  cases x with
  | nil => exact ⟨rfl, rfl⟩
  | cons c t =>
    have h1 := of_decide_eq_false h
    exact ⟨if_neg h1, if_neg h1⟩
def expB : List UInt8 → Bool
  | [] => false
  | c :: _ => isE c
theorem exp15 (x : List UInt8) : (x = [] ∧ expB x = false) ∨
    (decide (0 < (x.length : Int)) = true ∧ decide (0 < x.length) = true ∧ ∃ c : UInt8, (∀ w : World, (Instr.index 9 (.string ⟨x.toArray⟩) (.int .i64 0)).run Tryz.prog w = .ok (.int .u8 (c.toNat : Int)) w) ∧
      ((((c.toNat : Int) == 101) = true ∧ expB x = true) ∨ (((c.toNat : Int) == 101) = false ∧ ((c.toNat : Int) == 69) = expB x))) := by
  cases x with
  | nil => exact .inl ⟨rfl, rfl⟩
  | cons c t =>
    obtain ⟨h1, h1n, h3, _, _, _⟩ := head_facts c t
    refine .inr ⟨h1, h1n, c, h3, ?_⟩
    show _ ∨ (_ ∧ _ = isE c)
    cases he : isE c with
    | true =>
      rcases isE_cases he with h | ⟨h, h'⟩
      · exact .inl ⟨h, he⟩
      · exact .inr ⟨h, h'⟩
    | false => exact .inr (isE_not he)

/-- The exponent that a text's digits tell, held within 100000. -/
def ew (l : List UInt8) : Nat := min (dv 0 l) 100000
theorem ew_step {y : List UInt8} {k : Nat} (h : k < y.length) : ew (y.take (k + 1)) = min (ew (y.take k) * 10 + ((y.getD k 0).toNat - 48)) 100000 := by
  unfold ew
  rw [show y.take (k + 1) = y.take k ++ [y.getD k 0] by rw [List.take_add_one]; simp [List.getD, h], dv_append, dv_cons, dv_nil]
  omega

theorem frac_drop {t : List UInt8} : frac (46 :: t) = t.take (run t) ∧ past (46 :: t) = t.drop (run t) :=
  ⟨show (if (46 : UInt8) = 46 then t.takeWhile isD else []) = _ by rw [if_pos rfl, while_run], show (if (46 : UInt8) = 46 then t.drop (run t) else 46 :: t) = _ by rw [if_pos rfl]⟩

theorem results_tmp4 {fn : Func} {t u v x : Tmp} (h : fn.results = #[.tmp t, .tmp u, .tmp v, .tmp x]) (tmps : Array Value) (P : Program) (w : World) :
    (results fn tmps).run P w = .ok (.tuple #[tmps.getD t undef, tmps.getD u undef, tmps.getD v undef, tmps.getD x undef]) w := by
  simp [results, h]
/-- What literal gives back. -/
def litV (s : List UInt8) (v : Value) : Prop :=
  ∃ (c : List UInt8) (q : Int) (n ok : Bool), v = .tuple #[.string ⟨c.toArray⟩, .int .i64 q, .bool n, .bool ok] ∧
    match litU (unsign s) with
    | none => ok = false
    | some (c0, E, b) => ok = true ∧ c = c0 ∧ n = minus s ∧ q = max (-100000) (min E 100000) - (b : Nat)

set_option maxHeartbeats 8000000 in
theorem literal_core (s u o r f p t y z : List UInt8) (w : World) (hs : s.length ≤ 1000) (hu : unsign s = u) (ho : u.take (run u) = o) (hr : u.drop (run u) = r) (hf : frac r = f) (hp : past r = p) (ht : p.drop 1 = t) (hy : unsign t = y) (hz : y.drop (run y) = z) (HYD : Hid (∀ k, k < run y → isD (y.getD k 0) = true)) (Q : Value → Prop)
    (hQ1 : Hid (o ++ f = [] → Q (.tuple #[.string ⟨#[]⟩, .int .i64 0, .bool false, .bool false])))
    (hQ2 : Hid (o ++ f ≠ [] → expB p = false → Q (.tuple #[.string ⟨(o ++ f).toArray⟩, .int .i64 (0 - (f.length : Int)), .bool (minus s), .bool p.isEmpty])))
    (hQ3 : Hid (o ++ f ≠ [] → expB p = true → run y = 0 → Q (.tuple #[.string ⟨#[]⟩, .int .i64 0, .bool false, .bool false])))
    (hQ4 : Hid (o ++ f ≠ [] → expB p = true → run y ≠ 0 → Q (.tuple #[.string ⟨(o ++ f).toArray⟩, .int .i64 ((if minus t = true then -((ew (y.take (run y)) : Nat) : Int) else ((ew (y.take (run y)) : Nat) : Int)) - (f.length : Int)), .bool (minus s), .bool z.isEmpty]))) :
    Calls Tryz.prog 24 #[.string ⟨s.toArray⟩] w fun e w' => (∃ v, e = .returned v ∧ Q v) ∧ w' = w := by
  have HS := Lib.hid hs
  have hul : u.length ≤ 1000 := by rw [← hu]; exact Nat.le_trans (unsign_le s) hs
  have hrl : r.length ≤ 1000 := by rw [← hr, List.length_drop]; omega
  have hol : o.length ≤ 1000 := by rw [← ho, List.length_take]; omega
  have HUL := Lib.hid hul; have HRL := Lib.hid hrl; have HOL := Lib.hid hol
  clear hs hul hrl hol
  go_enter Tryz.func24, Tryz.ntmps24
  go_upto_region 1 with fail
  go_cut [6] (fun v6 wx => v6 = .bool (minus s) ∧ wx = w)
  case first =>
    rcases front15 s with ⟨h1, h2, h3⟩ | ⟨d1, d1n, c, x1, h⟩
    · subst h1
      go_wp2_with fail
      go_meet
      exact ⟨rfl, rfl⟩
    · rcases h with ⟨c1, h2, h3⟩ | ⟨c1, c2, h2, h3⟩ | ⟨c1, c2, h2, h3⟩
      all_goals (
        have H2 := Lib.hid h2
        clear h2 h3
        go_wp2_with fail
        go_meet
        exact ⟨by rw [H2.out], rfl⟩)
  case rest =>
    obtain ⟨rfl, rfl⟩ := hcut
    go_upto_region 2 with fail
    go_cut [33] (fun v33 wx => v33 = .bool (sgnB s) ∧ wx = wc)
    case first =>
      rcases front15 s with ⟨h1, h2, h3⟩ | ⟨d1, d1n, c, x1, h⟩
      · subst h1
        go_wp2_with fail
        go_meet
        exact ⟨rfl, rfl⟩
      · rcases h with ⟨c1, h2, h3⟩ | ⟨c1, c2, h2, h3⟩ | ⟨c1, c2, h2, h3⟩
        all_goals (
          have H2 := Lib.hid h3
          clear h2 h3
          go_wp2_with fail
          go_meet
          exact ⟨by rw [H2.out], rfl⟩)
    case rest =>
      obtain ⟨rfl, rfl⟩ := hcut
      have hS1 := fun h => sgn_yes (x := s) h
      have HS2 : Hid (sgnB s = false → s = u) := fun h => (sgn_no h).symm.trans hu
      rw [hu] at hS1
      have HS1 := Lib.hid hS1
      have HU := Lib.hid hu
      clear hS1 hu
      generalize sgnB s = sb at *
      generalize minus s = mn at *
      go_upto_if 33 with fail
      go_cut [0] (fun v0 wx => v0 = .string ⟨u.toArray⟩ ∧ wx = wc)
      case first =>
        cases sb
        · have h := Lib.hid (HS2.out rfl)
          go_wp2_with fail
          go_meet
          exact ⟨by rw [h.out], rfl⟩
        · have h := HS1.out rfl
          go_wp2_with fail
          go_meet
          exact ⟨rfl, rfl⟩
      case rest =>
        obtain ⟨rfl, rfl⟩ := hcut
        clear HS1 HS2 HU
        have cR := Lib.hid fun w => run15_any u (by have := HUL.out; omega) w
        have hru := run_le u
        have s1 := upto15 u (run u) (run u) rfl hru
        have s2 := slice_from u (run u) (run u) rfl hru
        rw [ho] at s1
        rw [hr] at s2
        clear ho hr hru
        generalize run u = n at *
        go_wp2_with fail
        refine (cR.out _).mono ?_
        rintro e w5 ⟨rfl, hw⟩; subst w5
        clear cR
        go_upto_region 8 with fail
        clear s1 s2
        go_cut [51] (fun v51 wx => v51 = .bool (dotB r) ∧ wx = wc)
        case first =>
          rcases dot15 r with ⟨h1, h2⟩ | ⟨d1, d1n, c, x1, h⟩
          · subst h1
            go_wp2_with fail
            go_meet
            exact ⟨rfl, rfl⟩
          · generalize dotB r = db at *
            go_wp2_with fail
            go_meet
            exact ⟨rfl, rfl⟩
        case rest =>
          obtain ⟨rfl, rfl⟩ := hcut
          have HFL : Hid (f.length ≤ 1000) := show _ ≤ _ by
            cases h : dotB r with
            | false => rw [← hf, (dot_no h).1]; simp
            | true =>
              obtain ⟨v, rfl⟩ := dot_yes h
              have := HRL.out
              rw [List.length_cons] at this
              rw [← hf, frac_drop.1, List.length_take]; omega
          have HPL : Hid (p.length ≤ 1000) := show _ ≤ _ by
            have h2 := HRL.out
            cases h : dotB r with
            | false => rw [← hp, (dot_no h).2]; exact h2
            | true =>
              obtain ⟨v, rfl⟩ := dot_yes h
              rw [List.length_cons] at h2
              rw [← hp, frac_drop.2, List.length_drop]; omega
          go_upto_if 51 with fail
          go_cut [0, 8, 9] (fun v0 v8 v9 wx => v0 = .string ⟨p.toArray⟩ ∧ v8 = .string ⟨(o ++ f).toArray⟩ ∧ v9 = .int .i64 (f.length : Int) ∧ wx = wc)
          case first =>
            cases hd : dotB r with
            | false =>
              obtain ⟨g1, g2⟩ := dot_no hd
              have H1 : Hid ((.string ⟨r.toArray⟩ : Value) = .string ⟨p.toArray⟩) := show _ = _ by rw [← g2, hp]
              have H2 : Hid ((.string ⟨o.toArray⟩ : Value) = .string ⟨(o ++ f).toArray⟩) := show _ = _ by rw [← hf, g1, List.append_nil]
              have H3 : Hid ((.int .i64 0 : Value) = .int .i64 (f.length : Int)) := show _ = _ by rw [← hf, g1]; rfl
              clear g1 g2 hd hf hp
              go_wp2_with fail
              go_meet
              exact ⟨H1.out, H2.out, H3.out, rfl⟩
            | true =>
              obtain ⟨v, rfl⟩ := dot_yes hd
              have hvl : v.length ≤ 1000 := by have := HRL.out; rw [List.length_cons] at this; omega
              have hrv := run_le v
              have cR := Lib.hid fun w => run15_any v (by omega) w
              have s0 := (head_facts 46 v).2.2.2.1
              have s1 := part15 (46 :: v) 1 (run v + 1) 1 (1 + (run v : Int)) rfl (by omega) (by omega) (by rw [List.length_cons]; omega)
              have s2 := slice_from (46 :: v) (run v + 1) (1 + (run v : Int)) (by omega) (by rw [List.length_cons]; omega)
              rw [show ((46 :: v).drop 1).take (run v + 1 - 1) = f by rw [← hf, frac_drop.1]; rfl] at s1
              rw [show (46 :: v).drop (run v + 1) = p by rw [← hp, frac_drop.2]; rfl] at s2
              have hfl : f.length = run v := by rw [← hf, frac_drop.1, List.length_take]; omega
              have k1 := dcat_is (a := o.toArray) (b := f.toArray) (t := o ++ f) rfl rfl rfl (by have := HOL.out; have := HFL.out; omega)
              have e1 : wrap64 (1 + (run v : Int)) = 1 + (run v : Int) := by unfold wrap64; omega
              have H3 : Hid ((.int .i64 (run v : Int) : Value) = .int .i64 (f.length : Int)) := show _ = _ by rw [hfl]
              have b1 : decide (1 ≤ 1 + (run v : Int)) = true := decide_eq_true (by omega)
              generalize o ++ f = C at *
              generalize run v = nv at *
              generalize 46 :: v = r1 at *
              clear hd hf hp hvl hrv hfl
              go_wp2_with fail
              refine (cR.out _).mono ?_
              rintro e w5 ⟨rfl, hw⟩; subst w5
              clear cR
              go_wp2_with fail
              go_meet
              exact ⟨rfl, rfl, H3.out, rfl⟩
          case rest =>
            obtain ⟨rfl, rfl, rfl, rfl⟩ := hcut
            clear hf hp
            have HCL : Hid ((o ++ f).length ≤ 2000) := show _ ≤ _ by rw [List.length_append]; have := HOL.out; have := HFL.out; omega
            generalize o ++ f = C at *
            have HFI : Hid (wrap64 (0 - (f.length : Int)) = 0 - (f.length : Int)) := show _ = _ by have := HFL.out; unfold wrap64; omega
            by_cases hC : C = []
            · have HQ := Lib.hid (hQ1.out hC)
              subst hC
              clear hQ1 hQ2 hQ3 hQ4
              go_wp2_with fail
              (try simp only [Exit.inBlock, Exit.then])
              refine bodyPost_ret (results_tmp4 rfl _ _ _) rfl ?_
              exact ⟨⟨_, rfl, HQ.out⟩, rfl⟩
            · have i1 : C.isEmpty = false := by simpa using hC
              go_upto_region 15 with fail
              have HNC := Lib.hid hC
              clear i1 hC hQ1
              go_cut [79] (fun v79 wx => v79 = .bool (expB p) ∧ wx = wc)
              case first =>
                rcases exp15 p with ⟨h1, h2⟩ | ⟨d1, d1n, c, x1, ⟨c1, h2⟩ | ⟨c1, h2⟩⟩
                · subst h1
                  go_wp2_with fail
                  go_meet
                  exact ⟨rfl, rfl⟩
                · have H2 := Lib.hid h2
                  clear h2
                  go_wp2_with fail
                  go_meet
                  exact ⟨by rw [H2.out], rfl⟩
                · generalize expB p = eb at *
                  go_wp2_with fail
                  go_meet
                  exact ⟨rfl, rfl⟩
              case rest =>
                obtain ⟨rfl, rfl⟩ := hcut
                cases he : expB p with
                | false =>
                  obtain ⟨zf, hzf⟩ : ∃ zf, zf = 0 - (f.length : Int) := ⟨_, rfl⟩
                  have hq := hQ2.out HNC.out he
                  rw [← hzf] at hq
                  have HQ := Lib.hid hq
                  have e1 : wrap64 (0 - (f.length : Int)) = zf := by rw [hzf]; exact HFI.out
                  have e1' : wrap64 (-(f.length : Int)) = zf := by rw [← e1]; congr 1; omega
                  clear hQ2 hQ3 hQ4 he hq hzf
                  go_wp2_with fail
                  (try simp only [Exit.inBlock, Exit.then])
                  refine bodyPost_ret (results_tmp4 rfl _ _ _) rfl ?_
                  refine ⟨⟨_, rfl, ?_⟩, rfl⟩
                  first
                    | exact HQ.out
                    | (show Q (.tuple #[.string ⟨C.toArray⟩, .int .i64 (wrap64 (0 - (f.length : Int))), .bool mn, .bool p.isEmpty]); rw [e1]; exact HQ.out)
                    | (show Q (.tuple #[.string ⟨C.toArray⟩, .int .i64 (wrap64 (-(f.length : Int))), .bool mn, .bool p.isEmpty]); rw [e1']; exact HQ.out)
                | true =>
                  have HQ3 := Lib.hid (hQ3.out HNC.out he)
                  have HQ4 := Lib.hid (hQ4.out HNC.out he)
                  have htl : t.length ≤ 1000 := by have := HPL.out; rw [← ht, List.length_drop]; omega
                  have hyl : y.length ≤ 1000 := by rw [← hy]; exact Nat.le_trans (unsign_le t) htl
                  have s0 := slice_from p 1 1 rfl (by cases p with | nil => cases he | cons c l => simp)
                  rw [ht] at s0
                  have HYL := Lib.hid hyl
                  clear hQ2 hQ3 hQ4 he ht htl hyl
                  go_upto_region 17 with fail
                  clear s0
                  go_cut [11] (fun v11 wx => v11 = .bool (minus t) ∧ wx = wc)
                  case first =>
                    rcases front15 t with ⟨h1, h2, h3⟩ | ⟨d1, d1n, c, x1, h⟩
                    · subst h1
                      go_wp2_with fail
                      go_meet
                      exact ⟨rfl, rfl⟩
                    · rcases h with ⟨c1, h2, h3⟩ | ⟨c1, c2, h2, h3⟩ | ⟨c1, c2, h2, h3⟩
                      all_goals (
                        have H2 := Lib.hid h2
                        clear h2 h3
                        go_wp2_with fail
                        go_meet
                        exact ⟨by rw [H2.out], rfl⟩)
                  case rest =>
                    obtain ⟨rfl, rfl⟩ := hcut
                    go_upto_region 18 with fail
                    go_cut [102] (fun v102 wx => v102 = .bool (sgnB t) ∧ wx = wc)
                    case first =>
                      rcases front15 t with ⟨h1, h2, h3⟩ | ⟨d1, d1n, c, x1, h⟩
                      · subst h1
                        go_wp2_with fail
                        go_meet
                        exact ⟨rfl, rfl⟩
                      · rcases h with ⟨c1, h2, h3⟩ | ⟨c1, c2, h2, h3⟩ | ⟨c1, c2, h2, h3⟩
                        all_goals (
                          have H2 := Lib.hid h3
                          clear h2 h3
                          go_wp2_with fail
                          go_meet
                          exact ⟨by rw [H2.out], rfl⟩)
                    case rest =>
                      obtain ⟨rfl, rfl⟩ := hcut
                      have hS1 := fun h => sgn_yes (x := t) h
                      have HS2 : Hid (sgnB t = false → t = y) := fun h => (sgn_no h).symm.trans hy
                      rw [hy] at hS1
                      have HS1 := Lib.hid hS1
                      clear hS1 hy
                      generalize sgnB t = sb2 at *
                      generalize minus t = mn2 at *
                      go_upto_if 102 with fail
                      go_cut [0] (fun v0 wx => v0 = .string ⟨y.toArray⟩ ∧ wx = wc)
                      case first =>
                        cases sb2
                        · have h := Lib.hid (HS2.out rfl)
                          go_wp2_with fail
                          go_meet
                          exact ⟨by rw [h.out], rfl⟩
                        · have h := HS1.out rfl
                          go_wp2_with fail
                          go_meet
                          exact ⟨rfl, rfl⟩
                      case rest =>
                        obtain ⟨rfl, rfl⟩ := hcut
                        clear HS1 HS2
                        have hyl := HYL.out
                        have cR := Lib.hid fun w => run15_any y (by omega) w
                        have hru := run_le y
                        have s2 := slice_from y (run y) (run y) rfl hru
                        rw [hz] at s2
                        have HRU := Lib.hid hru
                        clear hz hru hyl
                        generalize run y = N at *
                        go_wp2_with fail
                        refine (cR.out _).mono ?_
                        rintro e w5 ⟨rfl, hw⟩; subst w5
                        clear cR
                        by_cases hN : N = 0
                        · have HQ := Lib.hid (HQ3.out hN)
                          subst hN
                          clear HQ3 HQ4 s2
                          go_wp2_with fail
                          (try simp only [Exit.inBlock, Exit.then])
                          refine bodyPost_ret (results_tmp4 rfl _ _ _) rfl ?_
                          exact ⟨⟨_, rfl, HQ.out⟩, rfl⟩
                        · have HQ := Lib.hid (HQ4.out hN)
                          have n1 : ((N : Int) == 0) = false := beq_eq_false_iff_ne.2 (by omega)
                          have HS2 := Lib.hid s2
                          have HD : Hid (∀ k, k < N → isD (y.getD k 0) = true) := HYD.out
                          clear HQ3 HQ4 hN s2
                          go_wp2_with fail
                          clear n1
                          obtain ⟨W0, rfl⟩ : ∃ W0, W0 = wc := ⟨_, rfl⟩
                          go_loopw [10, 12] (fun v i wr => wr = W0 ∧ ∃ k : Nat, k ≤ N ∧ i = .int .i64 (k : Int) ∧ v = .int .i64 ((ew (y.take k) : Nat) : Int)) (fun _ i _ => N - (intOf i).toNat)
                          case atStart => exact ⟨rfl, 0, by omega, rfl, rfl⟩
                          case round =>
                            obtain ⟨rfl, k, hk, rfl, rfl⟩ := hrel
                            by_cases hlt : k < N
                            · have d1 : decide ((k : Int) < (N : Int)) = true := by simp; omega
                              have d1n : decide (k < N) = true := by simpa using hlt
                              have hky : k < y.length := by have := HRU.out; omega
                              have x1 := at_txt y .i64 (k : Int) k rfl hky wr
                              have hs := ew_step hky
                              have hc := HD.out k hlt
                              have hkb : k ≤ 1000 := by have := HYL.out; omega
                              generalize y.getD k 0 = c at *
                              have hpb : ew (y.take k) ≤ 100000 := by unfold ew; omega
                              obtain ⟨q, hq⟩ : ∃ q, q = ew (y.take (k + 1)) := ⟨_, rfl⟩
                              rw [← hq] at hs
                              generalize ew (y.take k) = e0 at *
                              simp only [isD, decide_eq_true_eq] at hc
                              obtain ⟨d, hd⟩ : ∃ d, d = c.toNat - 48 := ⟨_, rfl⟩
                              rw [← hd] at hs
                              have hcb : d ≤ 9 := by omega
                              have e1 : IntKind.u8.wrap ((c.toNat : Int) - 48) = (d : Int) := by rw [IntKind.wrap_u8]; omega
                              obtain ⟨A, hA⟩ : ∃ A : Int, A = (e0 : Int) * 10 := ⟨_, rfl⟩
                              obtain ⟨S, hS⟩ : ∃ S : Int, S = A + (d : Int) := ⟨_, rfl⟩
                              have E5 : Hid (min S 100000 = (q : Int)) := show _ = _ by omega
                              have HQQ : Hid (q = ew (y.take (k + 1))) := hq
                              have HK : Hid (k + 1 ≤ N) := hlt
                              have HW : Hid (wrap64 ((k : Int) + 1) = ((k + 1 : Nat) : Int)) := show _ = _ by unfold wrap64; omega
                              have e2 : wrap64 ((e0 : Int) * 10) = A := by unfold wrap64; omega
                              have e3 : wrap64 (d : Int) = (d : Int) := by unfold wrap64; omega
                              have e4 : wrap64 (A + (d : Int)) = S := by clear e1 e2 e3; unfold wrap64; omega
                              have e5 := E5.out
                              clear hs hq hc hcb hd hpb hkb hky hk hlt hA hS E5
                              go_wp2_with fail
                              go_roundw
                              case rel => exact ⟨trivial, k + 1, HK.out, by rw [HW.out], by rw [← HQQ.out]; congr 1; first | rfl | (split <;> omega)⟩
                              case measure => rw [HW.out]; have := HK.out; simp [intOf]; omega
                            · obtain rfl : k = N := by omega
                              have d1 : decide ((k : Int) < (k : Int)) = false := by simp
                              have d1n : decide (k < k) = false := by simp
                              have hpb : ew (y.take k) ≤ 100000 := by unfold ew; omega
                              have s2 := HS2.out
                              have hfl := HFL.out
                              generalize ew (y.take k) = e0 at *
                              have e1 : wrap64 (-(e0 : Int)) = -(e0 : Int) := by unfold wrap64; omega
                              obtain ⟨z1, hz1⟩ : ∃ z1, z1 = (e0 : Int) - (f.length : Int) := ⟨_, rfl⟩
                              obtain ⟨z2, hz2⟩ : ∃ z2, z2 = -(e0 : Int) - (f.length : Int) := ⟨_, rfl⟩
                              have e2 : wrap64 ((e0 : Int) - (f.length : Int)) = z1 := by rw [hz1]; unfold wrap64; omega
                              have e3 : wrap64 (-(e0 : Int) - (f.length : Int)) = z2 := by rw [hz2]; unfold wrap64; omega
                              cases mn2
                              · have HQ' : Hid (Q (.tuple #[.string ⟨C.toArray⟩, .int .i64 z1, .bool mn, .bool z.isEmpty])) := by rw [hz1]; exact HQ.out
                                clear hpb hk hlt hfl hz1 hz2 HQ
                                go_wp2_with fail
                                (try simp only [Exit.inBlock, Exit.then])
                                refine bodyPost_ret (results_tmp4 rfl _ _ _) rfl ?_
                                refine ⟨⟨_, rfl, ?_⟩, rfl⟩
                                first
                                  | exact HQ'.out
                                  | (show Q (.tuple #[.string ⟨C.toArray⟩, .int .i64 (wrap64 ((e0 : Int) - (f.length : Int))), .bool mn, .bool z.isEmpty]); rw [e2]; exact HQ'.out)
                              · have HQ' : Hid (Q (.tuple #[.string ⟨C.toArray⟩, .int .i64 z2, .bool mn, .bool z.isEmpty])) := by rw [hz2]; exact HQ.out
                                clear hpb hk hlt hfl hz1 hz2 HQ
                                go_wp2_with fail
                                (try simp only [Exit.inBlock, Exit.then])
                                refine bodyPost_ret (results_tmp4 rfl _ _ _) rfl ?_
                                refine ⟨⟨_, rfl, ?_⟩, rfl⟩
                                first
                                  | exact HQ'.out
                                  | (show Q (.tuple #[.string ⟨C.toArray⟩, .int .i64 (wrap64 (-(e0 : Int) - (f.length : Int))), .bool mn, .bool z.isEmpty]); rw [e3]; exact HQ'.out)
                                  | (show Q (.tuple #[.string ⟨C.toArray⟩, .int .i64 (wrap64 (wrap64 (-(e0 : Int)) - (f.length : Int))), .bool mn, .bool z.isEmpty]); rw [e1, e3]; exact HQ'.out)

theorem digs_run (y : List UInt8) : digs y = true ↔ run y ≠ 0 ∧ y.drop (run y) = [] := by
  obtain ⟨d, r, e1, e2, e3, e4, e5⟩ := run_split y
  rw [e3, show y.drop d.length = r by rw [← e3]; exact e4, e1, digs_iff]
  constructor
  · rintro ⟨h1, h2⟩
    rcases e5 with rfl | ⟨c, t, rfl, hc⟩
    · rw [List.append_nil] at h2
      exact ⟨fun h => h2 (List.length_eq_zero_iff.1 h), rfl⟩
    · rw [h1 c (by simp)] at hc; cases hc
  · rintro ⟨h1, h2⟩
    subst h2
    rw [List.append_nil]
    exact ⟨e2, fun h => h1 (by rw [h]; rfl)⟩
theorem run_dig (y : List UInt8) : ∀ k, k < run y → isD (y.getD k 0) = true := by
  obtain ⟨d, r, e1, e2, e3, e4, e5⟩ := run_split y
  intro k hk
  rw [e3] at hk
  rw [e1, List.getD_eq_getElem?_getD, List.getElem?_append_left hk, List.getElem?_eq_getElem hk]
  exact e2 _ (List.getElem_mem hk)
theorem litU_none {u : List UInt8} (h : u.take (run u) ++ frac (u.drop (run u)) = []) : litU u = none := if_pos h
theorem litU_map {u : List UInt8} (h : u.take (run u) ++ frac (u.drop (run u)) ≠ []) : litU u = (litE (past (u.drop (run u)))).map fun e => (u.take (run u) ++ frac (u.drop (run u)), e, (frac (u.drop (run u))).length) := if_neg h
theorem litE_no {p : List UInt8} (h : expB p = false) : litE p = if p.isEmpty = true then some 0 else none := by
  cases p with
  | nil => rfl
  | cons c t => rw [litE_cons, show isE c = false from h]; rfl
theorem litE_yes {p : List UInt8} (h : expB p = true) : litE p = if digs (unsign (p.drop 1)) = true then some (if minus (p.drop 1) = true then -((dv 0 (unsign (p.drop 1)) : Nat) : Int) else ((dv 0 (unsign (p.drop 1)) : Nat) : Int)) else none := by
  cases p with
  | nil => cases h
  | cons c t => rw [litE_cons, if_pos (show isE c = true from h)]; rfl

theorem litV_none {s : List UInt8} (h : litU (unsign s) = none) (c : List UInt8) (q : Int) (n : Bool) : litV s (.tuple #[.string ⟨c.toArray⟩, .int .i64 q, .bool n, .bool false]) :=
  ⟨c, q, n, false, rfl, by rw [h]⟩
theorem litV_some {s c : List UInt8} {E : Int} {b : Nat} (h : litU (unsign s) = some (c, E, b)) {q : Int} (hq : q = max (-100000) (min E 100000) - (b : Nat)) : litV s (.tuple #[.string ⟨c.toArray⟩, .int .i64 q, .bool (minus s), .bool true]) :=
  ⟨c, q, _, true, rfl, by rw [h]; exact ⟨rfl, rfl, rfl, hq⟩⟩
/-- What the document's literal gives back. -/
theorem literal_any (s : List UInt8) (hs : s.length ≤ 1000) (w : World) :
    Calls Tryz.prog 24 #[.string ⟨s.toArray⟩] w fun e w' => (∃ v, e = .returned v ∧ litV s v) ∧ w' = w := by
  refine literal_core s _ _ _ _ _ _ _ _ w hs rfl rfl rfl rfl rfl rfl rfl rfl (Lib.hid (run_dig _)) (litV s) (Lib.hid ?_) (Lib.hid ?_) (Lib.hid ?_) (Lib.hid ?_)
  · intro h
    exact litV_none (litU_none h) _ _ _
  · intro h he
    have hl := litU_map h
    rw [litE_no he] at hl
    cases hp : (past ((unsign s).drop (run (unsign s)))).isEmpty with
    | true =>
      rw [hp, if_pos rfl] at hl
      exact litV_some hl (by omega)
    | false =>
      rw [hp, if_neg (by decide)] at hl
      exact litV_none hl _ _ _
  · intro h he h0
    have hl := litU_map h
    rw [litE_yes he, if_neg (fun hd => ((digs_run _).1 hd).1 h0)] at hl
    exact litV_none hl _ _ _
  · intro h he h0
    have hl := litU_map h
    rw [litE_yes he] at hl
    generalize (past ((unsign s).drop (run (unsign s)))).drop 1 = t at *
    by_cases hd : (unsign t).drop (run (unsign t)) = []
    · rw [if_pos ((digs_run _).2 ⟨h0, hd⟩)] at hl
      have ht : (unsign t).take (run (unsign t)) = unsign t := by
        have := List.take_append_drop (run (unsign t)) (unsign t)
        rw [hd, List.append_nil] at this
        exact this
      rw [hd, ht]
      refine litV_some hl ?_
      unfold ew
      generalize dv 0 (unsign t) = v
      cases minus t
      · simp only [Bool.false_eq_true, if_false]; omega
      · simp only [if_true]; omega
    · rw [if_neg (fun hd' => hd ((digs_run _).1 hd').2)] at hl
      have : ((unsign t).drop (run (unsign t))).isEmpty = false := by
        cases hz : (unsign t).drop (run (unsign t)) with
        | nil => exact absurd hz hd
        | cons a b => rfl
      rw [this]
      exact litV_none hl _ _ _
end Go.Proofs.YtkkoefiennccoaaGreatDoor
