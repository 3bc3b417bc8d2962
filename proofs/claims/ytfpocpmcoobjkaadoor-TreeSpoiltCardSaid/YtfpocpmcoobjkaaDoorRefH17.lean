/-
  What the document's has does (chapter 17): what a value of a Kind has; no condition.
-/
import Derived.Test.YtfpocpmcoobjkaaDoorRefN17
namespace Go.Proofs.YtfpocpmcoobjkaaDoor
set_option maxRecDepth 100000
open Go.RowKit

/-- What a Kind has: Bits; High and Low; Text; More; Sub; Bytes; Kids. -/
structure Has where
  b : Bool
  w : Bool
  t : Bool
  m : Bool
  s : Bool
  y : Bool
  k : Bool
def hasK (k : Int) : Has := if k = 1 then ⟨true, false, false, false, false, false, false⟩ else if k = 9 then ⟨true, false, false, false, false, false, false⟩ else if k = 17 then ⟨true, false, false, false, false, false, false⟩ else if k = 18 then ⟨true, false, false, false, false, false, false⟩ else if k = 16 then ⟨true, false, false, false, false, false, false⟩ else if k = 8 then ⟨true, false, false, false, false, false, false⟩ else if k = 19 then ⟨false, true, false, false, false, false, false⟩ else if k = 2 then ⟨false, false, true, false, false, false, false⟩ else if k = 13 then ⟨false, false, true, false, false, false, false⟩ else if k = 14 then ⟨false, false, true, false, false, false, false⟩ else if k = 11 then ⟨false, false, true, true, false, false, false⟩ else if k = 5 then ⟨false, false, false, false, true, true, false⟩ else if k = 7 then ⟨false, false, false, false, false, true, false⟩ else if k = 12 then ⟨false, false, true, false, false, true, false⟩ else if k = 3 then ⟨false, false, false, false, false, false, true⟩ else if k = 4 then ⟨false, false, false, false, false, false, true⟩ else if k = 15 then ⟨false, false, true, false, false, false, true⟩ else ⟨false, false, false, false, false, false, false⟩
def hasTup (h : Has) : Value := .tuple #[.bool h.b, .bool h.w, .bool h.t, .bool h.m, .bool h.s, .bool h.y, .bool h.k]
theorem results_tmp7 {fn : Func} {t u v x y z q : Tmp} (h : fn.results = #[.tmp t, .tmp u, .tmp v, .tmp x, .tmp y, .tmp z, .tmp q]) (tmps : Array Value) (P : Program) (w : World) :
    (results fn tmps).run P w = .ok (.tuple #[tmps.getD t undef, tmps.getD u undef, tmps.getD v undef, tmps.getD x undef, tmps.getD y undef, tmps.getD z undef, tmps.getD q undef]) w := by
  simp [results, h]
set_option maxHeartbeats 4000000 in
theorem refHas_any (k : Int) (w : World) :
    Calls Tryd.prog 53 #[.int .i64 k] w fun e w' => e = .returned (hasTup (hasK k)) ∧ w' = w := by
  by_cases h1 : k = 1
  · have HR : hasTup (hasK k) = hasTup ⟨true, false, false, false, false, false, false⟩ := by
      unfold hasK
      rw [if_pos h1]
    rw [HR]
    clear HR
    subst h1
    go_enter Tryd.func53, Tryd.ntmps53
    go_wp2_with fail
    (try simp only [Exit.inBlock, Exit.then])
    refine bodyPost_ret (results_tmp7 rfl _ _ _) rfl ?_
    exact ⟨rfl, rfl⟩
  by_cases h9 : k = 9
  · have HR : hasTup (hasK k) = hasTup ⟨true, false, false, false, false, false, false⟩ := by
      unfold hasK
      rw [if_neg h1]
      rw [if_pos h9]
    rw [HR]
    clear HR
    subst h9
    clear h1
    go_enter Tryd.func53, Tryd.ntmps53
    go_wp2_with fail
    (try simp only [Exit.inBlock, Exit.then])
    refine bodyPost_ret (results_tmp7 rfl _ _ _) rfl ?_
    exact ⟨rfl, rfl⟩
  by_cases h17 : k = 17
  · have HR : hasTup (hasK k) = hasTup ⟨true, false, false, false, false, false, false⟩ := by
      unfold hasK
      rw [if_neg h1, if_neg h9]
      rw [if_pos h17]
    rw [HR]
    clear HR
    subst h17
    clear h1 h9
    go_enter Tryd.func53, Tryd.ntmps53
    go_wp2_with fail
    (try simp only [Exit.inBlock, Exit.then])
    refine bodyPost_ret (results_tmp7 rfl _ _ _) rfl ?_
    exact ⟨rfl, rfl⟩
  by_cases h18 : k = 18
  · have HR : hasTup (hasK k) = hasTup ⟨true, false, false, false, false, false, false⟩ := by
      unfold hasK
      rw [if_neg h1, if_neg h9, if_neg h17]
      rw [if_pos h18]
    rw [HR]
    clear HR
    subst h18
    clear h1 h9 h17
    go_enter Tryd.func53, Tryd.ntmps53
    go_wp2_with fail
    (try simp only [Exit.inBlock, Exit.then])
    refine bodyPost_ret (results_tmp7 rfl _ _ _) rfl ?_
    exact ⟨rfl, rfl⟩
  by_cases h16 : k = 16
  · have HR : hasTup (hasK k) = hasTup ⟨true, false, false, false, false, false, false⟩ := by
      unfold hasK
      rw [if_neg h1, if_neg h9, if_neg h17, if_neg h18]
      rw [if_pos h16]
    rw [HR]
    clear HR
    subst h16
    clear h1 h9 h17 h18
    go_enter Tryd.func53, Tryd.ntmps53
    go_wp2_with fail
    (try simp only [Exit.inBlock, Exit.then])
    refine bodyPost_ret (results_tmp7 rfl _ _ _) rfl ?_
    exact ⟨rfl, rfl⟩
  by_cases h8 : k = 8
  · have HR : hasTup (hasK k) = hasTup ⟨true, false, false, false, false, false, false⟩ := by
      unfold hasK
      rw [if_neg h1, if_neg h9, if_neg h17, if_neg h18, if_neg h16]
      rw [if_pos h8]
    rw [HR]
    clear HR
    subst h8
    clear h1 h9 h17 h18 h16
    go_enter Tryd.func53, Tryd.ntmps53
    go_wp2_with fail
    (try simp only [Exit.inBlock, Exit.then])
    refine bodyPost_ret (results_tmp7 rfl _ _ _) rfl ?_
    exact ⟨rfl, rfl⟩
  by_cases h19 : k = 19
  · have HR : hasTup (hasK k) = hasTup ⟨false, true, false, false, false, false, false⟩ := by
      unfold hasK
      rw [if_neg h1, if_neg h9, if_neg h17, if_neg h18, if_neg h16, if_neg h8]
      rw [if_pos h19]
    rw [HR]
    clear HR
    subst h19
    clear h1 h9 h17 h18 h16 h8
    go_enter Tryd.func53, Tryd.ntmps53
    go_wp2_with fail
    (try simp only [Exit.inBlock, Exit.then])
    refine bodyPost_ret (results_tmp7 rfl _ _ _) rfl ?_
    exact ⟨rfl, rfl⟩
  by_cases h2 : k = 2
  · have HR : hasTup (hasK k) = hasTup ⟨false, false, true, false, false, false, false⟩ := by
      unfold hasK
      rw [if_neg h1, if_neg h9, if_neg h17, if_neg h18, if_neg h16, if_neg h8, if_neg h19]
      rw [if_pos h2]
    rw [HR]
    clear HR
    subst h2
    clear h1 h9 h17 h18 h16 h8 h19
    go_enter Tryd.func53, Tryd.ntmps53
    go_wp2_with fail
    (try simp only [Exit.inBlock, Exit.then])
    refine bodyPost_ret (results_tmp7 rfl _ _ _) rfl ?_
    exact ⟨rfl, rfl⟩
  by_cases h13 : k = 13
  · have HR : hasTup (hasK k) = hasTup ⟨false, false, true, false, false, false, false⟩ := by
      unfold hasK
      rw [if_neg h1, if_neg h9, if_neg h17, if_neg h18, if_neg h16, if_neg h8, if_neg h19, if_neg h2]
      rw [if_pos h13]
    rw [HR]
    clear HR
    subst h13
    clear h1 h9 h17 h18 h16 h8 h19 h2
    go_enter Tryd.func53, Tryd.ntmps53
    go_wp2_with fail
    (try simp only [Exit.inBlock, Exit.then])
    refine bodyPost_ret (results_tmp7 rfl _ _ _) rfl ?_
    exact ⟨rfl, rfl⟩
  by_cases h14 : k = 14
  · have HR : hasTup (hasK k) = hasTup ⟨false, false, true, false, false, false, false⟩ := by
      unfold hasK
      rw [if_neg h1, if_neg h9, if_neg h17, if_neg h18, if_neg h16, if_neg h8, if_neg h19, if_neg h2, if_neg h13]
      rw [if_pos h14]
    rw [HR]
    clear HR
    subst h14
    clear h1 h9 h17 h18 h16 h8 h19 h2 h13
    go_enter Tryd.func53, Tryd.ntmps53
    go_wp2_with fail
    (try simp only [Exit.inBlock, Exit.then])
    refine bodyPost_ret (results_tmp7 rfl _ _ _) rfl ?_
    exact ⟨rfl, rfl⟩
  by_cases h11 : k = 11
  · have HR : hasTup (hasK k) = hasTup ⟨false, false, true, true, false, false, false⟩ := by
      unfold hasK
      rw [if_neg h1, if_neg h9, if_neg h17, if_neg h18, if_neg h16, if_neg h8, if_neg h19, if_neg h2, if_neg h13, if_neg h14]
      rw [if_pos h11]
    rw [HR]
    clear HR
    subst h11
    clear h1 h9 h17 h18 h16 h8 h19 h2 h13 h14
    go_enter Tryd.func53, Tryd.ntmps53
    go_wp2_with fail
    (try simp only [Exit.inBlock, Exit.then])
    refine bodyPost_ret (results_tmp7 rfl _ _ _) rfl ?_
    exact ⟨rfl, rfl⟩
  by_cases h5 : k = 5
  · have HR : hasTup (hasK k) = hasTup ⟨false, false, false, false, true, true, false⟩ := by
      unfold hasK
      rw [if_neg h1, if_neg h9, if_neg h17, if_neg h18, if_neg h16, if_neg h8, if_neg h19, if_neg h2, if_neg h13, if_neg h14, if_neg h11]
      rw [if_pos h5]
    rw [HR]
    clear HR
    subst h5
    clear h1 h9 h17 h18 h16 h8 h19 h2 h13 h14 h11
    go_enter Tryd.func53, Tryd.ntmps53
    go_wp2_with fail
    (try simp only [Exit.inBlock, Exit.then])
    refine bodyPost_ret (results_tmp7 rfl _ _ _) rfl ?_
    exact ⟨rfl, rfl⟩
  by_cases h7 : k = 7
  · have HR : hasTup (hasK k) = hasTup ⟨false, false, false, false, false, true, false⟩ := by
      unfold hasK
      rw [if_neg h1, if_neg h9, if_neg h17, if_neg h18, if_neg h16, if_neg h8, if_neg h19, if_neg h2, if_neg h13, if_neg h14, if_neg h11, if_neg h5]
      rw [if_pos h7]
    rw [HR]
    clear HR
    subst h7
    clear h1 h9 h17 h18 h16 h8 h19 h2 h13 h14 h11 h5
    go_enter Tryd.func53, Tryd.ntmps53
    go_wp2_with fail
    (try simp only [Exit.inBlock, Exit.then])
    refine bodyPost_ret (results_tmp7 rfl _ _ _) rfl ?_
    exact ⟨rfl, rfl⟩
  by_cases h12 : k = 12
  · have HR : hasTup (hasK k) = hasTup ⟨false, false, true, false, false, true, false⟩ := by
      unfold hasK
      rw [if_neg h1, if_neg h9, if_neg h17, if_neg h18, if_neg h16, if_neg h8, if_neg h19, if_neg h2, if_neg h13, if_neg h14, if_neg h11, if_neg h5, if_neg h7]
      rw [if_pos h12]
    rw [HR]
    clear HR
    subst h12
    clear h1 h9 h17 h18 h16 h8 h19 h2 h13 h14 h11 h5 h7
    go_enter Tryd.func53, Tryd.ntmps53
    go_wp2_with fail
    (try simp only [Exit.inBlock, Exit.then])
    refine bodyPost_ret (results_tmp7 rfl _ _ _) rfl ?_
    exact ⟨rfl, rfl⟩
  by_cases h3 : k = 3
  · have HR : hasTup (hasK k) = hasTup ⟨false, false, false, false, false, false, true⟩ := by
      unfold hasK
      rw [if_neg h1, if_neg h9, if_neg h17, if_neg h18, if_neg h16, if_neg h8, if_neg h19, if_neg h2, if_neg h13, if_neg h14, if_neg h11, if_neg h5, if_neg h7, if_neg h12]
      rw [if_pos h3]
    rw [HR]
    clear HR
    subst h3
    clear h1 h9 h17 h18 h16 h8 h19 h2 h13 h14 h11 h5 h7 h12
    go_enter Tryd.func53, Tryd.ntmps53
    go_wp2_with fail
    (try simp only [Exit.inBlock, Exit.then])
    refine bodyPost_ret (results_tmp7 rfl _ _ _) rfl ?_
    exact ⟨rfl, rfl⟩
  by_cases h4 : k = 4
  · have HR : hasTup (hasK k) = hasTup ⟨false, false, false, false, false, false, true⟩ := by
      unfold hasK
      rw [if_neg h1, if_neg h9, if_neg h17, if_neg h18, if_neg h16, if_neg h8, if_neg h19, if_neg h2, if_neg h13, if_neg h14, if_neg h11, if_neg h5, if_neg h7, if_neg h12, if_neg h3]
      rw [if_pos h4]
    rw [HR]
    clear HR
    subst h4
    clear h1 h9 h17 h18 h16 h8 h19 h2 h13 h14 h11 h5 h7 h12 h3
    go_enter Tryd.func53, Tryd.ntmps53
    go_wp2_with fail
    (try simp only [Exit.inBlock, Exit.then])
    refine bodyPost_ret (results_tmp7 rfl _ _ _) rfl ?_
    exact ⟨rfl, rfl⟩
  by_cases h15 : k = 15
  · have HR : hasTup (hasK k) = hasTup ⟨false, false, true, false, false, false, true⟩ := by
      unfold hasK
      rw [if_neg h1, if_neg h9, if_neg h17, if_neg h18, if_neg h16, if_neg h8, if_neg h19, if_neg h2, if_neg h13, if_neg h14, if_neg h11, if_neg h5, if_neg h7, if_neg h12, if_neg h3, if_neg h4]
      rw [if_pos h15]
    rw [HR]
    clear HR
    subst h15
    clear h1 h9 h17 h18 h16 h8 h19 h2 h13 h14 h11 h5 h7 h12 h3 h4
    go_enter Tryd.func53, Tryd.ntmps53
    go_wp2_with fail
    (try simp only [Exit.inBlock, Exit.then])
    refine bodyPost_ret (results_tmp7 rfl _ _ _) rfl ?_
    exact ⟨rfl, rfl⟩
  have HR : hasTup (hasK k) = hasTup ⟨false, false, false, false, false, false, false⟩ := by
    unfold hasK
    rw [if_neg h1, if_neg h9, if_neg h17, if_neg h18, if_neg h16, if_neg h8, if_neg h19, if_neg h2, if_neg h13, if_neg h14, if_neg h11, if_neg h5, if_neg h7, if_neg h12, if_neg h3, if_neg h4, if_neg h15]
  rw [HR]
  clear HR
  have e1 : (k == 1) = false := beq_eq_false_iff_ne.2 h1
  have e9 : (k == 9) = false := beq_eq_false_iff_ne.2 h9
  have e17 : (k == 17) = false := beq_eq_false_iff_ne.2 h17
  have e18 : (k == 18) = false := beq_eq_false_iff_ne.2 h18
  have e16 : (k == 16) = false := beq_eq_false_iff_ne.2 h16
  have e8 : (k == 8) = false := beq_eq_false_iff_ne.2 h8
  have e19 : (k == 19) = false := beq_eq_false_iff_ne.2 h19
  have e2 : (k == 2) = false := beq_eq_false_iff_ne.2 h2
  have e13 : (k == 13) = false := beq_eq_false_iff_ne.2 h13
  have e14 : (k == 14) = false := beq_eq_false_iff_ne.2 h14
  have e11 : (k == 11) = false := beq_eq_false_iff_ne.2 h11
  have e5 : (k == 5) = false := beq_eq_false_iff_ne.2 h5
  have e7 : (k == 7) = false := beq_eq_false_iff_ne.2 h7
  have e12 : (k == 12) = false := beq_eq_false_iff_ne.2 h12
  have e3 : (k == 3) = false := beq_eq_false_iff_ne.2 h3
  have e4 : (k == 4) = false := beq_eq_false_iff_ne.2 h4
  have e15 : (k == 15) = false := beq_eq_false_iff_ne.2 h15
  clear h1 h9 h17 h18 h16 h8 h19 h2 h13 h14 h11 h5 h7 h12 h3 h4 h15
  go_enter Tryd.func53, Tryd.ntmps53
  go_wp2_with fail
  (try simp only [Exit.inBlock, Exit.then])
  refine bodyPost_ret (results_tmp7 rfl _ _ _) rfl ?_
  exact ⟨rfl, rfl⟩
end Go.Proofs.YtfpocpmcoobjkaaDoor
