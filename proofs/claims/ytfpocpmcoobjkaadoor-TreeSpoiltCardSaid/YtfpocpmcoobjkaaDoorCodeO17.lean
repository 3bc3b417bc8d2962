/-
  What the program's others does (chapter 17): a value without the fields that a value of its Kind has; no condition.
-/
import Derived.Test.YtfpocpmcoobjkaaDoorRefE17
import Derived.Test.YtfpocpmcoobjkaaDoorValAt17
namespace Go.Proofs.YtfpocpmcoobjkaaDoor
set_option maxRecDepth 100000
open Go.RowKit

theorem results_oneV {fn : Func} {p : Tmp} {ty : TypeId} (h : fn.results = #[.cell p ty]) (tmps : Array Value) {P : Program} (w : World) (g : Nat) (cs : Array Value)
    (hp : tmps.getD p undef = .pointer (some ⟨g, 0, none⟩)) (hl : (loadVar ty ⟨g, 0, none⟩).run P w = .ok (.agg cs) w) : (results fn tmps).run P w = .ok (.agg cs) w := by
  have e : (results fn tmps).run P w = ((asAddr (tmps.getD p undef)).run P w).andThen fun a w₁ => (loadVar ty a).run P w₁ := by
    simp only [results, h]
    simp [Sem.run_bind, Result.andThen]
  rw [e, hp]
  simp [asAddr, hl]
theorem load_value {w : World} {g : Nat} {a b c d e f x y z : Value} (hg : w.heap[g]? = some (.cells #[a, b, c, d, e, f, x, y, z] 26 (0, 0))) :
    (loadVar 26 ⟨g, 0, none⟩).run Tryd.prog w = .ok (.agg #[a, b, c, d, e, f, x, y, z]) w :=
  run_loadVar_row w g _ _ _ _ _ hg Tryd.underlying26 rfl (by kernel_rfl)
/-- A value without what its Kind has. -/
def othO (h : Has) (o : OwnV) : OwnV := ⟨o.kind, if h.b then 0 else o.bits, if h.w then 0 else o.high, if h.w then 0 else o.low, if h.t then [] else o.text, if h.m then [] else o.more, if h.s then 0 else o.sub, if h.y then [] else o.bytes⟩
theorem two_new (w : World) (o1 o2 : Obj) : Below w.heap.size w ((w.alloc o1).alloc o2) := ((Below.refl _ _).alloc (Nat.le_refl _) _).alloc (by simp) _
theorem heap_two (w : World) (o1 o2 : Obj) : ((w.alloc o1).alloc o2).heap[w.heap.size + 1]? = some o2 := by
  have := heap_alloc_new (w.alloc o1) o2
  simpa using this

set_option maxHeartbeats 4000000 in
theorem others_any (o : OwnV) (Ab Ak : Option Addr) (cb nk ck : Nat) (w : World) :
    Calls Tryd.prog 49 #[.agg (cellsV o Ab cb Ak nk ck).toArray] w fun e w' => e = .returned (.agg (cellsV (othO (hasK o.kind) o) (if (hasK o.kind).y then none else Ab) (if (hasK o.kind).y then 0 else cb) (if (hasK o.kind).k then none else Ak) (if (hasK o.kind).k then 0 else nk) (if (hasK o.kind).k then 0 else ck)).toArray) ∧ Below w.heap.size w w' := by
  obtain ⟨kd, bits, high, low, text, more, sub, bytes⟩ := o
  unfold cellsV
  dsimp only
  by_cases h1 : kd = 1
  · have HR : hasK kd = ⟨true, false, false, false, false, false, false⟩ := by
      unfold hasK
      rw [if_pos h1]
    rw [HR]
    clear HR
    subst h1
    go_enter Tryd.func49, Tryd.ntmps49
    go_wp2_with fail
    (try simp only [Exit.inBlock, Exit.then])
    refine bodyPost_ret (results_oneV rfl _ _ (w.heap.size + 1) #[.int .i64 1, .int .u64 0, .int .u64 (high : Int), .int .u64 (low : Int), .string ⟨text.toArray⟩, .string ⟨more.toArray⟩, .int .i64 sub, .slice Ab bytes.length cb, .slice Ak nk ck] rfl ?_) rfl ?_
    · exact load_value (heap_two w _ _)
    · exact ⟨rfl, two_new _ _ _⟩
  by_cases h9 : kd = 9
  · have HR : hasK kd = ⟨true, false, false, false, false, false, false⟩ := by
      unfold hasK
      rw [if_neg h1]
      rw [if_pos h9]
    rw [HR]
    clear HR
    subst h9
    clear h1
    go_enter Tryd.func49, Tryd.ntmps49
    go_wp2_with fail
    (try simp only [Exit.inBlock, Exit.then])
    refine bodyPost_ret (results_oneV rfl _ _ (w.heap.size + 1) #[.int .i64 9, .int .u64 0, .int .u64 (high : Int), .int .u64 (low : Int), .string ⟨text.toArray⟩, .string ⟨more.toArray⟩, .int .i64 sub, .slice Ab bytes.length cb, .slice Ak nk ck] rfl ?_) rfl ?_
    · exact load_value (heap_two w _ _)
    · exact ⟨rfl, two_new _ _ _⟩
  by_cases h17 : kd = 17
  · have HR : hasK kd = ⟨true, false, false, false, false, false, false⟩ := by
      unfold hasK
      rw [if_neg h1, if_neg h9]
      rw [if_pos h17]
    rw [HR]
    clear HR
    subst h17
    clear h1 h9
    go_enter Tryd.func49, Tryd.ntmps49
    go_wp2_with fail
    (try simp only [Exit.inBlock, Exit.then])
    refine bodyPost_ret (results_oneV rfl _ _ (w.heap.size + 1) #[.int .i64 17, .int .u64 0, .int .u64 (high : Int), .int .u64 (low : Int), .string ⟨text.toArray⟩, .string ⟨more.toArray⟩, .int .i64 sub, .slice Ab bytes.length cb, .slice Ak nk ck] rfl ?_) rfl ?_
    · exact load_value (heap_two w _ _)
    · exact ⟨rfl, two_new _ _ _⟩
  by_cases h18 : kd = 18
  · have HR : hasK kd = ⟨true, false, false, false, false, false, false⟩ := by
      unfold hasK
      rw [if_neg h1, if_neg h9, if_neg h17]
      rw [if_pos h18]
    rw [HR]
    clear HR
    subst h18
    clear h1 h9 h17
    go_enter Tryd.func49, Tryd.ntmps49
    go_wp2_with fail
    (try simp only [Exit.inBlock, Exit.then])
    refine bodyPost_ret (results_oneV rfl _ _ (w.heap.size + 1) #[.int .i64 18, .int .u64 0, .int .u64 (high : Int), .int .u64 (low : Int), .string ⟨text.toArray⟩, .string ⟨more.toArray⟩, .int .i64 sub, .slice Ab bytes.length cb, .slice Ak nk ck] rfl ?_) rfl ?_
    · exact load_value (heap_two w _ _)
    · exact ⟨rfl, two_new _ _ _⟩
  by_cases h16 : kd = 16
  · have HR : hasK kd = ⟨true, false, false, false, false, false, false⟩ := by
      unfold hasK
      rw [if_neg h1, if_neg h9, if_neg h17, if_neg h18]
      rw [if_pos h16]
    rw [HR]
    clear HR
    subst h16
    clear h1 h9 h17 h18
    go_enter Tryd.func49, Tryd.ntmps49
    go_wp2_with fail
    (try simp only [Exit.inBlock, Exit.then])
    refine bodyPost_ret (results_oneV rfl _ _ (w.heap.size + 1) #[.int .i64 16, .int .u64 0, .int .u64 (high : Int), .int .u64 (low : Int), .string ⟨text.toArray⟩, .string ⟨more.toArray⟩, .int .i64 sub, .slice Ab bytes.length cb, .slice Ak nk ck] rfl ?_) rfl ?_
    · exact load_value (heap_two w _ _)
    · exact ⟨rfl, two_new _ _ _⟩
  by_cases h8 : kd = 8
  · have HR : hasK kd = ⟨true, false, false, false, false, false, false⟩ := by
      unfold hasK
      rw [if_neg h1, if_neg h9, if_neg h17, if_neg h18, if_neg h16]
      rw [if_pos h8]
    rw [HR]
    clear HR
    subst h8
    clear h1 h9 h17 h18 h16
    go_enter Tryd.func49, Tryd.ntmps49
    go_wp2_with fail
    (try simp only [Exit.inBlock, Exit.then])
    refine bodyPost_ret (results_oneV rfl _ _ (w.heap.size + 1) #[.int .i64 8, .int .u64 0, .int .u64 (high : Int), .int .u64 (low : Int), .string ⟨text.toArray⟩, .string ⟨more.toArray⟩, .int .i64 sub, .slice Ab bytes.length cb, .slice Ak nk ck] rfl ?_) rfl ?_
    · exact load_value (heap_two w _ _)
    · exact ⟨rfl, two_new _ _ _⟩
  by_cases h19 : kd = 19
  · have HR : hasK kd = ⟨false, true, false, false, false, false, false⟩ := by
      unfold hasK
      rw [if_neg h1, if_neg h9, if_neg h17, if_neg h18, if_neg h16, if_neg h8]
      rw [if_pos h19]
    rw [HR]
    clear HR
    subst h19
    clear h1 h9 h17 h18 h16 h8
    go_enter Tryd.func49, Tryd.ntmps49
    go_wp2_with fail
    (try simp only [Exit.inBlock, Exit.then])
    refine bodyPost_ret (results_oneV rfl _ _ (w.heap.size + 1) #[.int .i64 19, .int .u64 (bits : Int), .int .u64 0, .int .u64 0, .string ⟨text.toArray⟩, .string ⟨more.toArray⟩, .int .i64 sub, .slice Ab bytes.length cb, .slice Ak nk ck] rfl ?_) rfl ?_
    · exact load_value (heap_two w _ _)
    · exact ⟨rfl, two_new _ _ _⟩
  by_cases h2 : kd = 2
  · have HR : hasK kd = ⟨false, false, true, false, false, false, false⟩ := by
      unfold hasK
      rw [if_neg h1, if_neg h9, if_neg h17, if_neg h18, if_neg h16, if_neg h8, if_neg h19]
      rw [if_pos h2]
    rw [HR]
    clear HR
    subst h2
    clear h1 h9 h17 h18 h16 h8 h19
    go_enter Tryd.func49, Tryd.ntmps49
    go_wp2_with fail
    (try simp only [Exit.inBlock, Exit.then])
    refine bodyPost_ret (results_oneV rfl _ _ (w.heap.size + 1) #[.int .i64 2, .int .u64 (bits : Int), .int .u64 (high : Int), .int .u64 (low : Int), .string ⟨#[]⟩, .string ⟨more.toArray⟩, .int .i64 sub, .slice Ab bytes.length cb, .slice Ak nk ck] rfl ?_) rfl ?_
    · exact load_value (heap_two w _ _)
    · exact ⟨rfl, two_new _ _ _⟩
  by_cases h13 : kd = 13
  · have HR : hasK kd = ⟨false, false, true, false, false, false, false⟩ := by
      unfold hasK
      rw [if_neg h1, if_neg h9, if_neg h17, if_neg h18, if_neg h16, if_neg h8, if_neg h19, if_neg h2]
      rw [if_pos h13]
    rw [HR]
    clear HR
    subst h13
    clear h1 h9 h17 h18 h16 h8 h19 h2
    go_enter Tryd.func49, Tryd.ntmps49
    go_wp2_with fail
    (try simp only [Exit.inBlock, Exit.then])
    refine bodyPost_ret (results_oneV rfl _ _ (w.heap.size + 1) #[.int .i64 13, .int .u64 (bits : Int), .int .u64 (high : Int), .int .u64 (low : Int), .string ⟨#[]⟩, .string ⟨more.toArray⟩, .int .i64 sub, .slice Ab bytes.length cb, .slice Ak nk ck] rfl ?_) rfl ?_
    · exact load_value (heap_two w _ _)
    · exact ⟨rfl, two_new _ _ _⟩
  by_cases h14 : kd = 14
  · have HR : hasK kd = ⟨false, false, true, false, false, false, false⟩ := by
      unfold hasK
      rw [if_neg h1, if_neg h9, if_neg h17, if_neg h18, if_neg h16, if_neg h8, if_neg h19, if_neg h2, if_neg h13]
      rw [if_pos h14]
    rw [HR]
    clear HR
    subst h14
    clear h1 h9 h17 h18 h16 h8 h19 h2 h13
    go_enter Tryd.func49, Tryd.ntmps49
    go_wp2_with fail
    (try simp only [Exit.inBlock, Exit.then])
    refine bodyPost_ret (results_oneV rfl _ _ (w.heap.size + 1) #[.int .i64 14, .int .u64 (bits : Int), .int .u64 (high : Int), .int .u64 (low : Int), .string ⟨#[]⟩, .string ⟨more.toArray⟩, .int .i64 sub, .slice Ab bytes.length cb, .slice Ak nk ck] rfl ?_) rfl ?_
    · exact load_value (heap_two w _ _)
    · exact ⟨rfl, two_new _ _ _⟩
  by_cases h11 : kd = 11
  · have HR : hasK kd = ⟨false, false, true, true, false, false, false⟩ := by
      unfold hasK
      rw [if_neg h1, if_neg h9, if_neg h17, if_neg h18, if_neg h16, if_neg h8, if_neg h19, if_neg h2, if_neg h13, if_neg h14]
      rw [if_pos h11]
    rw [HR]
    clear HR
    subst h11
    clear h1 h9 h17 h18 h16 h8 h19 h2 h13 h14
    go_enter Tryd.func49, Tryd.ntmps49
    go_wp2_with fail
    (try simp only [Exit.inBlock, Exit.then])
    refine bodyPost_ret (results_oneV rfl _ _ (w.heap.size + 1) #[.int .i64 11, .int .u64 (bits : Int), .int .u64 (high : Int), .int .u64 (low : Int), .string ⟨#[]⟩, .string ⟨#[]⟩, .int .i64 sub, .slice Ab bytes.length cb, .slice Ak nk ck] rfl ?_) rfl ?_
    · exact load_value (heap_two w _ _)
    · exact ⟨rfl, two_new _ _ _⟩
  by_cases h5 : kd = 5
  · have HR : hasK kd = ⟨false, false, false, false, true, true, false⟩ := by
      unfold hasK
      rw [if_neg h1, if_neg h9, if_neg h17, if_neg h18, if_neg h16, if_neg h8, if_neg h19, if_neg h2, if_neg h13, if_neg h14, if_neg h11]
      rw [if_pos h5]
    rw [HR]
    clear HR
    subst h5
    clear h1 h9 h17 h18 h16 h8 h19 h2 h13 h14 h11
    go_enter Tryd.func49, Tryd.ntmps49
    go_wp2_with fail
    (try simp only [Exit.inBlock, Exit.then])
    refine bodyPost_ret (results_oneV rfl _ _ (w.heap.size + 1) #[.int .i64 5, .int .u64 (bits : Int), .int .u64 (high : Int), .int .u64 (low : Int), .string ⟨text.toArray⟩, .string ⟨more.toArray⟩, .int .i64 0, .slice none 0 0, .slice Ak nk ck] rfl ?_) rfl ?_
    · exact load_value (heap_two w _ _)
    · exact ⟨rfl, two_new _ _ _⟩
  by_cases h7 : kd = 7
  · have HR : hasK kd = ⟨false, false, false, false, false, true, false⟩ := by
      unfold hasK
      rw [if_neg h1, if_neg h9, if_neg h17, if_neg h18, if_neg h16, if_neg h8, if_neg h19, if_neg h2, if_neg h13, if_neg h14, if_neg h11, if_neg h5]
      rw [if_pos h7]
    rw [HR]
    clear HR
    subst h7
    clear h1 h9 h17 h18 h16 h8 h19 h2 h13 h14 h11 h5
    go_enter Tryd.func49, Tryd.ntmps49
    go_wp2_with fail
    (try simp only [Exit.inBlock, Exit.then])
    refine bodyPost_ret (results_oneV rfl _ _ (w.heap.size + 1) #[.int .i64 7, .int .u64 (bits : Int), .int .u64 (high : Int), .int .u64 (low : Int), .string ⟨text.toArray⟩, .string ⟨more.toArray⟩, .int .i64 sub, .slice none 0 0, .slice Ak nk ck] rfl ?_) rfl ?_
    · exact load_value (heap_two w _ _)
    · exact ⟨rfl, two_new _ _ _⟩
  by_cases h12 : kd = 12
  · have HR : hasK kd = ⟨false, false, true, false, false, true, false⟩ := by
      unfold hasK
      rw [if_neg h1, if_neg h9, if_neg h17, if_neg h18, if_neg h16, if_neg h8, if_neg h19, if_neg h2, if_neg h13, if_neg h14, if_neg h11, if_neg h5, if_neg h7]
      rw [if_pos h12]
    rw [HR]
    clear HR
    subst h12
    clear h1 h9 h17 h18 h16 h8 h19 h2 h13 h14 h11 h5 h7
    go_enter Tryd.func49, Tryd.ntmps49
    go_wp2_with fail
    (try simp only [Exit.inBlock, Exit.then])
    refine bodyPost_ret (results_oneV rfl _ _ (w.heap.size + 1) #[.int .i64 12, .int .u64 (bits : Int), .int .u64 (high : Int), .int .u64 (low : Int), .string ⟨#[]⟩, .string ⟨more.toArray⟩, .int .i64 sub, .slice none 0 0, .slice Ak nk ck] rfl ?_) rfl ?_
    · exact load_value (heap_two w _ _)
    · exact ⟨rfl, two_new _ _ _⟩
  by_cases h3 : kd = 3
  · have HR : hasK kd = ⟨false, false, false, false, false, false, true⟩ := by
      unfold hasK
      rw [if_neg h1, if_neg h9, if_neg h17, if_neg h18, if_neg h16, if_neg h8, if_neg h19, if_neg h2, if_neg h13, if_neg h14, if_neg h11, if_neg h5, if_neg h7, if_neg h12]
      rw [if_pos h3]
    rw [HR]
    clear HR
    subst h3
    clear h1 h9 h17 h18 h16 h8 h19 h2 h13 h14 h11 h5 h7 h12
    go_enter Tryd.func49, Tryd.ntmps49
    go_wp2_with fail
    (try simp only [Exit.inBlock, Exit.then])
    refine bodyPost_ret (results_oneV rfl _ _ (w.heap.size + 1) #[.int .i64 3, .int .u64 (bits : Int), .int .u64 (high : Int), .int .u64 (low : Int), .string ⟨text.toArray⟩, .string ⟨more.toArray⟩, .int .i64 sub, .slice Ab bytes.length cb, .slice none 0 0] rfl ?_) rfl ?_
    · exact load_value (heap_two w _ _)
    · exact ⟨rfl, two_new _ _ _⟩
  by_cases h4 : kd = 4
  · have HR : hasK kd = ⟨false, false, false, false, false, false, true⟩ := by
      unfold hasK
      rw [if_neg h1, if_neg h9, if_neg h17, if_neg h18, if_neg h16, if_neg h8, if_neg h19, if_neg h2, if_neg h13, if_neg h14, if_neg h11, if_neg h5, if_neg h7, if_neg h12, if_neg h3]
      rw [if_pos h4]
    rw [HR]
    clear HR
    subst h4
    clear h1 h9 h17 h18 h16 h8 h19 h2 h13 h14 h11 h5 h7 h12 h3
    go_enter Tryd.func49, Tryd.ntmps49
    go_wp2_with fail
    (try simp only [Exit.inBlock, Exit.then])
    refine bodyPost_ret (results_oneV rfl _ _ (w.heap.size + 1) #[.int .i64 4, .int .u64 (bits : Int), .int .u64 (high : Int), .int .u64 (low : Int), .string ⟨text.toArray⟩, .string ⟨more.toArray⟩, .int .i64 sub, .slice Ab bytes.length cb, .slice none 0 0] rfl ?_) rfl ?_
    · exact load_value (heap_two w _ _)
    · exact ⟨rfl, two_new _ _ _⟩
  by_cases h15 : kd = 15
  · have HR : hasK kd = ⟨false, false, true, false, false, false, true⟩ := by
      unfold hasK
      rw [if_neg h1, if_neg h9, if_neg h17, if_neg h18, if_neg h16, if_neg h8, if_neg h19, if_neg h2, if_neg h13, if_neg h14, if_neg h11, if_neg h5, if_neg h7, if_neg h12, if_neg h3, if_neg h4]
      rw [if_pos h15]
    rw [HR]
    clear HR
    subst h15
    clear h1 h9 h17 h18 h16 h8 h19 h2 h13 h14 h11 h5 h7 h12 h3 h4
    go_enter Tryd.func49, Tryd.ntmps49
    go_wp2_with fail
    (try simp only [Exit.inBlock, Exit.then])
    refine bodyPost_ret (results_oneV rfl _ _ (w.heap.size + 1) #[.int .i64 15, .int .u64 (bits : Int), .int .u64 (high : Int), .int .u64 (low : Int), .string ⟨#[]⟩, .string ⟨more.toArray⟩, .int .i64 sub, .slice Ab bytes.length cb, .slice none 0 0] rfl ?_) rfl ?_
    · exact load_value (heap_two w _ _)
    · exact ⟨rfl, two_new _ _ _⟩
  have HR : hasK kd = ⟨false, false, false, false, false, false, false⟩ := by
    unfold hasK
    rw [if_neg h1, if_neg h9, if_neg h17, if_neg h18, if_neg h16, if_neg h8, if_neg h19, if_neg h2, if_neg h13, if_neg h14, if_neg h11, if_neg h5, if_neg h7, if_neg h12, if_neg h3, if_neg h4, if_neg h15]
  rw [HR]
  clear HR
  have e1 : (kd == 1) = false := beq_eq_false_iff_ne.2 h1
  have e9 : (kd == 9) = false := beq_eq_false_iff_ne.2 h9
  have e17 : (kd == 17) = false := beq_eq_false_iff_ne.2 h17
  have e18 : (kd == 18) = false := beq_eq_false_iff_ne.2 h18
  have e16 : (kd == 16) = false := beq_eq_false_iff_ne.2 h16
  have e8 : (kd == 8) = false := beq_eq_false_iff_ne.2 h8
  have e19 : (kd == 19) = false := beq_eq_false_iff_ne.2 h19
  have e2 : (kd == 2) = false := beq_eq_false_iff_ne.2 h2
  have e13 : (kd == 13) = false := beq_eq_false_iff_ne.2 h13
  have e14 : (kd == 14) = false := beq_eq_false_iff_ne.2 h14
  have e11 : (kd == 11) = false := beq_eq_false_iff_ne.2 h11
  have e5 : (kd == 5) = false := beq_eq_false_iff_ne.2 h5
  have e7 : (kd == 7) = false := beq_eq_false_iff_ne.2 h7
  have e12 : (kd == 12) = false := beq_eq_false_iff_ne.2 h12
  have e3 : (kd == 3) = false := beq_eq_false_iff_ne.2 h3
  have e4 : (kd == 4) = false := beq_eq_false_iff_ne.2 h4
  have e15 : (kd == 15) = false := beq_eq_false_iff_ne.2 h15
  clear h1 h9 h17 h18 h16 h8 h19 h2 h13 h14 h11 h5 h7 h12 h3 h4 h15
  go_enter Tryd.func49, Tryd.ntmps49
  go_wp2_with fail
  (try simp only [Exit.inBlock, Exit.then])
  refine bodyPost_ret (results_oneV rfl _ _ (w.heap.size + 1) #[.int .i64 kd, .int .u64 (bits : Int), .int .u64 (high : Int), .int .u64 (low : Int), .string ⟨text.toArray⟩, .string ⟨more.toArray⟩, .int .i64 sub, .slice Ab bytes.length cb, .slice Ak nk ck] rfl ?_) rfl ?_
  · exact load_value (heap_two w _ _)
  · exact ⟨rfl, two_new _ _ _⟩
end Go.Proofs.YtfpocpmcoobjkaaDoor
