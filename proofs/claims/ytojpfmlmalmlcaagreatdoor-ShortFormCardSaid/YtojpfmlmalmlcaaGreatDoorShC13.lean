/-
  What short's reachOf does. No condition beyond what the contract says.
-/
import Derived.Test.YtojpfmlmalmlcaaGreatDoorShB13
namespace Go.Proofs.YtojpfmlmalmlcaaGreatDoor
open Go.RowKit

def zr : Obj := .cells #[.int .u64 0, .bool false, .int .u64 0, .int .u64 0] 41
theorem block_other {w : World} {g g' i : Nat} {o : Obj} {u : Value} (h : w.heap[g]? = some o) (hne : ¬ g' = g) : (w.setCell ⟨g', i, none⟩ u).heap[g]? = some o := by
  simp [World.setCell, Array.getElem?_modify, h, hne]
theorem results_one {fn : Func} {p : Tmp} {ty : TypeId} (h : fn.results = #[.cell p ty]) (tmps : Array Value) {P : Program} (w : World) (g : Nat) (cs : Array Value)
    (hp : tmps.getD p undef = .pointer (some ⟨g, 0, none⟩)) (hl : (loadVar ty ⟨g, 0, none⟩).run P w = .ok (.agg cs) w) : (results fn tmps).run P w = .ok (.agg cs) w := by
  have e : (results fn tmps).run P w = ((asAddr (tmps.getD p undef)).run P w).andThen fun a w₁ => (loadVar ty a).run P w₁ := by
    simp only [results, h]
    simp [Sem.run_bind, Result.andThen]
  rw [e, hp]
  simp [asAddr, hl]
theorem load_reach {w : World} {g : Nat} {x y z v : Value} (hg : w.heap[g]? = some (.cells #[x, y, z, v] 41 (0, 0))) :
    (loadVar 41 ⟨g, 0, none⟩).run Tryz.prog w = .ok (.agg #[x, y, z, v]) w :=
  run_loadVar_row w g _ _ _ _ _ hg Tryz.underlying41 rfl (by kernel_rfl)
theorem four_set {w : World} {g : Nat} {x y z v a b c d : Value} {t : TypeId} (h : w.heap[g]? = some (.cells #[x, y, z, v] t (0, 0))) :
    ((((w.setCell ⟨g, 0, none⟩ a).setCell ⟨g, 1, none⟩ b).setCell ⟨g, 2, none⟩ c).setCell ⟨g, 3, none⟩ d).heap[g]? = some (.cells #[a, b, c, d] t (0, 0)) :=
  block_set (block_set (block_set (block_set h 0 a) 1 b) 2 c) 3 d
theorem below_four {B : Nat} {a w : World} (h : Below B a w) {g : Nat} (hg : B ≤ g) (x y z v : Value) : Below B a ((((w.setCell ⟨g, 0, none⟩ x).setCell ⟨g, 1, none⟩ y).setCell ⟨g, 2, none⟩ z).setCell ⟨g, 3, none⟩ v) :=
  (((h.setCell (p := ⟨g, 0, none⟩) hg x).setCell (p := ⟨g, 1, none⟩) hg y).setCell (p := ⟨g, 2, none⟩) hg z).setCell (p := ⟨g, 3, none⟩) hg v

set_option maxHeartbeats 4000000 in
set_option maxRecDepth 100000 in
theorem reach_core (m : Nat) (e unit : Int) (w : World) (O U b A l0 m0 : Nat) (j jl jm : Bool) (hm : 1 ≤ m ∧ m < 9007199254740992) (he : -1074 ≤ e ∧ e ≤ 971) (hu : -700 ≤ unit ∧ unit ≤ 700)
    (cQ : Hid (Calls Tryz.prog 41 #[.int .i64 (e - 2), .int .i64 (-unit)] (w.alloc zr) fun e w' => ∃ R k S j, e = .returned (.tuple #[.slice R (G.dg O).length k, .slice S (G.dg U).length j]) ∧ G.Digs w' R (G.dg O).length (G.dg O) ∧ G.Digs w' S (G.dg U).length (G.dg U) ∧ Below (w.alloc zr).heap.size (w.alloc zr) w'))
    (cA : Hid (∀ R k S j2 w, G.Digs w R (G.dg O).length (G.dg O) → G.Digs w S (G.dg U).length (G.dg U) → Calls Tryz.prog 42 #[.int .u64 ((4 * m : Nat) : Int), .slice R (G.dg O).length k, .slice S (G.dg U).length j2] w fun e w' => e = .returned (.tuple #[.int .u64 (A : Int), .bool j]) ∧ Below w.heap.size w w'))
    (cL : Hid (∀ R k S j2 w, G.Digs w R (G.dg O).length (G.dg O) → G.Digs w S (G.dg U).length (G.dg U) → Calls Tryz.prog 42 #[.int .u64 (b : Int), .slice R (G.dg O).length k, .slice S (G.dg U).length j2] w fun e w' => e = .returned (.tuple #[.int .u64 (l0 : Int), .bool jl]) ∧ Below w.heap.size w w'))
    (cM : Hid (∀ R k S j2 w, G.Digs w R (G.dg O).length (G.dg O) → G.Digs w S (G.dg U).length (G.dg U) → Calls Tryz.prog 42 #[.int .u64 ((4 * m + 2 : Nat) : Int), .slice R (G.dg O).length k, .slice S (G.dg U).length j2] w fun e w' => e = .returned (.tuple #[.int .u64 (m0 : Int), .bool jm]) ∧ Below w.heap.size w w'))
    (hb : b = if m = 4503599627370496 ∧ -1074 < e then 4 * m - 1 else 4 * m - 2) (hl0 : l0 < 9000000000000000000) (hm0 : 1 ≤ m0 ∧ m0 < 9000000000000000000) :
    Calls Tryz.prog 21 #[.int .u64 (m : Int), .int .i64 e, .int .i64 unit] w fun x w' => x = .returned (rv A j (if jl = true ∧ m % 2 = 0 then l0 else l0 + 1) (if jm = true ∧ m % 2 = 1 then m0 - 1 else m0)) ∧ Below w.heap.size w w' := by
  obtain ⟨l1, hl1⟩ : ∃ l1 : Nat, l1 = l0 + 1 := ⟨_, rfl⟩
  obtain ⟨m1, hm1⟩ : ∃ m1 : Nat, m1 = m0 - 1 := ⟨_, rfl⟩
  rw [← hl1, ← hm1]
  obtain ⟨F, hF⟩ : ∃ F : Int, F = e - 2 := ⟨_, rfl⟩
  obtain ⟨V, hV⟩ : ∃ V : Int, V = -unit := ⟨_, rfl⟩
  have w1 : wrap64 (e - 2) = F := by unfold wrap64; omega
  have w2 : wrap64 (-unit) = V := by unfold wrap64; omega
  rw [← hF, ← hV] at cQ
  obtain ⟨M4, hM4⟩ : ∃ M4 : Nat, M4 = 4 * m := ⟨_, rfl⟩
  obtain ⟨MD, hMD⟩ : ∃ MD : Nat, MD = 4 * m - 2 := ⟨_, rfl⟩
  obtain ⟨MU, hMU⟩ : ∃ MU : Nat, MU = 4 * m + 2 := ⟨_, rfl⟩
  obtain ⟨ME, hME⟩ : ∃ ME : Nat, ME = MD + 1 := ⟨_, rfl⟩
  rw [← hM4] at cA
  rw [← hMU] at cM
  obtain ⟨t, ht⟩ : ∃ t : Int, t = (m : Int).tmod 2 := ⟨_, rfl⟩
  have htm : t = (m : Int) % 2 := by rw [ht]; exact Int.tmod_eq_emod_of_nonneg (by omega)
  obtain ⟨ev, hev⟩ : ∃ ev : Bool, ev = decide (m % 2 = 0) := ⟨_, rfl⟩
  have d0 : (t == 0) = ev := by rw [hev, Bool.eq_iff_iff]; simp; omega
  have t2 : (m : Int).tmod 2 = t := ht.symm
  have t3 : (m : Int) % 2 = t := htm.symm
  obtain ⟨rl, hrl⟩ : ∃ rl, rl = if jl = true ∧ m % 2 = 0 then l0 else l1 := ⟨_, rfl⟩
  obtain ⟨rm, hrm⟩ : ∃ rm, rm = if jm = true ∧ m % 2 = 1 then m1 else m0 := ⟨_, rfl⟩
  rw [← hrl, ← hrm]
  have p1 : IntKind.u64.wrap (4 * (m : Int)) = (M4 : Int) := (u64_in (by omega) (by omega)).trans (by omega)
  have p2 : IntKind.u64.wrap ((M4 : Int) - 2) = (MD : Int) := (u64_in (by omega) (by omega)).trans (by omega)
  have p3 : IntKind.u64.wrap ((M4 : Int) + 2) = (MU : Int) := (u64_in (by omega) (by omega)).trans (by omega)
  have p4 : IntKind.u64.wrap ((MD : Int) + 1) = (ME : Int) := (u64_in (by omega) (by omega)).trans (by omega)
  have p5 : IntKind.u64.wrap ((l0 : Int) + 1) = (l1 : Int) := (u64_in (by omega) (by omega)).trans (by omega)
  have p6 : IntKind.u64.wrap ((m0 : Int) - 1) = (m1 : Int) := (u64_in (by omega) (by omega)).trans (by omega)
  have hB : ((m : Int) == 4503599627370496) = false ∧ b = MD ∨ ((m : Int) == 4503599627370496) = true ∧ decide (-1074 < e) = false ∧ b = MD ∨ ((m : Int) == 4503599627370496) = true ∧ decide (-1074 < e) = true ∧ b = ME := by
    by_cases h1 : m = 4503599627370496
    · by_cases h2 : -1074 < e
      · right; right; rw [if_pos ⟨h1, h2⟩] at hb; exact ⟨by simp; omega, by simpa using h2, by omega⟩
      · right; left; rw [if_neg (fun h => h2 h.2)] at hb; exact ⟨by simp; omega, by simpa using h2, by omega⟩
    · left; rw [if_neg (fun h => h1 h.1)] at hb; exact ⟨by simp; omega, by omega⟩
  have hRL : rl = if jl && ev then l0 else l1 := by rw [hrl, hev]; simp
  have hRM : rm = if jm && !ev then m1 else m0 := by
    rw [hrm, hev]
    by_cases h : m % 2 = 0
    · rw [if_neg (by omega)]; simp [h]
    · have : m % 2 = 1 := by omega
      simp [this]
  have HRL := Lib.hid hRL; have HRM := Lib.hid hRM
  have B0 : Hid (Below w.heap.size w (w.alloc zr)) := show Below _ _ _ from (Below.refl _ _).alloc (Nat.le_refl _) _
  have hb1 : (w.alloc zr).heap[w.heap.size]? = some zr := heap_alloc_new w _
  have hs1 : w.heap.size < (w.alloc zr).heap.size := by simp
  have HB1 := Lib.hid hb1; have HS1 := Lib.hid hs1
  clear hm he hu hF hV hM4 hMD hMU hME hl1 hm1 hb hl0 hm0 ht htm hev hrl hrm hRL hRM hb1 hs1
  unfold zr at *
  have HD0 := Lib.hid d0
  clear d0
  rcases hB with ⟨b1, hb⟩ | ⟨b1, b2, hb⟩ | ⟨b1, b2, hb⟩
  all_goals
    rw [hb] at cL
    clear hb
    have d0 := HD0.out
    go_enter Tryz.func21, Tryz.ntmps21
    go_wp2_with fail
    refine cQ.out.mono ?_
    rintro x w1 ⟨R, k, S, j2, rfl, D1, D2, B1⟩
    have C1 := Lib.hid (B0.out.trans (B1.mono B0.out.size))
    have K1 := Lib.hid ((B1.block _ HS1.out).trans HB1.out)
    have HD1 := Lib.hid D1; have HD2 := Lib.hid D2
    clear D1 D2 B1 cQ
    go_wp2_with fail
    have A0 : Below w1.heap.size w1 (w1.alloc (.cells #[.int .u64 0, .bool false, .int .u64 0, .int .u64 0] 41)) := (Below.refl _ _).alloc (Nat.le_refl _) _
    refine (cA.out _ _ _ _ _ (HD1.out.below A0) (HD2.out.below A0)).mono ?_
    rintro x w2 ⟨rfl, B2⟩
    have E2 := A0.trans (B2.mono A0.size)
    have G2 := (B2.block _ (by simp)).trans (heap_alloc_new w1 (.cells #[.int .u64 0, .bool false, .int .u64 0, .int .u64 0] 41))
    clear A0 B2 cA
    have f0 := block_frozen G2 0; have f1 := block_frozen G2 1
    have c0 : w2.cell? ⟨w1.heap.size, 0, none⟩ = some (.int .u64 0) := by rw [block_cell G2]; rfl
    have c1 : w2.cell? ⟨w1.heap.size, 1, none⟩ = some (.bool false) := by rw [block_cell G2]; rfl
    have E3 := Lib.hid ((E2.setCell (p := ⟨w1.heap.size, 0, none⟩) (Nat.le_refl _) (.int .u64 (A : Int))).setCell (p := ⟨w1.heap.size, 1, none⟩) (Nat.le_refl _) (.bool j))
    have G3 := Lib.hid (block_set (block_set G2 0 (.int .u64 (A : Int))) 1 (.bool j))
    clear E2 G2
    go_wp2_with fail
    refine (cL.out _ _ _ _ _ (HD1.out.below E3.out) (HD2.out.below E3.out)).mono ?_
    rintro x w4 ⟨rfl, B4⟩
    have E4 := E3.out.trans (B4.mono E3.out.size)
    have G4 := (B4.block _ (block_lt G3.out)).trans G3.out
    clear B4 cL E3 G3 f0 f1 c0 c1
    cases ev <;> cases jl
    all_goals
      have f2 := block_frozen G4 2
      have c2 : w4.cell? ⟨w1.heap.size, 2, none⟩ = some (.int .u64 0) := by rw [block_cell G4]; rfl
      have E5 := Lib.hid (E4.setCell (p := ⟨w1.heap.size, 2, none⟩) (Nat.le_refl _) (.int .u64 (l0 : Int)))
      have G5 := Lib.hid (block_set G4 2 (.int .u64 (l0 : Int)))
      have E5b := Lib.hid (E5.out.setCell (p := ⟨w1.heap.size, 2, none⟩) (Nat.le_refl _) (.int .u64 (l1 : Int)))
      have G5b := Lib.hid (block_set G5.out 2 (.int .u64 (l1 : Int)))
      clear E4 G4
      go_wp2_with fail
      first
      | with_reducible refine (cM.out _ _ _ _ _ (HD1.out.below E5.out) (HD2.out.below E5.out)).mono ?_
        rintro x w6 ⟨rfl, B6⟩
        have E6 := E5.out.trans (B6.mono E5.out.size)
        have G6 := (B6.block _ (block_lt G5.out)).trans G5.out
        clear B6 cM E5 G5 E5b G5b f2 c2
      | with_reducible refine (cM.out _ _ _ _ _ (HD1.out.below E5b.out) (HD2.out.below E5b.out)).mono ?_
        rintro x w6 ⟨rfl, B6⟩
        have E6 := E5b.out.trans (B6.mono E5b.out.size)
        have G6 := (B6.block _ (block_lt G5b.out)).trans G5b.out
        clear B6 cM E5 G5 E5b G5b f2 c2
      cases jm
      all_goals
        have f3 := block_frozen G6 3
        have c0 : w6.cell? ⟨w1.heap.size, 0, none⟩ = some (.int .u64 (A : Int)) := by rw [block_cell G6]; rfl
        have c1 : w6.cell? ⟨w1.heap.size, 1, none⟩ = some (.bool j) := by rw [block_cell G6]; rfl
        have c2 : w6.cell? ⟨w1.heap.size, 2, none⟩ = some (.int .u64 (rl : Int)) := by rw [block_cell G6, HRL.out]; rfl
        have c3 : w6.cell? ⟨w1.heap.size, 3, none⟩ = some (.int .u64 0) := by rw [block_cell G6]; rfl
        have R6 := (E6.block _ (block_lt K1.out)).trans K1.out
        have r0 := block_frozen R6 0; have r1 := block_frozen R6 1; have r2 := block_frozen R6 2; have r3 := block_frozen R6 3
        have q0 : w6.cell? ⟨w.heap.size, 0, none⟩ = some (.int .u64 0) := by rw [block_cell R6]; rfl
        have q1 : w6.cell? ⟨w.heap.size, 1, none⟩ = some (.bool false) := by rw [block_cell R6]; rfl
        have q2 : w6.cell? ⟨w.heap.size, 2, none⟩ = some (.int .u64 0) := by rw [block_cell R6]; rfl
        have q3 : w6.cell? ⟨w.heap.size, 3, none⟩ = some (.int .u64 0) := by rw [block_cell R6]; rfl
        have hne := block_lt K1.out
        have C6 := Lib.hid (C1.out.trans (E6.mono C1.out.size))
        have HR6 := Lib.hid R6
        have HLE := Lib.hid C1.out.size
        clear G6 E6 R6 C1 K1 HD1 HD2
        generalize w1.heap.size = g2 at *
        have n1 : ¬ w.heap.size = g2 := by omega
        have n2 : ¬ g2 = w.heap.size := by omega
        clear hne
        go_wp2_with fail
        have R7 := block_other (i := 3) (u := .int .u64 (m0 : Int)) HR6.out n2
        have C7 := C6.out.setCell (p := ⟨g2, 3, none⟩) HLE.out (.int .u64 (m0 : Int))
        have R8 := block_other (i := 3) (u := .int .u64 (m1 : Int)) R7 n2
        have C8 := C7.setCell (p := ⟨g2, 3, none⟩) HLE.out (.int .u64 (m1 : Int))
        first
        | (refine bodyPost_ret (results_one Tryz.results21 _ _ w.heap.size #[.int .u64 (A : Int), .bool j, .int .u64 (rl : Int), .int .u64 (m0 : Int)] rfl ?_) rfl ?_
           · with_reducible exact load_reach (four_set R7)
           · exact ⟨by rw [HRM.out]; rfl, below_four C7 (Nat.le_refl _) _ _ _ _⟩)
        | (refine bodyPost_ret (results_one Tryz.results21 _ _ w.heap.size #[.int .u64 (A : Int), .bool j, .int .u64 (rl : Int), .int .u64 (m1 : Int)] rfl ?_) rfl ?_
           · with_reducible exact load_reach (four_set R8)
           · exact ⟨by rw [HRM.out]; rfl, below_four C8 (Nat.le_refl _) _ _ _ _⟩)
end Go.Proofs.YtojpfmlmalmlcaaGreatDoor
