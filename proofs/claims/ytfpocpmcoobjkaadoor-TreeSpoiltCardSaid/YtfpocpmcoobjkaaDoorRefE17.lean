/-
  What the document's own does (chapter 17): a value's own error, its Name apart; no condition but bounds.
-/
import Derived.Test.YtfpocpmcoobjkaaDoorBlk
import Derived.Test.YtfpocpmcoobjkaaDoorRefH17
import Derived.Test.YtfpocpmcoobjkaaDoorRefW17
namespace Go.Proofs.YtfpocpmcoobjkaaDoor
set_option maxRecDepth 10000000
open Go.RowKit

/-- The cells of a value that lies in block g. -/
structure BoxC (w : World) (g : Nat) (o : OwnV) (Ab : Option Addr) (cb : Nat) (Ak : Option Addr) (nk ck : Nat) : Prop where
  c0 : w.cell? ⟨g, 0, none⟩ = some (.int .i64 o.kind)
  c1 : w.cell? ⟨g, 1, none⟩ = some (.int .u64 (o.bits : Int))
  c2 : w.cell? ⟨g, 2, none⟩ = some (.int .u64 (o.high : Int))
  c3 : w.cell? ⟨g, 3, none⟩ = some (.int .u64 (o.low : Int))
  c4 : w.cell? ⟨g, 4, none⟩ = some (.string ⟨o.text.toArray⟩)
  c5 : w.cell? ⟨g, 5, none⟩ = some (.string ⟨o.more.toArray⟩)
  c6 : w.cell? ⟨g, 6, none⟩ = some (.int .i64 o.sub)
  c7 : w.cell? ⟨g, 7, none⟩ = some (.slice Ab o.bytes.length cb)
  c8 : w.cell? ⟨g, 8, none⟩ = some (.slice Ak nk ck)
theorem box_of {w : World} {g : Nat} {o : OwnV} {Ab : Option Addr} {cb : Nat} {Ak : Option Addr} {nk ck : Nat} (h : w.heap[g]? = some (.cells (cellsV o Ab cb Ak nk ck).toArray 26)) : BoxC w g o Ab cb Ak nk ck where
  c0 := by rw [block_cell h]; rfl
  c1 := by rw [block_cell h]; rfl
  c2 := by rw [block_cell h]; rfl
  c3 := by rw [block_cell h]; rfl
  c4 := by rw [block_cell h]; rfl
  c5 := by rw [block_cell h]; rfl
  c6 := by rw [block_cell h]; rfl
  c7 := by rw [block_cell h]; rfl
  c8 := by rw [block_cell h]; rfl
/-- A field that should be zero is not. -/
def bad1 (h : Has) (o : OwnV) (nk : Nat) : Bool :=
  (((((((!h.b) && ((o.bits : Int) != 0)) || ((!h.w) && (((o.high : Int) != 0) || ((o.low : Int) != 0)))) || ((!h.t) && (!o.text.isEmpty))) || ((!h.m) && (!o.more.isEmpty))) || ((!h.s) && (o.sub != 0))) || ((!h.y) && decide (0 < o.bytes.length))) || ((!h.k) && decide (0 < nk))
/-- A field is not as its Kind says. -/
def bad2 (o : OwnV) : Bool :=
  (((((o.kind == 16) && decide (4294967296 ≤ o.bits)) || ((o.kind == 8) && decide (1 < o.bits))) || decide (o.sub < 0)) || decide (255 < o.sub)) || (((o.kind == 7) || (o.kind == 12)) && ((o.bytes.length : Int) != 12))
/-- Texts that are not whole, or have a byte 0. -/
def bad3 (o : OwnV) : Bool :=
  ((!wholeB o.text) || (!wholeB o.more)) || ((o.kind == 11) && (zeroB o.text || zeroB o.more))

def ownE (o : OwnV) (nk : Nat) : Int :=
  if nameL o.kind = [] then 5 else if bad1 (hasK o.kind) o nk then 1 else if bad2 o then 1 else if bad3 o then 4 else 0

set_option maxHeartbeats 4000000 in
theorem own_any (o : OwnV) (Ab Ak : Option Addr) (cb nk ck : Nat) (ht : o.text.length ≤ 100000000) (hm : o.more.length ≤ 100000000) (w0 : World) :
    Calls Tryd.prog 43 #[.agg (cellsV o Ab cb Ak nk ck).toArray] w0 fun e w' => e = .returned (.int .i64 (ownE o nk)) ∧ Below w0.heap.size w0 w' := by
  obtain ⟨R, hR⟩ : ∃ R, R = ownE o nk := ⟨_, rfl⟩
  rw [← hR]
  have B0 : Below w0.heap.size w0 (w0.alloc (.cells (cellsV o Ab cb Ak nk ck).toArray 26)) := (Below.refl _ _).alloc (Nat.le_refl _) _
  have hb : (w0.alloc (.cells (cellsV o Ab cb Ak nk ck).toArray 26)).heap[w0.heap.size]? = some (.cells (cellsV o Ab cb Ak nk ck).toArray 26) := heap_alloc_new w0 _
  have cN := Lib.hid fun w => refName_any o.kind w
  have cH := Lib.hid fun w => refHas_any o.kind w
  have cWt := Lib.hid fun w => refWhole_any o.text ht w
  have cWm := Lib.hid fun w => refWhole_any o.more hm w
  have cZt := Lib.hid fun w => refZero_any o.text (Nat.le_trans ht (by decide)) w
  have cZm := Lib.hid fun w => refZero_any o.more (Nat.le_trans hm (by decide)) w
  clear ht hm
  have hunf : (w0.alloc (.cells (cellsV o Ab cb Ak nk ck).toArray 26)) = w0.alloc (.cells #[.int .i64 o.kind, .int .u64 (o.bits : Int), .int .u64 (o.high : Int), .int .u64 (o.low : Int), .string ⟨o.text.toArray⟩, .string ⟨o.more.toArray⟩, .int .i64 o.sub, .slice Ab o.bytes.length cb, .slice Ak nk ck] 26) := rfl
  by_cases hn : nameL o.kind = []
  · have HR : Hid (R = 5) := show _ = _ by rw [hR]; unfold ownE; rw [if_pos hn]
    rw [hn] at cN
    clear hn hR cH cWt cWm cZt cZm
    go_enter Tryd.func43, Tryd.ntmps43
    go_upto_region 1 with fail
    have HB0 := Lib.hid B0
    have j0 := (box_of hb).c0
    clear B0 hb
    unfold cellsV at *
    generalize w0.alloc (.cells #[.int .i64 o.kind, .int .u64 (o.bits : Int), .int .u64 (o.high : Int), .int .u64 (o.low : Int), .string ⟨o.text.toArray⟩, .string ⟨o.more.toArray⟩, .int .i64 o.sub, .slice Ab o.bytes.length cb, .slice Ak nk ck] 26) = W at *
    clear hunf
    go_wp2_with fail
    refine (cN.out _).mono ?_
    rintro e w5 ⟨rfl, B5⟩
    have HB5 := Lib.hid (low17 HB0.out B5)
    clear B5
    go_wp2_with fail
    go_ret
    exact ⟨by rw [HR.out]; rfl, HB5.out⟩
  · obtain ⟨n0, n1, hn'⟩ : ∃ c l, nameL o.kind = c :: l := List.exists_cons_of_ne_nil hn
    obtain ⟨h, hh⟩ : ∃ h, h = hasK o.kind := ⟨_, rfl⟩
    obtain ⟨q1, hq1⟩ : ∃ q, q = bad1 h o nk := ⟨_, rfl⟩
    obtain ⟨q2, hq2⟩ : ∃ q, q = bad2 o := ⟨_, rfl⟩
    obtain ⟨q3, hq3⟩ : ∃ q, q = bad3 o := ⟨_, rfl⟩
    have HR : Hid (R = if q1 then 1 else if q2 then 1 else if q3 then 4 else 0) := show _ = _ by rw [hR, hq1, hq2, hq3, hh]; unfold ownE; rw [if_neg hn]
    rw [hn'] at cN
    rw [← hh] at cH
    have HQ1 := Lib.hid hq1
    have HQ2 := Lib.hid hq2
    have HQ3 := Lib.hid hq3
    clear hn hn' hR hh hq1 hq2 hq3
    go_enter Tryd.func43, Tryd.ntmps43
    go_upto_region 1 with fail
    have HB0 := Lib.hid B0
    have Hb := Lib.hid hb
    have j0 := (box_of hb).c0
    clear B0 hb
    unfold cellsV at *
    generalize w0.alloc (.cells #[.int .i64 o.kind, .int .u64 (o.bits : Int), .int .u64 (o.high : Int), .int .u64 (o.low : Int), .string ⟨o.text.toArray⟩, .string ⟨o.more.toArray⟩, .int .i64 o.sub, .slice Ab o.bytes.length cb, .slice Ak nk ck] 26) = W at *
    clear hunf
    go_wp2_with fail
    refine (cN.out _).mono ?_
    rintro e w5 ⟨rfl, B5⟩
    have HB5 := Lib.hid (low17 HB0.out B5)
    have hb5 := (B5.block _ (block_lt Hb.out)).trans Hb.out
    have j1 := (box_of hb5).c0
    have HI : Hid ((fun w => w.heap[w0.heap.size]? = some (.cells (cellsV o Ab cb Ak nk ck).toArray 26) ∧ Below w0.heap.size w0 w) w5) := show (fun w => w.heap[w0.heap.size]? = some (.cells (cellsV o Ab cb Ak nk ck).toArray 26) ∧ Below w0.heap.size w0 w) w5 from ⟨hb5, HB5.out⟩
    clear B5 hb5 cN j0 Hb HB0 HB5
    go_wp2_with fail
    refine (cH.out _).mono ?_
    rintro e w6 ⟨rfl, hw⟩; subst w6
    clear cH j1
    unfold hasTup
    go_upto_region 4 with fail
    go_cut [92] (fun v wx => v = .bool q1 ∧ (fun w => w.heap[w0.heap.size]? = some (.cells (cellsV o Ab cb Ak nk ck).toArray 26) ∧ Below w0.heap.size w0 w) wx)
    case first =>
      refine wp_region_lit ?_
      try simp only [List.append_eq, List.cons_append, List.nil_append]
      refine name_frame fun A hA => ?_
      refine name_ops fun O hO => ?_
      have es : A.tmps.size = 162 := by rw [hA]; rfl
      have a1 : A.eval (.tmp 1) = .pointer (some ⟨w0.heap.size, 0, none⟩) := by rw [hA]; rfl
      have a3 : A.eval (.tmp 3) = .bool h.b := by rw [hA]; rfl
      have a4 : A.eval (.tmp 4) = .bool h.w := by rw [hA]; rfl
      have a5 : A.eval (.tmp 5) = .bool h.t := by rw [hA]; rfl
      have a6 : A.eval (.tmp 6) = .bool h.m := by rw [hA]; rfl
      have a7 : A.eval (.tmp 7) = .bool h.s := by rw [hA]; rfl
      have a8 : A.eval (.tmp 8) = .bool h.y := by rw [hA]; rfl
      have a9 : A.eval (.tmp 9) = .bool h.k := by rw [hA]; rfl
      have m27 : (O[2]?).bind (·.dst) = some 27 := by rw [hO]; rfl
      have m32 : (O[7]?).bind (·.dst) = some 32 := by rw [hO]; rfl
      have m35 : (O[10]?).bind (·.dst) = some 35 := by rw [hO]; rfl
      have m39 : (O[14]?).bind (·.dst) = some 39 := by rw [hO]; rfl
      have m46 : (O[21]?).bind (·.dst) = some 46 := by rw [hO]; rfl
      have m49 : (O[24]?).bind (·.dst) = some 49 := by rw [hO]; rfl
      have m55 : (O[30]?).bind (·.dst) = some 55 := by rw [hO]; rfl
      have m58 : (O[33]?).bind (·.dst) = some 58 := by rw [hO]; rfl
      have m64 : (O[39]?).bind (·.dst) = some 64 := by rw [hO]; rfl
      have m67 : (O[42]?).bind (·.dst) = some 67 := by rw [hO]; rfl
      have m73 : (O[48]?).bind (·.dst) = some 73 := by rw [hO]; rfl
      have m76 : (O[51]?).bind (·.dst) = some 76 := by rw [hO]; rfl
      have m83 : (O[58]?).bind (·.dst) = some 83 := by rw [hO]; rfl
      have m86 : (O[61]?).bind (·.dst) = some 86 := by rw [hO]; rfl
      clear hO
      refine Blk.run (I := (fun w => w.heap[w0.heap.size]? = some (.cells (cellsV o Ab cb Ak nk ck).toArray 26) ∧ Below w0.heap.size w0 w)) (n := 25) (A := A) (gd := none) (lo := 25) (hi := 92) (r := bad1 h o nk) (rest := []) (Blk.or (Blk.or (Blk.or (Blk.or (Blk.or (Blk.or (Blk.and (Blk.not (lo := 25) (x := 3) (r := h.b) ?g2 ?g3 ?g1 ?g4 ?g5 ?g6 ?g7 ?g8 ?g9 ?g10 ?g11) (Blk.three (lo := 28) (x := 1) (r := ((o.bits : Int) != 0)) (y := .pointer (some ⟨w0.heap.size, 1, none⟩)) (z := .int .u64 (o.bits : Int)) ?g13 ?g14 ?g12 ?g15 ?g16 ?g17 ?g18 ?g19 ?g20 ?g21 ?g22 ?g23 ?g24) ?g25 ?g26 ?g27 ?g28 ?g29 ?g30 ?g31) (Blk.and (Blk.not (lo := 33) (x := 4) (r := h.w) ?g33 ?g34 ?g32 ?g35 ?g36 ?g37 ?g38 ?g39 ?g40 ?g41 ?g42) (Blk.or (Blk.three (lo := 36) (x := 1) (r := ((o.high : Int) != 0)) (y := .pointer (some ⟨w0.heap.size, 2, none⟩)) (z := .int .u64 (o.high : Int)) ?g44 ?g45 ?g43 ?g46 ?g47 ?g48 ?g49 ?g50 ?g51 ?g52 ?g53 ?g54 ?g55) (Blk.three (lo := 40) (x := 1) (r := ((o.low : Int) != 0)) (y := .pointer (some ⟨w0.heap.size, 3, none⟩)) (z := .int .u64 (o.low : Int)) ?g57 ?g58 ?g56 ?g59 ?g60 ?g61 ?g62 ?g63 ?g64 ?g65 ?g66 ?g67 ?g68) ?g69 ?g70 ?g71 ?g72 ?g73 ?g74 ?g75) ?g76 ?g77 ?g78 ?g79 ?g80 ?g81 ?g82) ?g83 ?g84 ?g85 ?g86 ?g87 ?g88 ?g89) (Blk.and (Blk.not (lo := 47) (x := 5) (r := h.t) ?g91 ?g92 ?g90 ?g93 ?g94 ?g95 ?g96 ?g97 ?g98 ?g99 ?g100) (Blk.three (lo := 50) (x := 1) (r := (!o.text.isEmpty)) (y := .pointer (some ⟨w0.heap.size, 4, none⟩)) (z := .string ⟨o.text.toArray⟩) ?g102 ?g103 ?g101 ?g104 ?g105 ?g106 ?g107 ?g108 ?g109 ?g110 ?g111 ?g112 ?g113) ?g114 ?g115 ?g116 ?g117 ?g118 ?g119 ?g120) ?g121 ?g122 ?g123 ?g124 ?g125 ?g126 ?g127) (Blk.and (Blk.not (lo := 56) (x := 6) (r := h.m) ?g129 ?g130 ?g128 ?g131 ?g132 ?g133 ?g134 ?g135 ?g136 ?g137 ?g138) (Blk.three (lo := 59) (x := 1) (r := (!o.more.isEmpty)) (y := .pointer (some ⟨w0.heap.size, 5, none⟩)) (z := .string ⟨o.more.toArray⟩) ?g140 ?g141 ?g139 ?g142 ?g143 ?g144 ?g145 ?g146 ?g147 ?g148 ?g149 ?g150 ?g151) ?g152 ?g153 ?g154 ?g155 ?g156 ?g157 ?g158) ?g159 ?g160 ?g161 ?g162 ?g163 ?g164 ?g165) (Blk.and (Blk.not (lo := 65) (x := 7) (r := h.s) ?g167 ?g168 ?g166 ?g169 ?g170 ?g171 ?g172 ?g173 ?g174 ?g175 ?g176) (Blk.three (lo := 68) (x := 1) (r := (o.sub != 0)) (y := .pointer (some ⟨w0.heap.size, 6, none⟩)) (z := .int .i64 o.sub) ?g178 ?g179 ?g177 ?g180 ?g181 ?g182 ?g183 ?g184 ?g185 ?g186 ?g187 ?g188 ?g189) ?g190 ?g191 ?g192 ?g193 ?g194 ?g195 ?g196) ?g197 ?g198 ?g199 ?g200 ?g201 ?g202 ?g203) (Blk.and (Blk.not (lo := 74) (x := 8) (r := h.y) ?g205 ?g206 ?g204 ?g207 ?g208 ?g209 ?g210 ?g211 ?g212 ?g213 ?g214) (Blk.four (lo := 77) (x := 1) (r := decide (0 < o.bytes.length)) (y := .pointer (some ⟨w0.heap.size, 7, none⟩)) (z := .slice Ab o.bytes.length cb) (u := .int .i64 (o.bytes.length : Int)) ?g216 ?g217 ?g215 ?g218 ?g219 ?g220 ?g221 ?g222 ?g223 ?g224 ?g225 ?g226 ?g227 ?g228 ?g229 ?g230) ?g231 ?g232 ?g233 ?g234 ?g235 ?g236 ?g237) ?g238 ?g239 ?g240 ?g241 ?g242 ?g243 ?g244) (Blk.and (Blk.not (lo := 84) (x := 9) (r := h.k) ?g246 ?g247 ?g245 ?g248 ?g249 ?g250 ?g251 ?g252 ?g253 ?g254 ?g255) (Blk.four (lo := 87) (x := 1) (r := decide (0 < nk)) (y := .pointer (some ⟨w0.heap.size, 8, none⟩)) (z := .slice Ak nk ck) (u := .int .i64 (nk : Int)) ?g257 ?g258 ?g256 ?g259 ?g260 ?g261 ?g262 ?g263 ?g264 ?g265 ?g266 ?g267 ?g268 ?g269 ?g270 ?g271) ?g272 ?g273 ?g274 ?g275 ?g276 ?g277 ?g278) ?g279 ?g280 ?g281 ?g282 ?g283 ?g284 ?g285) _ A _ (Keeps.refl _ _) HI.out trivial fun a' w' K' I' _ v' => ?body
      case g1 => exact trivial
      case g2 => decide
      case g3 => rw [es]; decide
      case g4 => decide
      case g5 => exact a3
      case g6 => rfl
      case g7 => rfl
      case g8 => exact rfl
      case g9 => rfl
      case g10 => exact rfl
      case g11 => intro f w h; unfold execOp; generalize f.eval = ρ at *; simp [go_sem, h]
      case g12 => exact (by decide : 27 < 28)
      case g13 => decide
      case g14 => rw [es]; decide
      case g15 => decide
      case g16 => rfl
      case g17 => exact ⟨2, rfl, m27⟩
      case g18 => rfl
      case g19 => exact ⟨2, rfl, m27⟩
      case g20 => rfl
      case g21 => exact ⟨2, rfl, m27⟩
      case g22 => intro f w hi h; rw [a1] at h; unfold execOp; generalize f.eval = ρ at *; simp [go_sem, h]
      case g23 => intro f w hi h; have q := (box_of hi.1).c1; unfold execOp; generalize f.eval = ρ at *; simp [go_sem, h, q]
      case g24 => intro f w hi h; have hc : ∀ v, f.eval (.const v) = v := fun _ => rfl; unfold execOp; generalize f.eval = ρ at *; simp [go_sem, hc, h]
      case g25 => rfl
      case g26 => rfl
      case g27 => exact rfl
      case g28 => rfl
      case g29 => rfl
      case g30 => exact rfl
      case g31 => rw [es]; decide
      case g32 => exact (by decide : 32 < 33)
      case g33 => decide
      case g34 => rw [es]; decide
      case g35 => decide
      case g36 => exact a4
      case g37 => rfl
      case g38 => rfl
      case g39 => exact ⟨7, rfl, m32⟩
      case g40 => rfl
      case g41 => exact ⟨7, rfl, m32⟩
      case g42 => intro f w h; unfold execOp; generalize f.eval = ρ at *; simp [go_sem, h]
      case g43 => exact (by decide : 35 < 36)
      case g44 => decide
      case g45 => rw [es]; decide
      case g46 => decide
      case g47 => rfl
      case g48 => exact ⟨10, rfl, m35⟩
      case g49 => rfl
      case g50 => exact ⟨10, rfl, m35⟩
      case g51 => rfl
      case g52 => exact ⟨10, rfl, m35⟩
      case g53 => intro f w hi h; rw [a1] at h; unfold execOp; generalize f.eval = ρ at *; simp [go_sem, h]
      case g54 => intro f w hi h; have q := (box_of hi.1).c2; unfold execOp; generalize f.eval = ρ at *; simp [go_sem, h, q]
      case g55 => intro f w hi h; have hc : ∀ v, f.eval (.const v) = v := fun _ => rfl; unfold execOp; generalize f.eval = ρ at *; simp [go_sem, hc, h]
      case g56 => exact (by decide : 39 < 40)
      case g57 => decide
      case g58 => rw [es]; decide
      case g59 => decide
      case g60 => rfl
      case g61 => exact ⟨14, rfl, m39⟩
      case g62 => rfl
      case g63 => exact ⟨14, rfl, m39⟩
      case g64 => rfl
      case g65 => exact ⟨14, rfl, m39⟩
      case g66 => intro f w hi h; rw [a1] at h; unfold execOp; generalize f.eval = ρ at *; simp [go_sem, h]
      case g67 => intro f w hi h; have q := (box_of hi.1).c3; unfold execOp; generalize f.eval = ρ at *; simp [go_sem, h, q]
      case g68 => intro f w hi h; have hc : ∀ v, f.eval (.const v) = v := fun _ => rfl; unfold execOp; generalize f.eval = ρ at *; simp [go_sem, hc, h]
      case g69 => rfl
      case g70 => rfl
      case g71 => exact ⟨10, rfl, m35⟩
      case g72 => rfl
      case g73 => rfl
      case g74 => exact ⟨10, rfl, m35⟩
      case g75 => rw [es]; decide
      case g76 => rfl
      case g77 => rfl
      case g78 => exact ⟨7, rfl, m32⟩
      case g79 => rfl
      case g80 => rfl
      case g81 => exact ⟨7, rfl, m32⟩
      case g82 => rw [es]; decide
      case g83 => rfl
      case g84 => rfl
      case g85 => exact rfl
      case g86 => rfl
      case g87 => rfl
      case g88 => exact rfl
      case g89 => rw [es]; decide
      case g90 => exact (by decide : 46 < 47)
      case g91 => decide
      case g92 => rw [es]; decide
      case g93 => decide
      case g94 => exact a5
      case g95 => rfl
      case g96 => rfl
      case g97 => exact ⟨21, rfl, m46⟩
      case g98 => rfl
      case g99 => exact ⟨21, rfl, m46⟩
      case g100 => intro f w h; unfold execOp; generalize f.eval = ρ at *; simp [go_sem, h]
      case g101 => exact (by decide : 49 < 50)
      case g102 => decide
      case g103 => rw [es]; decide
      case g104 => decide
      case g105 => rfl
      case g106 => exact ⟨24, rfl, m49⟩
      case g107 => rfl
      case g108 => exact ⟨24, rfl, m49⟩
      case g109 => rfl
      case g110 => exact ⟨24, rfl, m49⟩
      case g111 => intro f w hi h; rw [a1] at h; unfold execOp; generalize f.eval = ρ at *; simp [go_sem, h]
      case g112 => intro f w hi h; have q := (box_of hi.1).c4; unfold execOp; generalize f.eval = ρ at *; simp [go_sem, h, q]
      case g113 => intro f w hi h; have hc : ∀ v, f.eval (.const v) = v := fun _ => rfl; unfold execOp; generalize f.eval = ρ at *; simp [go_sem, hc, h]
      case g114 => rfl
      case g115 => rfl
      case g116 => exact ⟨21, rfl, m46⟩
      case g117 => rfl
      case g118 => rfl
      case g119 => exact ⟨21, rfl, m46⟩
      case g120 => rw [es]; decide
      case g121 => rfl
      case g122 => rfl
      case g123 => exact rfl
      case g124 => rfl
      case g125 => rfl
      case g126 => exact rfl
      case g127 => rw [es]; decide
      case g128 => exact (by decide : 55 < 56)
      case g129 => decide
      case g130 => rw [es]; decide
      case g131 => decide
      case g132 => exact a6
      case g133 => rfl
      case g134 => rfl
      case g135 => exact ⟨30, rfl, m55⟩
      case g136 => rfl
      case g137 => exact ⟨30, rfl, m55⟩
      case g138 => intro f w h; unfold execOp; generalize f.eval = ρ at *; simp [go_sem, h]
      case g139 => exact (by decide : 58 < 59)
      case g140 => decide
      case g141 => rw [es]; decide
      case g142 => decide
      case g143 => rfl
      case g144 => exact ⟨33, rfl, m58⟩
      case g145 => rfl
      case g146 => exact ⟨33, rfl, m58⟩
      case g147 => rfl
      case g148 => exact ⟨33, rfl, m58⟩
      case g149 => intro f w hi h; rw [a1] at h; unfold execOp; generalize f.eval = ρ at *; simp [go_sem, h]
      case g150 => intro f w hi h; have q := (box_of hi.1).c5; unfold execOp; generalize f.eval = ρ at *; simp [go_sem, h, q]
      case g151 => intro f w hi h; have hc : ∀ v, f.eval (.const v) = v := fun _ => rfl; unfold execOp; generalize f.eval = ρ at *; simp [go_sem, hc, h]
      case g152 => rfl
      case g153 => rfl
      case g154 => exact ⟨30, rfl, m55⟩
      case g155 => rfl
      case g156 => rfl
      case g157 => exact ⟨30, rfl, m55⟩
      case g158 => rw [es]; decide
      case g159 => rfl
      case g160 => rfl
      case g161 => exact rfl
      case g162 => rfl
      case g163 => rfl
      case g164 => exact rfl
      case g165 => rw [es]; decide
      case g166 => exact (by decide : 64 < 65)
      case g167 => decide
      case g168 => rw [es]; decide
      case g169 => decide
      case g170 => exact a7
      case g171 => rfl
      case g172 => rfl
      case g173 => exact ⟨39, rfl, m64⟩
      case g174 => rfl
      case g175 => exact ⟨39, rfl, m64⟩
      case g176 => intro f w h; unfold execOp; generalize f.eval = ρ at *; simp [go_sem, h]
      case g177 => exact (by decide : 67 < 68)
      case g178 => decide
      case g179 => rw [es]; decide
      case g180 => decide
      case g181 => rfl
      case g182 => exact ⟨42, rfl, m67⟩
      case g183 => rfl
      case g184 => exact ⟨42, rfl, m67⟩
      case g185 => rfl
      case g186 => exact ⟨42, rfl, m67⟩
      case g187 => intro f w hi h; rw [a1] at h; unfold execOp; generalize f.eval = ρ at *; simp [go_sem, h]
      case g188 => intro f w hi h; have q := (box_of hi.1).c6; unfold execOp; generalize f.eval = ρ at *; simp [go_sem, h, q]
      case g189 => intro f w hi h; have hc : ∀ v, f.eval (.const v) = v := fun _ => rfl; unfold execOp; generalize f.eval = ρ at *; simp [go_sem, hc, h]
      case g190 => rfl
      case g191 => rfl
      case g192 => exact ⟨39, rfl, m64⟩
      case g193 => rfl
      case g194 => rfl
      case g195 => exact ⟨39, rfl, m64⟩
      case g196 => rw [es]; decide
      case g197 => rfl
      case g198 => rfl
      case g199 => exact rfl
      case g200 => rfl
      case g201 => rfl
      case g202 => exact rfl
      case g203 => rw [es]; decide
      case g204 => exact (by decide : 73 < 74)
      case g205 => decide
      case g206 => rw [es]; decide
      case g207 => decide
      case g208 => exact a8
      case g209 => rfl
      case g210 => rfl
      case g211 => exact ⟨48, rfl, m73⟩
      case g212 => rfl
      case g213 => exact ⟨48, rfl, m73⟩
      case g214 => intro f w h; unfold execOp; generalize f.eval = ρ at *; simp [go_sem, h]
      case g215 => exact (by decide : 76 < 77)
      case g216 => decide
      case g217 => rw [es]; decide
      case g218 => decide
      case g219 => rfl
      case g220 => exact ⟨51, rfl, m76⟩
      case g221 => rfl
      case g222 => exact ⟨51, rfl, m76⟩
      case g223 => rfl
      case g224 => exact ⟨51, rfl, m76⟩
      case g225 => rfl
      case g226 => exact ⟨51, rfl, m76⟩
      case g227 => intro f w hi h; rw [a1] at h; unfold execOp; generalize f.eval = ρ at *; simp [go_sem, h]
      case g228 => intro f w hi h; have q := (box_of hi.1).c7; unfold execOp; generalize f.eval = ρ at *; simp [go_sem, h, q]
      case g229 => intro f w hi h; unfold execOp; generalize f.eval = ρ at *; simp [go_sem, h]
      case g230 => intro f w hi h; have hc : ∀ v, f.eval (.const v) = v := fun _ => rfl; unfold execOp; generalize f.eval = ρ at *; simp [go_sem, hc, h]
      case g231 => rfl
      case g232 => rfl
      case g233 => exact ⟨48, rfl, m73⟩
      case g234 => rfl
      case g235 => rfl
      case g236 => exact ⟨48, rfl, m73⟩
      case g237 => rw [es]; decide
      case g238 => rfl
      case g239 => rfl
      case g240 => exact rfl
      case g241 => rfl
      case g242 => rfl
      case g243 => exact rfl
      case g244 => rw [es]; decide
      case g245 => exact (by decide : 83 < 84)
      case g246 => decide
      case g247 => rw [es]; decide
      case g248 => decide
      case g249 => exact a9
      case g250 => rfl
      case g251 => rfl
      case g252 => exact ⟨58, rfl, m83⟩
      case g253 => rfl
      case g254 => exact ⟨58, rfl, m83⟩
      case g255 => intro f w h; unfold execOp; generalize f.eval = ρ at *; simp [go_sem, h]
      case g256 => exact (by decide : 86 < 87)
      case g257 => decide
      case g258 => rw [es]; decide
      case g259 => decide
      case g260 => rfl
      case g261 => exact ⟨61, rfl, m86⟩
      case g262 => rfl
      case g263 => exact ⟨61, rfl, m86⟩
      case g264 => rfl
      case g265 => exact ⟨61, rfl, m86⟩
      case g266 => rfl
      case g267 => exact ⟨61, rfl, m86⟩
      case g268 => intro f w hi h; rw [a1] at h; unfold execOp; generalize f.eval = ρ at *; simp [go_sem, h]
      case g269 => intro f w hi h; have q := (box_of hi.1).c8; unfold execOp; generalize f.eval = ρ at *; simp [go_sem, h, q]
      case g270 => intro f w hi h; unfold execOp; generalize f.eval = ρ at *; simp [go_sem, h]
      case g271 => intro f w hi h; have hc : ∀ v, f.eval (.const v) = v := fun _ => rfl; unfold execOp; generalize f.eval = ρ at *; simp [go_sem, hc, h]
      case g272 => rfl
      case g273 => rfl
      case g274 => exact ⟨58, rfl, m83⟩
      case g275 => rfl
      case g276 => rfl
      case g277 => exact ⟨58, rfl, m83⟩
      case g278 => rw [es]; decide
      case g279 => rfl
      case g280 => rfl
      case g281 => exact rfl
      case g282 => rfl
      case g283 => rfl
      case g284 => exact rfl
      case g285 => rw [es]; decide
      case body =>
        refine wpList_nil ?_
        have E := frame_split (k := 137) K' es
        rw [show List.range' 25 137 = [25, 26, 27, 28, 29, 30, 31, 32, 33, 34, 35, 36, 37, 38, 39, 40, 41, 42, 43, 44, 45, 46, 47, 48, 49, 50, 51, 52, 53, 54, 55, 56, 57, 58, 59, 60, 61, 62, 63, 64, 65, 66, 67, 68, 69, 70, 71, 72, 73, 74, 75, 76, 77, 78, 79, 80, 81, 82, 83, 84, 85, 86, 87, 88, 89, 90, 91, 92, 93, 94, 95, 96, 97, 98, 99, 100, 101, 102, 103, 104, 105, 106, 107, 108, 109, 110, 111, 112, 113, 114, 115, 116, 117, 118, 119, 120, 121, 122, 123, 124, 125, 126, 127, 128, 129, 130, 131, 132, 133, 134, 135, 136, 137, 138, 139, 140, 141, 142, 143, 144, 145, 146, 147, 148, 149, 150, 151, 152, 153, 154, 155, 156, 157, 158, 159, 160, 161] from rfl, hA] at E
        simp only [List.take_succ_cons, List.take_zero, List.cons_append, List.nil_append, List.map_cons, List.map_nil, v'] at E
        rw [E]
        go_wp2_with fail
        go_meet
        exact ⟨by rw [HQ1.out], I'⟩
    case rest =>
      obtain ⟨rfl, hI⟩ := hcut
      clear HI HQ1
      have HI : Hid ((fun w => w.heap[w0.heap.size]? = some (.cells (cellsV o Ab cb Ak nk ck).toArray 26) ∧ Below w0.heap.size w0 w) wc) := hI
      clear hI
      cases q1
      case true =>
        clear cWt cWm cZt cZm
        go_wp2_with fail
        go_ret
        exact ⟨by rw [HR.out]; rfl, HI.out.2⟩
      case false =>
        go_upto_region 6 with fail
        go_cut [136] (fun v wx => v = .bool q2 ∧ (fun w => w.heap[w0.heap.size]? = some (.cells (cellsV o Ab cb Ak nk ck).toArray 26) ∧ Below w0.heap.size w0 w) wx)
        case first =>
          refine wp_region_lit ?_
          try simp only [List.append_eq, List.cons_append, List.nil_append]
          refine name_frame fun A hA => ?_
          refine name_ops fun O hO => ?_
          have es : A.tmps.size = 162 := by rw [hA]; rfl
          have a1 : A.eval (.tmp 1) = .pointer (some ⟨w0.heap.size, 0, none⟩) := by rw [hA]; rfl
          have m96 : (O[3]?).bind (·.dst) = some 96 := by rw [hO]; rfl
          have m101 : (O[8]?).bind (·.dst) = some 101 := by rw [hO]; rfl
          have m105 : (O[12]?).bind (·.dst) = some 105 := by rw [hO]; rfl
          have m111 : (O[18]?).bind (·.dst) = some 111 := by rw [hO]; rfl
          have m116 : (O[23]?).bind (·.dst) = some 116 := by rw [hO]; rfl
          have m121 : (O[28]?).bind (·.dst) = some 121 := by rw [hO]; rfl
          have m125 : (O[32]?).bind (·.dst) = some 125 := by rw [hO]; rfl
          have m130 : (O[37]?).bind (·.dst) = some 130 := by rw [hO]; rfl
          clear hO
          refine Blk.run (I := (fun w => w.heap[w0.heap.size]? = some (.cells (cellsV o Ab cb Ak nk ck).toArray 26) ∧ Below w0.heap.size w0 w)) (n := 93) (A := A) (gd := none) (lo := 93) (hi := 136) (r := bad2 o) (rest := []) (Blk.or (Blk.or (Blk.or (Blk.or (Blk.and (Blk.three (lo := 93) (x := 1) (r := (o.kind == 16)) (y := .pointer (some ⟨w0.heap.size, 0, none⟩)) (z := .int .i64 o.kind) ?g2 ?g3 ?g1 ?g4 ?g5 ?g6 ?g7 ?g8 ?g9 ?g10 ?g11 ?g12 ?g13) (Blk.three (lo := 97) (x := 1) (r := decide (4294967296 ≤ o.bits)) (y := .pointer (some ⟨w0.heap.size, 1, none⟩)) (z := .int .u64 (o.bits : Int)) ?g15 ?g16 ?g14 ?g17 ?g18 ?g19 ?g20 ?g21 ?g22 ?g23 ?g24 ?g25 ?g26) ?g27 ?g28 ?g29 ?g30 ?g31 ?g32 ?g33) (Blk.and (Blk.three (lo := 102) (x := 1) (r := (o.kind == 8)) (y := .pointer (some ⟨w0.heap.size, 0, none⟩)) (z := .int .i64 o.kind) ?g35 ?g36 ?g34 ?g37 ?g38 ?g39 ?g40 ?g41 ?g42 ?g43 ?g44 ?g45 ?g46) (Blk.three (lo := 106) (x := 1) (r := decide (1 < o.bits)) (y := .pointer (some ⟨w0.heap.size, 1, none⟩)) (z := .int .u64 (o.bits : Int)) ?g48 ?g49 ?g47 ?g50 ?g51 ?g52 ?g53 ?g54 ?g55 ?g56 ?g57 ?g58 ?g59) ?g60 ?g61 ?g62 ?g63 ?g64 ?g65 ?g66) ?g67 ?g68 ?g69 ?g70 ?g71 ?g72 ?g73) (Blk.three (lo := 112) (x := 1) (r := decide (o.sub < 0)) (y := .pointer (some ⟨w0.heap.size, 6, none⟩)) (z := .int .i64 o.sub) ?g75 ?g76 ?g74 ?g77 ?g78 ?g79 ?g80 ?g81 ?g82 ?g83 ?g84 ?g85 ?g86) ?g87 ?g88 ?g89 ?g90 ?g91 ?g92 ?g93) (Blk.three (lo := 117) (x := 1) (r := decide (255 < o.sub)) (y := .pointer (some ⟨w0.heap.size, 6, none⟩)) (z := .int .i64 o.sub) ?g95 ?g96 ?g94 ?g97 ?g98 ?g99 ?g100 ?g101 ?g102 ?g103 ?g104 ?g105 ?g106) ?g107 ?g108 ?g109 ?g110 ?g111 ?g112 ?g113) (Blk.and (Blk.or (Blk.three (lo := 122) (x := 1) (r := (o.kind == 7)) (y := .pointer (some ⟨w0.heap.size, 0, none⟩)) (z := .int .i64 o.kind) ?g115 ?g116 ?g114 ?g117 ?g118 ?g119 ?g120 ?g121 ?g122 ?g123 ?g124 ?g125 ?g126) (Blk.three (lo := 126) (x := 1) (r := (o.kind == 12)) (y := .pointer (some ⟨w0.heap.size, 0, none⟩)) (z := .int .i64 o.kind) ?g128 ?g129 ?g127 ?g130 ?g131 ?g132 ?g133 ?g134 ?g135 ?g136 ?g137 ?g138 ?g139) ?g140 ?g141 ?g142 ?g143 ?g144 ?g145 ?g146) (Blk.four (lo := 131) (x := 1) (r := ((o.bytes.length : Int) != 12)) (y := .pointer (some ⟨w0.heap.size, 7, none⟩)) (z := .slice Ab o.bytes.length cb) (u := .int .i64 (o.bytes.length : Int)) ?g148 ?g149 ?g147 ?g150 ?g151 ?g152 ?g153 ?g154 ?g155 ?g156 ?g157 ?g158 ?g159 ?g160 ?g161 ?g162) ?g163 ?g164 ?g165 ?g166 ?g167 ?g168 ?g169) ?g170 ?g171 ?g172 ?g173 ?g174 ?g175 ?g176) _ A _ (Keeps.refl _ _) HI.out trivial fun a' w' K' I' _ v' => ?body
          case g1 => exact trivial
          case g2 => decide
          case g3 => rw [es]; decide
          case g4 => decide
          case g5 => rfl
          case g6 => exact rfl
          case g7 => rfl
          case g8 => exact rfl
          case g9 => rfl
          case g10 => exact rfl
          case g11 => intro f w hi h; rw [a1] at h; unfold execOp; generalize f.eval = ρ at *; simp [go_sem, h]
          case g12 => intro f w hi h; have q := (box_of hi.1).c0; unfold execOp; generalize f.eval = ρ at *; simp [go_sem, h, q]
          case g13 => intro f w hi h; have hc : ∀ v, f.eval (.const v) = v := fun _ => rfl; unfold execOp; generalize f.eval = ρ at *; simp [go_sem, hc, h]
          case g14 => exact (by decide : 96 < 97)
          case g15 => decide
          case g16 => rw [es]; decide
          case g17 => decide
          case g18 => rfl
          case g19 => exact ⟨3, rfl, m96⟩
          case g20 => rfl
          case g21 => exact ⟨3, rfl, m96⟩
          case g22 => rfl
          case g23 => exact ⟨3, rfl, m96⟩
          case g24 => intro f w hi h; rw [a1] at h; unfold execOp; generalize f.eval = ρ at *; simp [go_sem, h]
          case g25 => intro f w hi h; have q := (box_of hi.1).c1; unfold execOp; generalize f.eval = ρ at *; simp [go_sem, h, q]
          case g26 => intro f w hi h; have hc : ∀ v, f.eval (.const v) = v := fun _ => rfl; unfold execOp; generalize f.eval = ρ at *; simp [go_sem, hc, h]; omega
          case g27 => rfl
          case g28 => rfl
          case g29 => exact rfl
          case g30 => rfl
          case g31 => rfl
          case g32 => exact rfl
          case g33 => rw [es]; decide
          case g34 => exact (by decide : 101 < 102)
          case g35 => decide
          case g36 => rw [es]; decide
          case g37 => decide
          case g38 => rfl
          case g39 => exact ⟨8, rfl, m101⟩
          case g40 => rfl
          case g41 => exact ⟨8, rfl, m101⟩
          case g42 => rfl
          case g43 => exact ⟨8, rfl, m101⟩
          case g44 => intro f w hi h; rw [a1] at h; unfold execOp; generalize f.eval = ρ at *; simp [go_sem, h]
          case g45 => intro f w hi h; have q := (box_of hi.1).c0; unfold execOp; generalize f.eval = ρ at *; simp [go_sem, h, q]
          case g46 => intro f w hi h; have hc : ∀ v, f.eval (.const v) = v := fun _ => rfl; unfold execOp; generalize f.eval = ρ at *; simp [go_sem, hc, h]
          case g47 => exact (by decide : 105 < 106)
          case g48 => decide
          case g49 => rw [es]; decide
          case g50 => decide
          case g51 => rfl
          case g52 => exact ⟨12, rfl, m105⟩
          case g53 => rfl
          case g54 => exact ⟨12, rfl, m105⟩
          case g55 => rfl
          case g56 => exact ⟨12, rfl, m105⟩
          case g57 => intro f w hi h; rw [a1] at h; unfold execOp; generalize f.eval = ρ at *; simp [go_sem, h]
          case g58 => intro f w hi h; have q := (box_of hi.1).c1; unfold execOp; generalize f.eval = ρ at *; simp [go_sem, h, q]
          case g59 => intro f w hi h; have hc : ∀ v, f.eval (.const v) = v := fun _ => rfl; unfold execOp; generalize f.eval = ρ at *; simp [go_sem, hc, h]; omega
          case g60 => rfl
          case g61 => rfl
          case g62 => exact ⟨8, rfl, m101⟩
          case g63 => rfl
          case g64 => rfl
          case g65 => exact ⟨8, rfl, m101⟩
          case g66 => rw [es]; decide
          case g67 => rfl
          case g68 => rfl
          case g69 => exact rfl
          case g70 => rfl
          case g71 => rfl
          case g72 => exact rfl
          case g73 => rw [es]; decide
          case g74 => exact (by decide : 111 < 112)
          case g75 => decide
          case g76 => rw [es]; decide
          case g77 => decide
          case g78 => rfl
          case g79 => exact ⟨18, rfl, m111⟩
          case g80 => rfl
          case g81 => exact ⟨18, rfl, m111⟩
          case g82 => rfl
          case g83 => exact ⟨18, rfl, m111⟩
          case g84 => intro f w hi h; rw [a1] at h; unfold execOp; generalize f.eval = ρ at *; simp [go_sem, h]
          case g85 => intro f w hi h; have q := (box_of hi.1).c6; unfold execOp; generalize f.eval = ρ at *; simp [go_sem, h, q]
          case g86 => intro f w hi h; have hc : ∀ v, f.eval (.const v) = v := fun _ => rfl; unfold execOp; generalize f.eval = ρ at *; simp [go_sem, hc, h]
          case g87 => rfl
          case g88 => rfl
          case g89 => exact rfl
          case g90 => rfl
          case g91 => rfl
          case g92 => exact rfl
          case g93 => rw [es]; decide
          case g94 => exact (by decide : 116 < 117)
          case g95 => decide
          case g96 => rw [es]; decide
          case g97 => decide
          case g98 => rfl
          case g99 => exact ⟨23, rfl, m116⟩
          case g100 => rfl
          case g101 => exact ⟨23, rfl, m116⟩
          case g102 => rfl
          case g103 => exact ⟨23, rfl, m116⟩
          case g104 => intro f w hi h; rw [a1] at h; unfold execOp; generalize f.eval = ρ at *; simp [go_sem, h]
          case g105 => intro f w hi h; have q := (box_of hi.1).c6; unfold execOp; generalize f.eval = ρ at *; simp [go_sem, h, q]
          case g106 => intro f w hi h; have hc : ∀ v, f.eval (.const v) = v := fun _ => rfl; unfold execOp; generalize f.eval = ρ at *; simp [go_sem, hc, h]
          case g107 => rfl
          case g108 => rfl
          case g109 => exact rfl
          case g110 => rfl
          case g111 => rfl
          case g112 => exact rfl
          case g113 => rw [es]; decide
          case g114 => exact (by decide : 121 < 122)
          case g115 => decide
          case g116 => rw [es]; decide
          case g117 => decide
          case g118 => rfl
          case g119 => exact ⟨28, rfl, m121⟩
          case g120 => rfl
          case g121 => exact ⟨28, rfl, m121⟩
          case g122 => rfl
          case g123 => exact ⟨28, rfl, m121⟩
          case g124 => intro f w hi h; rw [a1] at h; unfold execOp; generalize f.eval = ρ at *; simp [go_sem, h]
          case g125 => intro f w hi h; have q := (box_of hi.1).c0; unfold execOp; generalize f.eval = ρ at *; simp [go_sem, h, q]
          case g126 => intro f w hi h; have hc : ∀ v, f.eval (.const v) = v := fun _ => rfl; unfold execOp; generalize f.eval = ρ at *; simp [go_sem, hc, h]
          case g127 => exact (by decide : 125 < 126)
          case g128 => decide
          case g129 => rw [es]; decide
          case g130 => decide
          case g131 => rfl
          case g132 => exact ⟨32, rfl, m125⟩
          case g133 => rfl
          case g134 => exact ⟨32, rfl, m125⟩
          case g135 => rfl
          case g136 => exact ⟨32, rfl, m125⟩
          case g137 => intro f w hi h; rw [a1] at h; unfold execOp; generalize f.eval = ρ at *; simp [go_sem, h]
          case g138 => intro f w hi h; have q := (box_of hi.1).c0; unfold execOp; generalize f.eval = ρ at *; simp [go_sem, h, q]
          case g139 => intro f w hi h; have hc : ∀ v, f.eval (.const v) = v := fun _ => rfl; unfold execOp; generalize f.eval = ρ at *; simp [go_sem, hc, h]
          case g140 => rfl
          case g141 => rfl
          case g142 => exact ⟨28, rfl, m121⟩
          case g143 => rfl
          case g144 => rfl
          case g145 => exact ⟨28, rfl, m121⟩
          case g146 => rw [es]; decide
          case g147 => exact (by decide : 130 < 131)
          case g148 => decide
          case g149 => rw [es]; decide
          case g150 => decide
          case g151 => rfl
          case g152 => exact ⟨37, rfl, m130⟩
          case g153 => rfl
          case g154 => exact ⟨37, rfl, m130⟩
          case g155 => rfl
          case g156 => exact ⟨37, rfl, m130⟩
          case g157 => rfl
          case g158 => exact ⟨37, rfl, m130⟩
          case g159 => intro f w hi h; rw [a1] at h; unfold execOp; generalize f.eval = ρ at *; simp [go_sem, h]
          case g160 => intro f w hi h; have q := (box_of hi.1).c7; unfold execOp; generalize f.eval = ρ at *; simp [go_sem, h, q]
          case g161 => intro f w hi h; unfold execOp; generalize f.eval = ρ at *; simp [go_sem, h]
          case g162 => intro f w hi h; have hc : ∀ v, f.eval (.const v) = v := fun _ => rfl; unfold execOp; generalize f.eval = ρ at *; simp [go_sem, hc, h]
          case g163 => rfl
          case g164 => rfl
          case g165 => exact ⟨28, rfl, m121⟩
          case g166 => rfl
          case g167 => rfl
          case g168 => exact ⟨28, rfl, m121⟩
          case g169 => rw [es]; decide
          case g170 => rfl
          case g171 => rfl
          case g172 => exact rfl
          case g173 => rfl
          case g174 => rfl
          case g175 => exact rfl
          case g176 => rw [es]; decide
          case body =>
            refine wpList_nil ?_
            have E := frame_split (k := 69) K' es
            rw [show List.range' 93 69 = [93, 94, 95, 96, 97, 98, 99, 100, 101, 102, 103, 104, 105, 106, 107, 108, 109, 110, 111, 112, 113, 114, 115, 116, 117, 118, 119, 120, 121, 122, 123, 124, 125, 126, 127, 128, 129, 130, 131, 132, 133, 134, 135, 136, 137, 138, 139, 140, 141, 142, 143, 144, 145, 146, 147, 148, 149, 150, 151, 152, 153, 154, 155, 156, 157, 158, 159, 160, 161] from rfl, hA] at E
            simp only [List.take_succ_cons, List.take_zero, List.cons_append, List.nil_append, List.map_cons, List.map_nil, v'] at E
            rw [E]
            go_wp2_with fail
            go_meet
            exact ⟨by rw [HQ2.out], I'⟩
        case rest =>
          obtain ⟨rfl, hI⟩ := hcut
          clear HI HQ2
          have HI : Hid ((fun w => w.heap[w0.heap.size]? = some (.cells (cellsV o Ab cb Ak nk ck).toArray 26) ∧ Below w0.heap.size w0 w) wc) := hI
          clear hI
          cases q2
          case true =>
            clear cWt cWm cZt cZm
            go_wp2_with fail
            go_ret
            exact ⟨by rw [HR.out]; rfl, HI.out.2⟩
          case false =>
            go_upto_region 8 with fail
            go_cut [161] (fun v wx => v = .bool q3 ∧ (fun w => w.heap[w0.heap.size]? = some (.cells (cellsV o Ab cb Ak nk ck).toArray 26) ∧ Below w0.heap.size w0 w) wx)
            case first =>
              have dWt : ∀ w, (fun w => w.heap[w0.heap.size]? = some (.cells (cellsV o Ab cb Ak nk ck).toArray 26) ∧ Below w0.heap.size w0 w) w → Calls Tryd.prog 54 #[.string ⟨o.text.toArray⟩] w fun e w' => e = .returned (.bool (wholeB o.text)) ∧ (fun w => w.heap[w0.heap.size]? = some (.cells (cellsV o Ab cb Ak nk ck).toArray 26) ∧ Below w0.heap.size w0 w) w' := fun w hi => (cWt.out w).mono (by rintro e w' ⟨h1, B⟩; exact ⟨h1, (B.block _ (block_lt hi.1)).trans hi.1, low17 hi.2 B⟩)
              have dWm : ∀ w, (fun w => w.heap[w0.heap.size]? = some (.cells (cellsV o Ab cb Ak nk ck).toArray 26) ∧ Below w0.heap.size w0 w) w → Calls Tryd.prog 54 #[.string ⟨o.more.toArray⟩] w fun e w' => e = .returned (.bool (wholeB o.more)) ∧ (fun w => w.heap[w0.heap.size]? = some (.cells (cellsV o Ab cb Ak nk ck).toArray 26) ∧ Below w0.heap.size w0 w) w' := fun w hi => (cWm.out w).mono (by rintro e w' ⟨h1, B⟩; exact ⟨h1, (B.block _ (block_lt hi.1)).trans hi.1, low17 hi.2 B⟩)
              have dZt : ∀ w, (fun w => w.heap[w0.heap.size]? = some (.cells (cellsV o Ab cb Ak nk ck).toArray 26) ∧ Below w0.heap.size w0 w) w → Calls Tryd.prog 55 #[.string ⟨o.text.toArray⟩] w fun e w' => e = .returned (.bool (zeroB o.text)) ∧ (fun w => w.heap[w0.heap.size]? = some (.cells (cellsV o Ab cb Ak nk ck).toArray 26) ∧ Below w0.heap.size w0 w) w' := fun w hi => (cZt.out w).mono (by rintro e w' ⟨h1, rfl⟩; exact ⟨h1, hi⟩)
              have dZm : ∀ w, (fun w => w.heap[w0.heap.size]? = some (.cells (cellsV o Ab cb Ak nk ck).toArray 26) ∧ Below w0.heap.size w0 w) w → Calls Tryd.prog 55 #[.string ⟨o.more.toArray⟩] w fun e w' => e = .returned (.bool (zeroB o.more)) ∧ (fun w => w.heap[w0.heap.size]? = some (.cells (cellsV o Ab cb Ak nk ck).toArray 26) ∧ Below w0.heap.size w0 w) w' := fun w hi => (cZm.out w).mono (by rintro e w' ⟨h1, rfl⟩; exact ⟨h1, hi⟩)
              refine wp_region_lit ?_
              try simp only [List.append_eq, List.cons_append, List.nil_append]
              refine name_frame fun A hA => ?_
              refine name_ops fun O hO => ?_
              have es : A.tmps.size = 162 := by rw [hA]; rfl
              have a1 : A.eval (.tmp 1) = .pointer (some ⟨w0.heap.size, 0, none⟩) := by rw [hA]; rfl
              have m141 : (O[4]?).bind (·.dst) = some 141 := by rw [hO]; rfl
              have m147 : (O[10]?).bind (·.dst) = some 147 := by rw [hO]; rfl
              have m151 : (O[14]?).bind (·.dst) = some 151 := by rw [hO]; rfl
              have m155 : (O[18]?).bind (·.dst) = some 155 := by rw [hO]; rfl
              clear hO
              refine Blk.run (I := (fun w => w.heap[w0.heap.size]? = some (.cells (cellsV o Ab cb Ak nk ck).toArray 26) ∧ Below w0.heap.size w0 w)) (n := 137) (A := A) (gd := none) (lo := 137) (hi := 161) (r := bad3 o) (rest := []) (Blk.or (Blk.or (Blk.neg (Blk.call (lo := 137) (x := 1) (r := wholeB o.text) (y := .pointer (some ⟨w0.heap.size, 4, none⟩)) (z := .string ⟨o.text.toArray⟩) (fn := 54) ?g2 ?g3 ?g1 ?g4 ?g5 ?g6 ?g7 ?g8 ?g9 ?g10 ?g11 ?g12 ?g13 ?g14) ?g15 ?g16 ?g17 ?g18) (Blk.neg (Blk.call (lo := 142) (x := 1) (r := wholeB o.more) (y := .pointer (some ⟨w0.heap.size, 5, none⟩)) (z := .string ⟨o.more.toArray⟩) (fn := 54) ?g20 ?g21 ?g19 ?g22 ?g23 ?g24 ?g25 ?g26 ?g27 ?g28 ?g29 ?g30 ?g31 ?g32) ?g33 ?g34 ?g35 ?g36) ?g37 ?g38 ?g39 ?g40 ?g41 ?g42 ?g43) (Blk.and (Blk.three (lo := 148) (x := 1) (r := (o.kind == 11)) (y := .pointer (some ⟨w0.heap.size, 0, none⟩)) (z := .int .i64 o.kind) ?g45 ?g46 ?g44 ?g47 ?g48 ?g49 ?g50 ?g51 ?g52 ?g53 ?g54 ?g55 ?g56) (Blk.or (Blk.call (lo := 152) (x := 1) (r := zeroB o.text) (y := .pointer (some ⟨w0.heap.size, 4, none⟩)) (z := .string ⟨o.text.toArray⟩) (fn := 55) ?g58 ?g59 ?g57 ?g60 ?g61 ?g62 ?g63 ?g64 ?g65 ?g66 ?g67 ?g68 ?g69 ?g70) (Blk.call (lo := 156) (x := 1) (r := zeroB o.more) (y := .pointer (some ⟨w0.heap.size, 5, none⟩)) (z := .string ⟨o.more.toArray⟩) (fn := 55) ?g72 ?g73 ?g71 ?g74 ?g75 ?g76 ?g77 ?g78 ?g79 ?g80 ?g81 ?g82 ?g83 ?g84) ?g85 ?g86 ?g87 ?g88 ?g89 ?g90 ?g91) ?g92 ?g93 ?g94 ?g95 ?g96 ?g97 ?g98) ?g99 ?g100 ?g101 ?g102 ?g103 ?g104 ?g105) _ A _ (Keeps.refl _ _) HI.out trivial fun a' w' K' I' _ v' => ?body
              case g1 => exact trivial
              case g2 => decide
              case g3 => rw [es]; decide
              case g4 => decide
              case g5 => rfl
              case g6 => exact rfl
              case g7 => rfl
              case g8 => exact rfl
              case g9 => rfl
              case g10 => exact rfl
              case g11 => intro f w hi h; rw [a1] at h; unfold execOp; generalize f.eval = ρ at *; simp [go_sem, h]
              case g12 => intro f w hi h; have q := (box_of hi.1).c4; unfold execOp; generalize f.eval = ρ at *; simp [go_sem, h, q]
              case g13 => intro f w hi h; have hc : ∀ g, f.eval (.func g) = .func (.func g) #[] #[] := fun _ => rfl; unfold execOp; generalize f.eval = ρ at *; simp [go_sem, hc, h]
              case g14 => exact dWt
              case g15 => rw [es]; decide
              case g16 => rfl
              case g17 => exact rfl
              case g18 => intro f w h; unfold execOp; generalize f.eval = ρ at *; simp [go_sem, h]
              case g19 => exact (by decide : 141 < 142)
              case g20 => decide
              case g21 => rw [es]; decide
              case g22 => decide
              case g23 => rfl
              case g24 => exact ⟨4, rfl, m141⟩
              case g25 => rfl
              case g26 => exact ⟨4, rfl, m141⟩
              case g27 => rfl
              case g28 => exact ⟨4, rfl, m141⟩
              case g29 => intro f w hi h; rw [a1] at h; unfold execOp; generalize f.eval = ρ at *; simp [go_sem, h]
              case g30 => intro f w hi h; have q := (box_of hi.1).c5; unfold execOp; generalize f.eval = ρ at *; simp [go_sem, h, q]
              case g31 => intro f w hi h; have hc : ∀ g, f.eval (.func g) = .func (.func g) #[] #[] := fun _ => rfl; unfold execOp; generalize f.eval = ρ at *; simp [go_sem, hc, h]
              case g32 => exact dWm
              case g33 => rw [es]; decide
              case g34 => rfl
              case g35 => exact ⟨4, rfl, m141⟩
              case g36 => intro f w h; unfold execOp; generalize f.eval = ρ at *; simp [go_sem, h]
              case g37 => rfl
              case g38 => rfl
              case g39 => exact rfl
              case g40 => rfl
              case g41 => rfl
              case g42 => exact rfl
              case g43 => rw [es]; decide
              case g44 => exact (by decide : 147 < 148)
              case g45 => decide
              case g46 => rw [es]; decide
              case g47 => decide
              case g48 => rfl
              case g49 => exact ⟨10, rfl, m147⟩
              case g50 => rfl
              case g51 => exact ⟨10, rfl, m147⟩
              case g52 => rfl
              case g53 => exact ⟨10, rfl, m147⟩
              case g54 => intro f w hi h; rw [a1] at h; unfold execOp; generalize f.eval = ρ at *; simp [go_sem, h]
              case g55 => intro f w hi h; have q := (box_of hi.1).c0; unfold execOp; generalize f.eval = ρ at *; simp [go_sem, h, q]
              case g56 => intro f w hi h; have hc : ∀ v, f.eval (.const v) = v := fun _ => rfl; unfold execOp; generalize f.eval = ρ at *; simp [go_sem, hc, h]
              case g57 => exact (by decide : 151 < 152)
              case g58 => decide
              case g59 => rw [es]; decide
              case g60 => decide
              case g61 => rfl
              case g62 => exact ⟨14, rfl, m151⟩
              case g63 => rfl
              case g64 => exact ⟨14, rfl, m151⟩
              case g65 => rfl
              case g66 => exact ⟨14, rfl, m151⟩
              case g67 => intro f w hi h; rw [a1] at h; unfold execOp; generalize f.eval = ρ at *; simp [go_sem, h]
              case g68 => intro f w hi h; have q := (box_of hi.1).c4; unfold execOp; generalize f.eval = ρ at *; simp [go_sem, h, q]
              case g69 => intro f w hi h; have hc : ∀ g, f.eval (.func g) = .func (.func g) #[] #[] := fun _ => rfl; unfold execOp; generalize f.eval = ρ at *; simp [go_sem, hc, h]
              case g70 => exact dZt
              case g71 => exact (by decide : 155 < 156)
              case g72 => decide
              case g73 => rw [es]; decide
              case g74 => decide
              case g75 => rfl
              case g76 => exact ⟨18, rfl, m155⟩
              case g77 => rfl
              case g78 => exact ⟨18, rfl, m155⟩
              case g79 => rfl
              case g80 => exact ⟨18, rfl, m155⟩
              case g81 => intro f w hi h; rw [a1] at h; unfold execOp; generalize f.eval = ρ at *; simp [go_sem, h]
              case g82 => intro f w hi h; have q := (box_of hi.1).c5; unfold execOp; generalize f.eval = ρ at *; simp [go_sem, h, q]
              case g83 => intro f w hi h; have hc : ∀ g, f.eval (.func g) = .func (.func g) #[] #[] := fun _ => rfl; unfold execOp; generalize f.eval = ρ at *; simp [go_sem, hc, h]
              case g84 => exact dZm
              case g85 => rfl
              case g86 => rfl
              case g87 => exact ⟨14, rfl, m151⟩
              case g88 => rfl
              case g89 => rfl
              case g90 => exact ⟨14, rfl, m151⟩
              case g91 => rw [es]; decide
              case g92 => rfl
              case g93 => rfl
              case g94 => exact ⟨10, rfl, m147⟩
              case g95 => rfl
              case g96 => rfl
              case g97 => exact ⟨10, rfl, m147⟩
              case g98 => rw [es]; decide
              case g99 => rfl
              case g100 => rfl
              case g101 => exact rfl
              case g102 => rfl
              case g103 => rfl
              case g104 => exact rfl
              case g105 => rw [es]; decide
              case body =>
                refine wpList_nil ?_
                have E := frame_split (k := 25) K' es
                rw [show List.range' 137 25 = [137, 138, 139, 140, 141, 142, 143, 144, 145, 146, 147, 148, 149, 150, 151, 152, 153, 154, 155, 156, 157, 158, 159, 160, 161] from rfl, hA] at E
                simp only [List.take_succ_cons, List.take_zero, List.cons_append, List.nil_append, List.map_cons, List.map_nil, v'] at E
                rw [E]
                go_wp2_with fail
                go_meet
                exact ⟨by rw [HQ3.out], I'⟩
            case rest =>
              obtain ⟨rfl, hI⟩ := hcut
              clear HI HQ3 cWt cWm cZt cZm
              have HI : Hid ((fun w => w.heap[w0.heap.size]? = some (.cells (cellsV o Ab cb Ak nk ck).toArray 26) ∧ Below w0.heap.size w0 w) wc) := hI
              clear hI
              cases q3
              case true =>
                go_wp2_with fail
                go_ret
                exact ⟨by rw [HR.out]; rfl, HI.out.2⟩
              case false =>
                go_wp2_with fail
                go_ret
                exact ⟨by rw [HR.out]; rfl, HI.out.2⟩

end Go.Proofs.YtfpocpmcoobjkaaDoor
