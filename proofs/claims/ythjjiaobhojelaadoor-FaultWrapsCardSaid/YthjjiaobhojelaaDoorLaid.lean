/- What the rows list of package-level variables gives; a world that meets it; arrays that came in. -/
import Derived.Test.YthjjiaobhojelaaDoorWld
import Derived.Test.YthjjiaobhojelaaDoorRows
import Derived.Stop.LaidTwo
import Derived.LaidHandle
import Derived.LaidLaws
import Derived.Lib.LaidTab
import Derived.OpenShut
import Derived.Deep.SlicePairs
import Derived.Deep.Grids
import Derived.Lib.SmallJoins
namespace Go.Proofs.YthjjiaobhojelaaDoor
open Go.ChangeShapes Go.WideShapes Go.RowKit

theorem Tryd.own : ownKnob Tryd.prog.godebug = none := by kernel_rfl
theorem laidOut : laidOutB Tryd.prog = true := by kernel_rfl
theorem g0 : Tryd.prog.globalNamed "handoff/fault.ErrSend" = some 0 := by kernel_rfl
theorem g1 : Tryd.prog.globalNamed "handoff/fault.ErrClose" = some 1 := by kernel_rfl
theorem g2 : Tryd.prog.globalNamed "handoff/fault.ErrNil" = some 2 := by kernel_rfl
theorem g3 : Tryd.prog.globalNamed "errors.errorType" = some 3 := by kernel_rfl
theorem g0t : (Tryd.prog.globals[0]?).map (·.type) = some 24 := by kernel_rfl
theorem g1t : (Tryd.prog.globals[1]?).map (·.type) = some 24 := by kernel_rfl
theorem g2t : (Tryd.prog.globals[2]?).map (·.type) = some 24 := by kernel_rfl
theorem g4t : (Tryd.prog.globals[4]?).map (·.type) = some 98 := by kernel_rfl
theorem cells_e : Tryd.prog.cellsOf 125 = 1 := by kernel_rfl
theorem cells_s : Tryd.prog.cellsOf 9 = 1 := by kernel_rfl
theorem cells_u : Tryd.prog.cellsOf 85 = 1 := by kernel_rfl
theorem cells_t : Tryd.prog.cellsOf 98 = 20 := by kernel_rfl
theorem star : "*" ++ "errors.errorString" = "*errors.errorString" := by decide
theorem row_pe (u : TypeId) (h : Tryd.prog.typeName? 3 u = some "*errors.errorString") : u = 106 :=
  typeName_ptr_named (nm := "errors.errorString") (by rw [star]; kernel_rfl) (by kernel_rfl) (by decide) u (by rw [star]; exact h)
theorem rt : (Tryd.prog.cutTypes.find? (·.1 == "internal/reflectlite.rtype")).map (·.2) = some 72 := by kernel_rfl
theorem one_row : ((List.range 137).filter fun t => Tryd.prog.rowNamed t [101, 114, 114, 111, 114]) = [24] := by kernel_rfl
theorem types_size : Tryd.prog.types.size = 137 := by kernel_rfl

/-- What a listed variable behind the first one says stands without it. -/
theorem laidMet_skip {P : Program} {x y : String × DataW Unit} {r : List (String × DataW Unit)} {w : World} (h : laidMet P (x :: y :: r) w) : laidMet P (x :: r) w := by
  obtain ⟨ps, ⟨g0, t0, cs0, f0, p0, q0, hg0, ht0, hv0, hd0, ⟨g1, t1, cs1, f1, p1, q1, hg1, ht1, hv1, hd1, hq1, e1⟩, e0⟩, hnd, hrows⟩ := h
  subst e1
  subst e0
  refine ⟨_, ⟨g0, t0, cs0, f0, p0, q1, hg0, ht0, hv0, hd0, hq1, rfl⟩, ?_, fun b off hb => hrows b off ?_⟩
  · simp only [List.nodup_append, List.mem_append] at hnd ⊢
    grind
  · simp only [List.mem_append] at hb ⊢
    grind

theorem text_of {s : ByteArray} {k : Nat} (h : s.data.toList = textL k) : s = textS k := by
  apply ByteArray.ext
  show s.data = (textL k).toArray
  rw [← h]

/-- What the rows list, of the world ahead of the call. -/
theorem glob_of_laid {W : World} (h : laidMetH Tryd.prog Rows.faultTellsRow.laid W) : ∃ A, Glob W A := by
  have h' : laidMet Tryd.prog [("math/bits.deBruijn32tab", Rows.laid_math_bits_deBruijn32tab), ("math/bits.deBruijn64tab", Rows.laid_math_bits_deBruijn64tab), ("internal/strconv.uint64pow10", Rows.laid_internal_strconv_uint64pow10), ("handoff/fault.ErrSend", Rows.laid_handoff_fault_ErrSend), ("handoff/fault.ErrClose", Rows.laid_handoff_fault_ErrClose), ("handoff/fault.ErrNil", Rows.laid_handoff_fault_ErrNil)] W ∧ handlesMet Tryd.prog [("errors.errorType", Rows.laid_errors_errorType)] W := h
  obtain ⟨hm, hh⟩ := h'
  have ht := hm.tail.tail
  have hs := ht.tail
  have tab : Lib.TabIs Tryd.prog W "internal/strconv.uint64pow10" .u64 Lib.pow10Tab := Lib.tabIs_of_head glob_tab g4t Tryd.underlying98 Tryd.underlying85 cells_u cells_t ht
  obtain ⟨a0, a1, s0, s1, b0, b1, t0, t1, hv0, hv1, hc0, hs0, _, hc1, hs1, _, hne01, hb0, hb1⟩ := laid_sentinels2 hs g0 g0t g1 g1t Tryd.underlying24 row_pe Tryd.underlying106 Tryd.underlying125 rfl rfl Tryd.underlying9 cells_e cells_s
  obtain ⟨a1', a2, s1', s2, b1', b2, t1', t2, hv1', hv2, _, _, _, hc2, hs2, _, hne12, _, hb2⟩ := laid_sentinels2 hs.tail g1 g1t g2 g2t Tryd.underlying24 row_pe Tryd.underlying106 Tryd.underlying125 rfl rfl Tryd.underlying9 cells_e cells_s
  obtain ⟨a0', a2', s0', s2', b0', b2', t0', t2', hv0', hv2', _, _, _, _, _, _, hne02, _, _⟩ := laid_sentinels2 (laidMet_skip hs) g0 g0t g2 g2t Tryd.underlying24 row_pe Tryd.underlying106 Tryd.underlying125 rfl rfl Tryd.underlying9 cells_e cells_s
  have same : ∀ {x y : Addr}, some #[Value.iface 106 (.pointer (some x))] = some #[Value.iface 106 (.pointer (some y))] → x = y := fun {x y} e => by
    simpa using e
  obtain rfl := same (hv1.symm.trans hv1')
  obtain rfl := same (hv0.symm.trans hv0')
  obtain rfl := same (hv2.symm.trans hv2')
  obtain ⟨name, u, ty, e1, e2, e3, e4, e5⟩ := hh _ (List.mem_singleton.2 rfl)
  have en : name = [101, 114, 114, 111, 114] := (Option.some.inj e1).symm
  subst en
  obtain rfl := Option.some.inj (rt.symm.trans e2)
  have hmem : ty ∈ (List.range 137).filter fun t => Tryd.prog.rowNamed t [101, 114, 114, 111, 114] := List.mem_filter.2 ⟨List.mem_range.2 (by rw [← types_size]; exact e3), e4⟩
  rw [one_row] at hmem
  obtain rfl := List.mem_singleton.1 hmem
  have hhd : typeHandle Tryd.prog 24 = .pointer (some ⟨7, 24, none⟩) := by kernel_rfl
  rw [hhd] at e5
  rw [text_of (k := 0) hs0] at hc0
  rw [text_of (k := 1) hs1] at hc1
  rw [text_of (k := 2) hs2] at hc2
  refine ⟨fun | 0 => a0 | 1 => a1 | _ => a2, by simpa using World.var?_cell g0 hv0 0, by simpa using World.var?_cell g1 hv1 0, by simpa using World.var?_cell g2 hv2 0, by simpa using World.var?_cell g3 e5 0, tab, ?_, ?_, ?_⟩
  · intro k hk
    match k, hk with
    | 0, _ => exact hc0
    | 1, _ => exact hc1
    | 2, _ => exact hc2
  · intro k hk
    match k, hk with
    | 0, _ => exact ⟨_, _, hb0⟩
    | 1, _ => exact ⟨_, _, hb1⟩
    | 2, _ => exact ⟨_, _, hb2⟩
  · intro i j hi hj hij
    match i, hi, j, hj with
    | 0, _, 1, _ => exact hne01
    | 0, _, 2, _ => exact hne02
    | 1, _, 2, _ => exact hne12
    | 1, _, 0, _ => exact hne01.symm
    | 2, _, 0, _ => exact hne02.symm
    | 2, _, 1, _ => exact hne12.symm
    | 0, _, 0, _ => exact absurd rfl hij
    | 1, _, 1, _ => exact absurd rfl hij
    | 2, _, 2, _ => exact absurd rfl hij

/-- A world that meets what the rows list: the settled one, the variables laid. -/
noncomputable def low : Nat := (World.holding Tryd.prog default ⟨#[], #[], []⟩).heap.size
def put (cs : Array Value) : Obj → Obj
  | .cells _ t frozen => .cells cs t frozen
  | o => o
def ints (k : IntKind) (zs : List Int) : Array Value := (zs.map (Value.int k)).toArray
noncomputable def laidWorld (os : Os) : World :=
  let w0 := World.holding Tryd.prog os ⟨#[.cells #[.string (textS 0)] 125, .cells #[.string (textS 1)] 125, .cells #[.string (textS 2)] 125], #[], []⟩
  let h0 := w0.heap.modify 0 (put #[.iface 106 (.pointer (some ⟨low, 0, none⟩))])
  let h1 := h0.modify 1 (put #[.iface 106 (.pointer (some ⟨low + 1, 0, none⟩))])
  let h2 := h1.modify 2 (put #[.iface 106 (.pointer (some ⟨low + 2, 0, none⟩))])
  let h3 := h2.modify 3 (put #[.iface 72 (.agg #[.pointer (some ⟨7, 24, none⟩)])])
  let h4 := h3.modify 4 (put (ints .u64 Lib.pow10Tab))
  let h5 := h4.modify 5 (put (ints .u8 [0, 1, 28, 2, 29, 14, 24, 3, 30, 22, 20, 15, 25, 17, 4, 8, 31, 27, 13, 23, 21, 19, 16, 7, 26, 12, 18, 6, 11, 5, 10, 9]))
  let h6 := h5.modify 6 (put (ints .u8 [0, 1, 56, 2, 57, 49, 28, 3, 61, 58, 42, 50, 38, 29, 17, 4, 62, 47, 59, 36, 45, 43, 51, 22, 53, 39, 33, 30, 24, 18, 12, 5, 63, 55, 48, 27, 60, 41, 37, 16, 46, 35, 44, 21, 52, 32, 23, 11, 54, 26, 40, 15, 34, 20, 31, 10, 25, 14, 19, 9, 13, 8, 7, 6]))
  { w0 with heap := h6 }
theorem laidWorld_met (os : Os) (args : Array Value) : laidMetH Tryd.prog Rows.faultTellsRow.laid ((laidWorld os).forCall (fun _ _ => 0) ⟨#[], args, []⟩).memory :=
  laidMetH_of_parts (laidMet_of_run' 8 (by kernel_rfl) (by kernel_rfl)) (by kernel_rfl)

/-- An array of three integers that came in. -/
theorem open_arr3 {H : Type} {enc : TypeId × Value → H} {P : Program} {w : World} {base b0 : Nat} {spare : Nat → Bool} {held : Bool} {r : Reach} {t e : TypeId} {k : IntKind} {v : Value} {d : DataW H} {p : List MemPlace} (ht : P.underlying t = some (.array 3 e)) (he : P.underlying e = some (.int k)) (ct : P.cellsOf t = 3) (ce : P.cellsOf e = 1)
    (hv : Value.okWide P w r b0 t v) (h : DataW.Trod enc P w base spare held t v d p) : ∃ a b c : Int, v = .agg #[.int k a, .int k b, .int k c] ∧ (Lit.int k a).wf = true ∧ (Lit.int k b).wf = true ∧ (Lit.int k c).wf = true := by
  unfold Value.okWide at hv
  rw [ht] at hv
  obtain ⟨cs, rfl, hsz, _⟩ := hv
  rw [ct] at hsz
  obtain ⟨c0, c1, c2, rfl⟩ := Joins.array3 hsz
  obtain ⟨fuel, hf⟩ := h
  obtain ⟨y0, y1, y2, n, _, h0, h1, h2⟩ := trod_array3 ht ce (show DataW.trod enc P w base spare held fuel t [c0, c1, c2] = some (d, p) from hf)
  obtain ⟨n0, e0, _, w0⟩ := DataW.trod_int he h0
  obtain ⟨n1, e1, _, w1⟩ := DataW.trod_int he h1
  obtain ⟨n2, e2, _, w2⟩ := DataW.trod_int he h2
  obtain rfl := (List.cons.inj e0).1
  obtain rfl := (List.cons.inj e1).1
  obtain rfl := (List.cons.inj e2).1
  exact ⟨n0, n1, n2, rfl, w0, w1, w2⟩
/-- A slice of arrays of two integers that came in. -/
theorem open_twos {H : Type} {enc : TypeId × Value → H} {P : Program} {w : World} {base : Nat} {held : Bool} {fuel : Nat} {t e u : TypeId} {k : IntKind} {ao : Option Addr} {len cap : Nat} {x : DataW H × List MemPlace} (ht : P.underlying t = some (.slice e)) (he : P.underlying e = some (.array 2 u)) (hu : P.underlying u = some (.int k)) (ce : P.cellsOf e = 2) (cu : P.cellsOf u = 1)
    (h : DataW.trod enc P w base (fun _ => true) held fuel t [.slice ao len cap] = some x) : len = 0 ∨ ∃ a, ao = some a ∧ ∀ i, i < len → ∃ q : Int × Int, w.cell? (a.add (i * 2)) = some (.int k q.1) ∧ w.cell? ((a.add (i * 2)).add 1) = some (.int k q.2) := by
  rcases Go.Deep.open_slice ht h with ⟨h0, _⟩ | ⟨a, l, c, m, n, D, Pl, hcs, _, hl, _, hmm, _, hx⟩
  · left
    simp at h0
    exact h0.2.1
  right
  simp at hcs
  obtain ⟨rfl, rfl, rfl⟩ := hcs
  refine ⟨a, rfl, fun i hi => ?_⟩
  have hmc : m = cap := by simpa using hmm
  obtain ⟨cs', h1, h2⟩ := hx i (by omega)
  rw [ce] at h1
  obtain ⟨_, hlen, hcell⟩ := World.cells?_some h1
  obtain ⟨ys, n', _, _, _, hyl, hf⟩ := DataW.trod_array he h2
  rw [cu] at hf
  match ys, hyl, cs', hlen with
  | [y0, y1], _, [v0, v1], _ =>
    have k0 := hf 0 (by omega)
    have k1 := hf 1 (by omega)
    simp at k0 k1
    have e0 := hcell 0 (by omega)
    have e1 := hcell 1 (by omega)
    obtain ⟨n0, c0, _, _⟩ := DataW.trod_int hu k0
    obtain ⟨n1, c1, _, _⟩ := DataW.trod_int hu k1
    obtain rfl := (List.cons.inj c0).1
    obtain rfl := (List.cons.inj c1).1
    exact ⟨(n0, n1), by simpa [Addr.add] using e0, by simpa using e1⟩

end Go.Proofs.YthjjiaobhojelaaDoor
