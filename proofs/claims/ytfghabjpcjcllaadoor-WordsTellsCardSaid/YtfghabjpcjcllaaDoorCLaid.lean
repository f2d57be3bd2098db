/- What the rows list of package-level variables gives; a wrap that hands on the world's shape beside what is listed; a result that came in. -/
import Derived.Test.YtfghabjpcjcllaaDoorCWld
import Derived.Test.YtfghabjpcjcllaaDoorRows
import Derived.Test.YtfghabjpcjcllaaDoorGOpen
import Derived.HandedShaped
import Derived.Stop.LaidTwo
import Derived.LaidHandle
import Derived.LaidLaws
import Derived.LaidMore
import Derived.Lib.LaidTab
import Derived.Lay
import Derived.Shelf.Vars
import Derived.OpenShut
import Derived.Deep.Grids
import Derived.Lib.SmallJoins
namespace Go.Proofs.YtfghabjpcjcllaaDoor
open Go.ChangeShapes Go.WideShapes Go.RowKit

theorem Tryd.own : ownKnob Tryd.prog.godebug = none := by kernel_rfl
theorem laidOut : laidOutB Tryd.prog = true := by kernel_rfl

/-- An array of strings that reads as listed: cell for cell. -/
theorem cells_of_texts {H : Type} {enc : TypeId × Value → H} {P : Program} {w : World} {base : Nat} {sp : Nat → Bool} {held : Bool} {fuel : Nat} {t e : TypeId} {n : Nat} {cs : List Value} {L : List Tx} {p : List MemPlace}
    (ht : P.underlying t = some (.array n e)) (he : P.underlying e = some .string) (hce : P.cellsOf e = 1) (hL : L.length = n)
    (h : DataW.trod enc P w base sp held fuel t cs = some (.agg (L.map fun x => .lit (.string x)), p)) : ∀ (k : Nat) x, L[k]? = some x → cs[k]? = some (.string (bs x)) := by
  obtain ⟨xs, m, _, ex, _, hl, hel⟩ := DataW.trod_array ht h
  intro k x hx
  have hk : k < n := by rw [← hL]; exact (List.getElem?_eq_some_iff.1 hx).1
  have hE := hel k hk
  rw [hce, Nat.mul_one, List.getElem?_eq_getElem (by omega)] at hE
  obtain ⟨s, e1, e2, _⟩ := DataW.trod_string he hE
  have e3 : (xs.map (·.1)) = L.map fun x => .lit (.string x) := (DataW.agg.inj (Prod.mk.inj ex).1).symm
  have e4 : (xs.map (·.1))[k]? = (L.map fun x => (DataW.lit (.string x) : DataW H))[k]? := by rw [e3]
  rw [List.getElem?_map, List.getElem?_map, hx, List.getElem?_eq_getElem (by omega : k < xs.length), e2] at e4
  simp only [Option.map_some, Option.some.injEq, DataW.lit.injEq, Lit.string.injEq] at e4
  have h0 : ((cs.drop k).take 1)[0]? = some (.string s) := by rw [e1]; rfl
  have hs : s = bs x := by
    apply ByteArray.ext
    show s.data = x.toArray
    rw [← e4]
  subst hs
  simpa using h0
theorem texts_of_head {P : Program} {W : World} {name : String} {L : List Tx} {rest : List (String × DataW Unit)} {g : Nat} {t e : TypeId} {n : Nat}
    (hg : P.globalNamed name = some g) (hty : (P.globals[g]?).map (·.type) = some t) (ht : P.underlying t = some (.array n e)) (he : P.underlying e = some .string) (hce : P.cellsOf e = 1) (hL : L.length = n)
    (h : laidMet P ((name, .agg (L.map fun x => .lit (.string x))) :: rest) W) : ∀ (k : Nat) x, L[k]? = some x → W.cell? ⟨g, k, none⟩ = some (.string (bs x)) := by
  obtain ⟨ps, ⟨g', t', cs, fuel, p, q, hg', ht', hvar, hd, _, _⟩, _⟩ := h
  obtain rfl := Option.some.inj (hg.symm.trans hg')
  obtain rfl := Option.some.inj (hty.symm.trans ht')
  intro k x hx
  have := cells_of_texts ht he hce hL hd k x hx
  rw [World.var?_cell hg hvar k]
  simpa using this

theorem gNames : Tryd.prog.globalNamed "handoff/words.opNames" = some 1 := by kernel_rfl
theorem gCodes : Tryd.prog.globalNamed "handoff/words.codeNames" = some 0 := by kernel_rfl
theorem tNames : (Tryd.prog.globals[1]?).map (·.type) = some 72 := by kernel_rfl
theorem tCodes : (Tryd.prog.globals[0]?).map (·.type) = some 57 := by kernel_rfl
theorem tTab : (Tryd.prog.globals[2]?).map (·.type) = some 100 := by kernel_rfl
theorem cells_s : Tryd.prog.cellsOf 9 = 1 := by kernel_rfl
theorem cells_u : Tryd.prog.cellsOf 74 = 1 := by kernel_rfl
theorem cells_t : Tryd.prog.cellsOf 100 = 20 := by kernel_rfl

/-- What the row of WordsTells lists, of the world ahead of the call. -/
theorem gl0_of_laid {W : World} (h0 : laidMetH Tryd.prog Rows.wordsTellsRow.laid W) : Gl0 W := by
  have h : laidMet Tryd.prog Rows.wordsTellsRow.laid W := by rw [← MakeChecks.laidMetH_plain _ _ _ (by kernel_rfl)]; exact h0
  have h : laidMet Tryd.prog [("math/bits.deBruijn32tab", Rows.laid_math_bits_deBruijn32tab), ("math/bits.deBruijn64tab", Rows.laid_math_bits_deBruijn64tab), ("internal/strconv.uint64pow10", Rows.laid_internal_strconv_uint64pow10), ("handoff/words.opNames", Rows.laid_handoff_words_opNames), ("handoff/words.codeNames", Rows.laid_handoff_words_codeNames)] W := h
  have h1 := h.tail.tail
  have h2 := h1.tail
  have h3 := h2.tail
  exact ⟨texts_of_head (L := codeL) gCodes tCodes Tryd.underlying57 Tryd.underlying9 cells_s rfl h3,
    texts_of_head (L := nameL) gNames tNames Tryd.underlying72 Tryd.underlying9 cells_s rfl h2,
    Lib.tabIs_of_head glob_tab tTab Tryd.underlying100 Tryd.underlying74 cells_u cells_t h1⟩

/-- The wrap, with the world's shape handed on. -/
theorem returns_shaped_and {H : Type} {enc : TypeId × Value → H} {a : Assume} {C : Checked} {os : Os} {f : FuncId} {fn : Func} {s : ChangeSpec} {conds : List PathCond} {apart fresh handsOn again : Bool} {X : World → Array Value → Prop}
    (hX : ∀ (w w' : World) (args : Array Value), w.heap = w'.heap → X w args → X w' args)
    (own : ownKnob C.prog.godebug = none) (started : os.Started) (noInit : C.prog.inits.idxOf? f = none) (hfn : C.prog.funcs[f]? = some fn)
    (witness : ∃ (w : World) (tape : Tape) (i : Input), w.os = os ∧ (w.forCall tape i).Shaped C.prog ∧ i.vars = [] ∧ Input.okWide C.prog (w.forCall tape i) .any w.heap.size f i ∧
      ((s.pre enc C.prog fn conds apart (w.forCall tape i).memory i.args ∧ X (w.forCall tape i).memory i.args) ∧ sizedMet enc C.prog fn (OpenSpec.ofChange s) apart (w.forCall tape i).memory i.args) ∧ a.holds C.prog (lone (Frame.enter C.prog f i.args .normal) [] (w.forCall tape i)))
    (contract : ∀ (W : World) (base : Nat) (args : Array Value) (ds gs : List (DataW H)) (before : List MemPlace),
      (∀ (j : Nat) t v, fn.params[j]? = some t → args[j]? = some v → Value.okWide C.prog W .any base t v) →
      DataW.Whole enc C.prog fn.params.toList s.vars apart W args.toList ds gs before →
      conds.all (PathCond.test C.prog ⟨fn.params.toList, ds, s.plain.varTypes C.prog, gs⟩) = true →
      W.ShapedOpen C.prog → X W args →
      a.holds C.prog (lone (Frame.enter C.prog f args .normal) [] W) →
      Calls C.prog f args W fun e W' => ∃ v, e = .returned v ∧ s.post enc C.prog fn apart fresh handsOn again W args v W') :
    ReturnsInHanded a C os f .any (fun w args => (s.pre enc C.prog fn conds apart w args ∧ X w args) ∧ sizedMet enc C.prog fn (OpenSpec.ofChange s) apart w args) (s.post enc C.prog fn apart fresh handsOn again) := by
  refine returnsInHanded_of_calls own started noInit witness ?_
  intro w tape i _ hsh _ hok hpre hholds
  obtain ⟨_, _, _, fn', hfn', _, _, _, _, hval⟩ := hok
  have e : fn' = fn := Option.some.inj (hfn'.symm.trans hfn)
  subst e
  obtain ⟨⟨⟨ds, gs, before, hw, hc⟩, hx⟩, hz⟩ := hpre
  have hw' := DataW.Whole.of_heap (w' := w.forCall tape i) (by rfl) hw
  refine (contract (w.forCall tape i) w.heap.size i.args ds gs before hval hw' hc hsh (hX _ _ _ (by rfl) hx) hholds).mono fun e W' ⟨v, he, hp⟩ => ?_
  subst he
  exact ChangeSpec.post_blind hp

open Go.Joins Go.Deep in
/-- A result that came in: three integers, a bool, an integer, of five cells. -/
theorem open_res_arg {H : Type} {enc : TypeId × Value → H} {P : Program} {w : World} {base b0 : Nat} {held : Bool} {rr : Reach} {t : TypeId} {f0 f1 f2 f3 f4 : Field} {v : Value} {d : DataW H} {p : List MemPlace}
    (ht : P.underlying t = some (.struct #[f0, f1, f2, f3, f4])) (hone : oneCellFields P #[f0, f1, f2, f3, f4] = true) (hC : P.cellsOf t = 5)
    (u0 : P.underlying f0.type = some (.int .i64)) (u1 : P.underlying f1.type = some (.int .i64)) (u2 : P.underlying f2.type = some (.int .i64)) (u3 : P.underlying f3.type = some .bool) (u4 : P.underlying f4.type = some (.int .i64))
    (hv : Value.okWide P w rr b0 t v) (h : DataW.Trod enc P w base (fun _ => true) held t v d p) : ∃ (n0 n1 n2 : Int) (b : Bool) (n4 : Int), v = .agg #[.int .i64 n0, .int .i64 n1, .int .i64 n2, .bool b, .int .i64 n4] ∧ W64 n0 ∧ W64 n1 ∧ W64 n2 ∧ W64 n4 := by
  obtain ⟨cs, rfl, hsz⟩ := okWide_struct ht hv
  obtain ⟨fuel, hf⟩ := h
  have hl : cs.toList.length = 5 := by simpa using hsz.trans hC
  obtain ⟨ys, n', _, _, _, hyl, hf⟩ := DataW.trod_struct ht (show DataW.trod enc P w base (fun _ => true) held fuel t cs.toList = _ from hf)
  obtain ⟨o0, s0⟩ := hone_of hone 0 f0 rfl
  obtain ⟨o1, s1⟩ := hone_of hone 1 f1 rfl
  obtain ⟨o2, s2⟩ := hone_of hone 2 f2 rfl
  obtain ⟨o3, s3⟩ := hone_of hone 3 f3 rfl
  obtain ⟨o4, s4⟩ := hone_of hone 4 f4 rfl
  obtain ⟨l⟩ := cs
  simp only at hl hf
  match ys, hyl, l, hl with
  | [y0, y1, y2, y3, y4], _, [v0, v1, v2, v3, v4], _ =>
    have q0 := hf 0 f0 rfl
    have q1 := hf 1 f1 rfl
    have q2 := hf 2 f2 rfl
    have q3 := hf 3 f3 rfl
    have q4 := hf 4 f4 rfl
    simp [o0, o1, o2, o3, o4, s0, s1, s2, s3, s4] at q0 q1 q2 q3 q4
    obtain ⟨n0, c0, _, w0⟩ := DataW.trod_int u0 q0
    obtain ⟨n1, c1, _, w1⟩ := DataW.trod_int u1 q1
    obtain ⟨n2, c2, _, w2⟩ := DataW.trod_int u2 q2
    obtain ⟨b3, c3, _⟩ := DataW.trod_bool u3 q3
    obtain ⟨n4, c4, _, w4⟩ := DataW.trod_int u4 q4
    obtain rfl := (List.cons.inj c0).1
    obtain rfl := (List.cons.inj c1).1
    obtain rfl := (List.cons.inj c2).1
    obtain rfl := (List.cons.inj c3).1
    obtain rfl := (List.cons.inj c4).1
    exact ⟨n0, n1, n2, b3, n4, rfl, .of w0, .of w1, .of w2, .of w4⟩

theorem gSyn : Tryd.prog.globalNamed "strconv.ErrSyntax" = some 8 := by kernel_rfl
theorem gRng : Tryd.prog.globalNamed "strconv.ErrRange" = some 9 := by kernel_rfl
theorem tSyn : (Tryd.prog.globals[8]?).map (·.type) = some 47 := by kernel_rfl
theorem tRng : (Tryd.prog.globals[9]?).map (·.type) = some 47 := by kernel_rfl
theorem cells_e : Tryd.prog.cellsOf 141 = 1 := by kernel_rfl
theorem star : "*" ++ "errors.errorString" = "*errors.errorString" := by decide
theorem row_pe (u : TypeId) (h : Tryd.prog.typeName? 3 u = some "*errors.errorString") : u = 139 :=
  typeName_ptr_named (nm := "errors.errorString") (by rw [star]; kernel_rfl) (by kernel_rfl) (by decide) u (by rw [star]; exact h)
/-- What the other two rows list. -/
def laidL : List (String × DataW Unit) := [("math/bits.deBruijn32tab", Rows.laid_math_bits_deBruijn32tab), ("math/bits.deBruijn64tab", Rows.laid_math_bits_deBruijn64tab), ("internal/strconv.uint64pow10", Rows.laid_internal_strconv_uint64pow10), ("unicode/utf8.acceptRanges", Rows.laid_unicode_utf8_acceptRanges), ("strconv.ErrRange", Rows.laid_strconv_ErrRange), ("strconv.ErrSyntax", Rows.laid_strconv_ErrSyntax), ("handoff/words.opNames", Rows.laid_handoff_words_opNames), ("handoff/words.codeNames", Rows.laid_handoff_words_codeNames), ("unicode/utf8.first", Rows.laid_unicode_utf8_first)]
theorem gl_of_laid {W : World} (h0 : laidMetH Tryd.prog laidL W) (hsh : W.ShapedOpen Tryd.prog) : Gl W := by
  have h : laidMet Tryd.prog laidL W := by rw [← MakeChecks.laidMetH_plain _ _ _ (by kernel_rfl)]; exact h0
  have h2 := h.tail.tail
  have h4 := h2.tail.tail
  have h6 := h4.tail.tail
  have h7 := h6.tail
  obtain ⟨a0, a1, s0, s1, b0, b1, t0, t1, hv0, hv1, _⟩ := laid_sentinels2 h4 gRng tRng gSyn tSyn Tryd.underlying47 row_pe Tryd.underlying139 Tryd.underlying141 rfl rfl Tryd.underlying9 cells_e cells_s
  exact ⟨⟨texts_of_head (L := codeL) gCodes tCodes Tryd.underlying57 Tryd.underlying9 cells_s rfl h7,
    texts_of_head (L := nameL) gNames tNames Tryd.underlying72 Tryd.underlying9 cells_s rfl h6,
    Lib.tabIs_of_head glob_tab tTab Tryd.underlying100 Tryd.underlying74 cells_u cells_t h2⟩,
    cell_of_shapedOpen_int (zero := #[.int .i64 0]) (t := 3) hsh (of_decide_eq_true (by kernel_rfl)) (by kernel_rfl) rfl (by kernel_rfl) (by kernel_rfl) Tryd.underlying3,
    ⟨_, by simpa using World.var?_cell gSyn hv1 0, Or.inr ⟨_, _, rfl⟩⟩,
    ⟨_, by simpa using World.var?_cell gRng hv0 0, Or.inr ⟨_, _, rfl⟩⟩⟩
end Go.Proofs.YtfghabjpcjcllaaDoor
