/- An op, and a plan, that came in as arguments. General, over any program. -/
import Derived.Test.YtfghabjpcjcllaaDoorGOpen
import Derived.Test.YtfghabjpcjcllaaDoorDSmall
namespace Go.Proofs.YtfghabjpcjcllaaDoor
open Go.ChangeShapes Go.WideShapes Go.Joins Go.Deep

section
variable {H : Type} {enc : TypeId × Value → H} {P : Program} {w : World} {base : Nat} {held : Bool}
theorem open_op_arg {rr : Reach} {b0 : Nat} {t e : TypeId} {f0 f1 f2 f3 f4 f5 g0 g1 g2 : Field} {v : Value} {d : DataW H} {p : List MemPlace} (ht : P.underlying t = some (.struct #[f0, f1, f2, f3, f4, f5])) (hone : oneCellFields P #[f0, f1, f2, f3, f4, f5] = true) (hC : P.cellsOf t = 6)
    (u0 : P.underlying f0.type = some (.int .i64)) (u1 : P.underlying f1.type = some (.int .i64)) (u2 : P.underlying f2.type = some (.int .i64)) (u3 : P.underlying f3.type = some (.int .i64)) (u4 : P.underlying f4.type = some (.slice e)) (u5 : P.underlying f5.type = some .bool)
    (he : P.underlying e = some (.struct #[g0, g1, g2])) (honeC : oneCellFields P #[g0, g1, g2] = true) (ce : P.cellsOf e = 3) (k0 : P.underlying g0.type = some .bool) (k1 : P.underlying g1.type = some (.int .i64)) (k2 : P.underlying g2.type = some (.int .i64))
    (hv : Value.okWide P w rr b0 t v) (h : DataW.Trod enc P w base (fun _ => true) held t v d p) : ∃ (r : OpV) (o : Opr), v = r.val ∧ ROp w r o := by
  obtain ⟨cs, rfl, hsz⟩ := okWide_struct ht hv
  obtain ⟨fuel, hf⟩ := h
  have hl : cs.toList.length = 6 := by simpa using hsz.trans hC
  obtain ⟨r, o, hr, ho, _⟩ := open_op ht hone hl u0 u1 u2 u3 u4 u5 he honeC ce k0 k1 k2 (show DataW.trod enc P w base (fun _ => true) held fuel t cs.toList = _ from hf)
  refine ⟨r, o, ?_, ho⟩
  have hcs : cs = (encOV r).toArray := by
    apply Array.toList_inj.1
    rw [hr]
  rw [hcs]
  rfl
theorem open_plan_arg {rr : Reach} {b0 : Nat} {tp tl t e : TypeId} {f0 f1 f2 f3 f4 f5 g0 g1 g2 : Field} {v : Value} {d : DataW H} {p : List MemPlace} (hp : P.underlying tp = some (.slice tl)) (cl : P.cellsOf tl = 1) (hs : P.underlying tl = some (.slice t)) (ct : P.cellsOf t = 6) (ht : P.underlying t = some (.struct #[f0, f1, f2, f3, f4, f5])) (hone : oneCellFields P #[f0, f1, f2, f3, f4, f5] = true)
    (u0 : P.underlying f0.type = some (.int .i64)) (u1 : P.underlying f1.type = some (.int .i64)) (u2 : P.underlying f2.type = some (.int .i64)) (u3 : P.underlying f3.type = some (.int .i64)) (u4 : P.underlying f4.type = some (.slice e)) (u5 : P.underlying f5.type = some .bool)
    (he : P.underlying e = some (.struct #[g0, g1, g2])) (honeC : oneCellFields P #[g0, g1, g2] = true) (ce : P.cellsOf e = 3) (k0 : P.underlying g0.type = some .bool) (k1 : P.underlying g1.type = some (.int .i64)) (k2 : P.underlying g2.type = some (.int .i64))
    (hv : Value.okWide P w rr b0 tp v) (h : DataW.Trod enc P w base (fun _ => true) held tp v d p) : ∃ (s : Sl) (q : List (List Opr)), v = s.val ∧ RPlan w s q := by
  obtain ⟨a, len, cap, rfl⟩ := okWide_slice hp hv
  obtain ⟨fuel, hf⟩ := h
  obtain ⟨s, q, hu, hr, _⟩ := open_plan hp cl hs ct ht hone u0 u1 u2 u3 u4 u5 he honeC ce k0 k1 k2 (show DataW.trod enc P w base (fun _ => true) held fuel tp [Value.slice a len cap] = _ from hf)
  exact ⟨s, q, hu, hr⟩
end

end Go.Proofs.YtfghabjpcjcllaaDoor
