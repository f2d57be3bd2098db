/- A slice of structs of three integers that came in: its cells. General, over any program. -/
import Derived.Test.YtenbafkgfdlfpaaRows
import Derived.Deep.Slices
import Derived.ChangeSame
import Derived.ChangeArms
import Derived.Lib.SmallJoins
import Derived.Deep.Fields
namespace Go.Proofs.Ytenbafkgfdlfpaa
open Go.ChangeShapes Go.WideShapes Go.Joins Go.Deep

section
variable {H : Type} {enc : TypeId × Value → H} {P : Program} {w : World} {base : Nat} {held : Bool}
theorem open_trips {t e : TypeId} {f0 f1 f2 : Field} {k0 k1 k2 : IntKind} {fuel : Nat} {cs : List Value} {x : DataW H × List MemPlace} (ht : P.underlying t = some (.slice e)) (he : P.underlying e = some (.struct #[f0, f1, f2])) (hone : oneCellFields P #[f0, f1, f2] = true) (ce : P.cellsOf e = 3)
    (u0 : P.underlying f0.type = some (.int k0)) (u1 : P.underlying f1.type = some (.int k1)) (u2 : P.underlying f2.type = some (.int k2)) (h : DataW.trod enc P w base (fun _ => true) held fuel t cs = some x) :
    cs = [.slice none 0 0] ∨ ∃ (a : Addr) (len cap : Nat), cs = [.slice (some a) len cap] ∧ len ≤ cap ∧ cap ≤ maxLen ∧
      ∀ i, i < cap → ∃ q : Int × Int × Int, w.cell? (a.add (i * 3)) = some (.int k0 q.1) ∧ w.cell? ((a.add (i * 3)).add 1) = some (.int k1 q.2.1) ∧ w.cell? ((a.add (i * 3)).add 2) = some (.int k2 q.2.2) ∧ (Lit.int k0 q.1).wf = true ∧ (Lit.int k1 q.2.1).wf = true ∧ (Lit.int k2 q.2.2).wf = true := by
  rcases Go.Deep.open_slice ht h with ⟨h0, _⟩ | ⟨a, len, cap, m, n, D, Pl, hcs, _, hl, hm, hmm, _, hx⟩
  · exact Or.inl h0
  refine Or.inr ⟨a, len, cap, hcs, hl, hm, fun i hi => ?_⟩
  have hmc : m = cap := by simpa using hmm
  obtain ⟨cs', h1, h2⟩ := hx i (by omega)
  rw [ce] at h1
  obtain ⟨_, hlen, hcell⟩ := World.cells?_some h1
  obtain ⟨ys, n', _, _, _, hyl, hf⟩ := DataW.trod_struct he h2
  obtain ⟨o0, s0⟩ := hone_of hone 0 f0 rfl
  obtain ⟨o1, s1⟩ := hone_of hone 1 f1 rfl
  obtain ⟨o2, s2⟩ := hone_of hone 2 f2 rfl
  match ys, hyl, cs', hlen with
  | [y0, y1, y2], _, [v0, v1, v2], _ =>
    have g0 := hf 0 f0 rfl
    have g1 := hf 1 f1 rfl
    have g2 := hf 2 f2 rfl
    simp [o0, o1, o2, s0, s1, s2] at g0 g1 g2
    have e0 := hcell 0 (by omega)
    have e1 := hcell 1 (by omega)
    have e2 := hcell 2 (by omega)
    obtain ⟨n0, c0, _, w0⟩ := DataW.trod_int u0 g0
    obtain ⟨n1, c1, _, w1⟩ := DataW.trod_int u1 g1
    obtain ⟨n2, c2, _, w2⟩ := DataW.trod_int u2 g2
    obtain rfl := (List.cons.inj c0).1
    obtain rfl := (List.cons.inj c1).1
    obtain rfl := (List.cons.inj c2).1
    refine ⟨(n0, n1, n2), ?_, by simpa using e1, by simpa using e2, w0, w1, w2⟩
    have z : (a.add (i * 3)).add 0 = a.add (i * 3) := by rw [Go.Deep.add_add, Nat.add_zero]
    rw [z] at e0
    simpa using e0
end

/-- A slice of structs of three integers, as a law's frame tells it. -/
def IsTrips (k0 k1 k2 : IntKind) (w : World) (a : Option Addr) (len cap : Nat) (Z : Nat → Int × Int × Int) : Prop :=
  (a = none ∧ len = 0 ∧ cap = 0) ∨ ∃ x, a = some x ∧ len ≤ cap ∧ cap ≤ maxLen ∧ ∀ i, i < cap → w.cell? (x.add (i * 3)) = some (.int k0 (Z i).1) ∧ w.cell? ((x.add (i * 3)).add 1) = some (.int k1 (Z i).2.1) ∧ w.cell? ((x.add (i * 3)).add 2) = some (.int k2 (Z i).2.2) ∧
    (Lit.int k0 (Z i).1).wf = true ∧ (Lit.int k1 (Z i).2.1).wf = true ∧ (Lit.int k2 (Z i).2.2).wf = true

end Go.Proofs.Ytenbafkgfdlfpaa
