/- A region that draws, walked by GTill: an operation whose guard says no. General, over any program. -/
import Derived.Test.YtenbafkgfdlfpaaGRest
namespace Go.Proofs.Ytenbafkgfdlfpaa
open Go.RowKit

section
variable {P : Program} {ops : Array Oper} {Q : Exit → Act → World → Prop} {md : Region.Mode} {m1 m2 : Nat} {A1 A2 : World → Prop}
/-- An operation that isn't wanted: of whatever kind, a call too. -/
theorem stand_skip {i : Nat} {oi : Oper} {rs : List Oper} {n d : Nat} {l : Array Bool} {L : List Value} {ds} {w : World} (hi' : ops.toList.drop i = oi :: rs) (hs : Region.noSelect ops = true) (hf : Region.free md ops l i = true) (hr : (Region.ready md ops l).contains i = true)
    (hd : oi.dst = some d) (hQ : ∀ c a w, Q (.panic c) (a.put (some d) undef) w → Q (.panic c) a w) (h1 : i ≠ m1) (h2 : i ≠ m2) (hw : Region.wanted oi (yielded ops L.toArray) = false)
    (h : Stand P md ops Q m1 A1 m2 A2 n (l.setIfInBounds i true) ⟨(L.set d undef).toArray, ds⟩ w) : Stand P md ops Q m1 A1 m2 A2 (n + 1) l ⟨L.toArray, ds⟩ w := fun k t => by
  have hi := nth_of hi'
  rw [← put_laid, ← hd] at h
  rw [← hd] at hQ
  have hr' : i ∈ Region.ready md ops l := by simpa using hr
  exact till_first (B := fun _ => True) hi hs hQ h1 h2 (fun _ _ _ _ _ => trivial) n l _ w k t (Region.free_spec hi hf) hr' (Or.inr ⟨hw, rfl⟩) (h (k.set hr') (t.set h1 h2))
end

end Go.Proofs.Ytenbafkgfdlfpaa
