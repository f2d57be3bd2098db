/- What a right op, a right case has. Pure mathematics; cut out of s10. -/
import Derived.Test.YtfghabjpcjcllaaDoorSame
namespace Go.Proofs.YtfghabjpcjcllaaDoor

theorem rightC_in {x : Cas} (h : rightC x = true) : 0 ≤ x.ch ∧ x.ch ≤ 8 ∧ 0 ≤ x.v ∧ x.v ≤ 255 := by
  unfold rightC at h
  simp at h
  omega
theorem rightO_has {o : Opr} (h : rightO o = true) : 1 ≤ o.kind ∧ o.kind ≤ 9 ∧ 0 ≤ o.ch ∧ o.ch ≤ 8 ∧ 0 ≤ o.n ∧ o.n ≤ 4 ∧ 0 ≤ o.v ∧ o.v ≤ 255 ∧ o.cases.length ≤ 6 ∧ (hasCh o.kind = true ∨ o.ch = 0) ∧ (hasV o.kind = true ∨ o.v = 0) ∧ (o.kind = 1 ∨ o.n = 0) ∧ (o.kind = 9 ∨ (o.els = false ∧ o.cases.length = 0)) ∧ o.cases.all rightC = true := by
  unfold rightO rightF at h
  rw [Bool.and_eq_true] at h
  obtain ⟨h, hc⟩ := h
  simp only [Bool.and_eq_true, Bool.or_eq_true, decide_eq_true_eq, beq_iff_eq, Bool.not_eq_true'] at h
  grind

end Go.Proofs.YtfghabjpcjcllaaDoor
