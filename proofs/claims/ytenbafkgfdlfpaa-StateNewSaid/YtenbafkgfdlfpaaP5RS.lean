/- The document's pool in memory: what is read of it. -/
import Derived.Test.YtenbafkgfdlfpaaP5Math
namespace Go.Proofs.Ytenbafkgfdlfpaa.R5
open Go.RowKit
set_option linter.unusedVariables false

/-- The document's pool: where its rows lie; all of it in blocks of D. -/
structure RS (w : World) (s : St) (ca : Option Addr) (cc : Nat) (ma : Option Addr) (mc : Nat) (D : Nat → Prop) : Prop where
  row : ∀ j, j < s.n → ∃ ad a c, ca = some ad ∧ w.cell? (ad.add j) = some (.slice a (s.M j).length c) ∧ Ints .i64 w a (s.M j) ∧ (∀ x, a = some x → D x.block) ∧ (a = none → c = 0) ∧ (s.M j).length ≤ c
  mid : Ints .i64 w ma (s.M s.n)
  midD : ∀ x, ma = some x → D x.block
  midN : ma = none → mc = 0
  caD : ∀ x, ca = some x → D x.block
  caN : ca = none → cc = 0
section
variable {w w' : World} {s : St} {ca ma : Option Addr} {cc mc : Nat} {D D' S : Nat → Prop}
theorem RS.turn (h : RS w s ca cc ma mc D) (t : Turn S w w') (hs : ∀ i, D i → ¬ S i) : RS w' s ca cc ma mc D := by
  refine ⟨fun j hj => ?_, h.mid.turn t (fun x e => hs _ (h.midD x e)), h.midD, h.midN, h.caD, h.caN⟩
  obtain ⟨ad, a, c, e, h1, h2, h3, h4, h5⟩ := h.row j hj
  exact ⟨ad, a, c, e, t.cell (by rw [block_add]; exact hs _ (h.caD ad e)) h1, h2.turn t (fun x e => hs _ (h3 x e)), h3, h4, h5⟩
theorem RS.new (h : RS w s ca cc ma mc D) (t : Turn (fun _ => False) w w') : RS w' s ca cc ma mc D := h.turn t (fun _ _ => id)
theorem RS.mono (h : RS w s ca cc ma mc D) (hd : ∀ i, D i → D' i) : RS w s ca cc ma mc D' := by
  refine ⟨fun j hj => ?_, h.mid, fun x e => hd _ (h.midD x e), h.midN, fun x e => hd _ (h.caD x e), h.caN⟩
  obtain ⟨ad, a, c, e, h1, h2, h3, h4, h5⟩ := h.row j hj
  exact ⟨ad, a, c, e, h1, h2, fun x e => hd _ (h3 x e), h4, h5⟩
end

end Go.Proofs.Ytenbafkgfdlfpaa.R5
