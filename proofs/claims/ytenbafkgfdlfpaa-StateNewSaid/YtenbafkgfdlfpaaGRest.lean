/- A load whose cell holds throughout a region that draws; an append of whatever one-cell values. General, over any program. -/
import Derived.Test.YtenbafkgfdlfpaaGMake
namespace Go.Proofs.Ytenbafkgfdlfpaa
open Go.RowKit

section
variable {P : Program} {ops : Array Oper} {Q : Exit → Act → World → Prop} {md : Region.Mode} {m1 m2 : Nat} {A1 A2 : World → Prop}
/-- A load of what A1 tells, where A1 holds throughout (its mark is no operation's number). -/
theorem stand_load3 {i : Nat} {oi : Oper} {rs : List Oper} {v : Value} {n d : Nat} {l : Array Bool} {L : List Value} {ds} {w : World} (hi' : ops.toList.drop i = oi :: rs) (hs : Region.noSelect ops = true) (hf : Region.free md ops l i = true) (hr : (Region.ready md ops l).contains i = true)
    (hd : oi.dst = some d) (hQ : ∀ c a w, Q (.panic c) (a.put (some d) v) w → Q (.panic c) a w) (h1 : i ≠ m1) (h2 : i ≠ m2) (hb : decide (ops.size ≤ m1) = true) (hw : Region.wanted oi (yielded ops L.toArray) = true) (hy : ∀ w, A1 w → (execOp (Act.eval ⟨L.toArray, ds⟩) oi).run P w = .ok (.value v) w)
    (h : Stand P md ops Q m1 A1 m2 A2 n (l.setIfInBounds i true) ⟨(L.set d v).toArray, ds⟩ w) : Stand P md ops Q m1 A1 m2 A2 (n + 1) l ⟨L.toArray, ds⟩ w := fun k t => by
  have hi := nth_of hi'
  rw [← put_laid, ← hd] at h
  rw [← hd] at hQ
  have hr' : i ∈ Region.ready md ops l := by simpa using hr
  refine till_first (B := A1) hi hs hQ h1 h2 (fun l w r _ t => t.1 ?_) n l _ w k t (Region.free_spec hi hf) hr' (Or.inl ⟨hw, hy⟩) (h (k.set hr') (t.set h1 h2))
  have h3 := of_decide_eq_true hb
  have h4 := r.1
  simp [Array.getElem?_eq_none (show l.size ≤ m1 by omega)]
end

/-- 'append(v, src...)' of values of one cell each, src nil or not, onto a row of the call's own. -/
theorem wpList_append_vals {P : Program} {z : Value} {t e : TypeId} {by_ : Nat} (ht : P.underlying t = some (.slice e)) (hinfo : (P.info? e).map (fun i => (i.zero, i.size, i.bytes)) = some (some z, 1, by_)) (hzs : z.cells.size = 1) (hby : by_ ≤ 24)
    {w : World} {ops : Array Oper} {rest : List Oper} {o : Oper} {a : Act} {Q : Exit → Act → World → Prop} (hgd : o.guard = none) (s x : Operand)
    (ho : o.op = .call { callee := .builtin .append, args := #[s, x], argTypes := #[t, t] }) (base : Nat) (v : Value) (xs : List Value) (n : Nat) (hs : a.eval s = v) (hown : w.ownsRow base e 1 v n xs) (ao : Option Addr) (V : List Value) (m c : Nat) (hm : V.length = m)
    (hx : a.eval x = .slice ao m c) (hnil : ao = none → c = 0 ∧ m = 0) (hr : ∀ ad, ao = some ad → ∀ j u, V[j]? = some u → w.cell? (ad.add j) = some u) (hone : ∀ u ∈ V, u.oneCell' = true) (hl : n + m ≤ 1000000) (hb : base ≤ w.heap.size)
    (h : ∀ v' w', Hid (w'.ownsRow base e 1 v' (n + m) (xs ++ V)) → Hid (Turn (fun i => v.ownBlock = some i) w w') → Hid (v'.ownBlock = v.ownBlock ∨ v'.ownBlock = some w.heap.size) → wpList P ops Q rest (a.put o.dst v') w') : wpList P ops Q (o :: rest) a w := by
  obtain ⟨i0, hi, hz0, hz1, hz2⟩ := info_parts hinfo
  have hbb : (n + m) * by_ ≤ 1000000 * 24 := Nat.mul_le_mul hl hby
  cases ao with
  | none =>
    obtain ⟨hc, hm0⟩ := hnil rfl
    subst hc
    subst hm0
    have hV : V = [] := List.eq_nil_of_length_eq_zero hm
    subst hV
    exact wpList_append_own_none hgd s x t ho base e i0 1 ht hi v n xs hs hown hx (h v w (by simpa [Hid] using hown) (Turn.refl _ _) (Or.inl rfl))
  | some ad =>
    subst hm
    refine wpList_append_own_at w hgd s x t ho base e i0 z 1 by_ ht hi hz0 hz1 hz2 hzs (by decide) v n xs hs hown ad V.length c V hx (by simp) (fun j u hu => hr ad rfl j u hu) hone (by unfold maxLen; omega) (by omega) hb ?_
    intro v' w' h1 h2 _ h3
    exact h v' w' h1 ((Turn.refl _ w).grown h2 (fun i hi => .inl hi)) h3

end Go.Proofs.Ytenbafkgfdlfpaa
