/- An append of integers at a step of a region that draws: the source nil or not. General, over any program. -/
import Derived.Test.YtenbafkgfdlfpaaGRest
namespace Go.Proofs.Ytenbafkgfdlfpaa
open Go.RowKit

theorem step_append_any {P : Program} {k : IntKind} {t e : TypeId} {by_ : Nat} (ht : P.underlying t = some (.slice e)) (hinfo : (P.info? e).map (fun i => (i.zero, i.size, i.bytes)) = some (some (.int k 0), 1, by_)) (hby : by_ ≤ 24)
    {w : World} {ops : Array Oper} {o : Oper} {a : Act} {K : Act → World → Prop} {Q : Exit → Act → World → Prop} {E : Prop} (hgd : o.guard = none) (s x : Operand)
    (ho : o.op = .call { callee := .builtin .append, args := #[s, x], argTypes := #[t, t] }) (base : Nat) (v : Value) (L : List Int) (n : Nat) (hs : a.eval s = v) (hown : w.ownsRow base e 1 v n (L.map (Value.int k))) (ao : Option Addr) (M : List Int) (m c : Nat) (hm : M.length = m)
    (hx : a.eval x = .slice ao m c) (hnil : ao = none → c = 0) (hr : Ints k w ao M) (hl : n + m ≤ 1000000) (hb : base ≤ w.heap.size)
    (h : ∀ v' w', Hid (w'.ownsRow base e 1 v' (n + m) ((L ++ M).map (Value.int k))) → Hid (Turn (fun i => v.ownBlock = some i) w w') → Hid (v'.ownBlock = v.ownBlock ∨ v'.ownBlock = some w.heap.size) → K (a.put o.dst v') w') :
    if Region.wanted o (yielded ops a.tmps) = true then Oper.wp P o a w K Q else E := by
  cases ao with
  | none =>
    have hw : Region.wanted o (yielded ops a.tmps) = true := by simp [Region.wanted, hgd]
    rw [if_pos hw]
    have hM : M = [] := by
      cases M with
      | nil => rfl
      | cons y r => obtain ⟨ad, e, _⟩ := hr 0 (by simp); cases e
    subst hM
    subst hm
    have hc := hnil rfl
    subst hc
    obtain ⟨i0, hi, hz0, hz1, hz2⟩ := info_parts hinfo
    have hrun := run_append_owned_none (P := P) (w := w) base t o.type e i0 1 ht hi v n (L.map (Value.int k)) hown
    have hx' : a.eval x = .slice none 0 0 := hx
    have key := h v w (by simpa [Hid] using hown) (Turn.refl _ _) (Or.inl rfl)
    unfold Oper.wp
    simp [execOp, ho, resolve, invoke, builtin, hs, hx', hrun, Result.andThen]
    exact key
  | some ad => exact step_append_ints ht hinfo hby hgd s x ho base v L n hs hown ad M m c hm hx hr hl hb h

end Go.Proofs.Ytenbafkgfdlfpaa
