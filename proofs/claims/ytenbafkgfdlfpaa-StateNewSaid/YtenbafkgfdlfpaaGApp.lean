/- Appends of structs of up to 1000 bytes, of a source that may be nil. General, over any program. -/
import Derived.Test.YtenbafkgfdlfpaaGBlk
import Derived.Test.YtenbafkgfdlfpaaGSkip
namespace Go.Proofs.Ytenbafkgfdlfpaa
open Go.RowKit

theorem own_nil {w : World} {base : Nat} {e : TypeId} {α : Type} {enc : α → List Value} {size : Nat} : w.ownsRow base e size (.slice none 0 0) 0 (flat enc []) := ⟨by simp [flat], .inl ⟨rfl, rfl⟩⟩

section
variable {α : Type} {enc : α → List Value} {size : Nat}
theorem wp_append_great {P : Program} {z : Value} {t e : TypeId} {by_ : Nat} (he : Enc enc size) (hsz : 0 < size) (ht : P.underlying t = some (.slice e)) (hinfo : (P.info? e).map (fun i => (i.zero, i.size, i.bytes)) = some (some z, size, by_)) (hzs : z.cells.size = size) (hby : by_ ≤ 1000)
    {w : World} {o : Oper} {a : Act} {K : Act → World → Prop} {Q : Exit → Act → World → Prop} (s x : Operand)
    (ho : o.op = .call { callee := .builtin .append, args := #[s, x], argTypes := #[t, t] }) (base : Nat) (v : Value) (L : List α) (n : Nat) (hs : a.eval s = v) (hown : w.ownsRow base e size v n (flat enc L)) (ao : Option Addr) (M : List α) (m c : Nat) (hm : M.length = m)
    (hx : a.eval x = .slice ao m c) (hnil : ao = none → c = 0) (hr : Has enc size w ao M) (n' : Nat) (hn' : n + m = n') (hl : n' ≤ 1000000) (hb : base ≤ w.heap.size)
    (h : ∀ v' w', Hid (w'.ownsRow base e size v' n' (flat enc (L ++ M))) → Hid (Turn (fun i => v.ownBlock = some i) w w') → Hid (v'.ownBlock = v.ownBlock ∨ v'.ownBlock = some w.heap.size) → K (a.put o.dst v') w') : o.wp P a w K Q := by
  obtain ⟨i0, hi, hz0, hz1, hz2⟩ := info_parts hinfo
  subst hn'
  have hbb : (n + m) * by_ ≤ 1000000 * 1000 := Nat.mul_le_mul hl hby
  cases ao with
  | none =>
    have hM : M = [] := by
      cases M with
      | nil => rfl
      | cons y r => obtain ⟨ad, e, _⟩ := hr 0 y rfl; cases e
    subst hM
    subst hm
    have hc := hnil rfl
    subst hc
    have hrun := run_append_owned_none (P := P) (w := w) base t o.type e i0 size ht hi v n (flat enc L) hown
    have hx' : a.eval x = .slice none 0 0 := hx
    have key := h v w (by simpa [Hid] using hown) (Turn.refl _ _) (Or.inl rfl)
    unfold Oper.wp
    simp [execOp, ho, resolve, invoke, builtin, hs, hx', hrun, Result.andThen]
    exact key
  | some ad =>
    subst hm
    have hnews : ∀ (j : Nat) (u : Value), (flat enc M)[j]? = some u → w.cell? (ad.add j) = some u := by
      intro j u hu
      have hj := (List.getElem?_eq_some_iff.1 hu).1
      rw [flat_length he] at hj
      have hq : j / size < M.length := (Nat.div_lt_iff_lt_mul hsz).2 hj
      have hr0 : j % size < size := Nat.mod_lt _ hsz
      have ej : j / size * size + j % size = j := by have := Nat.div_add_mod j size; rw [Nat.mul_comm] at this; exact this
      obtain ⟨y, hy⟩ : ∃ y, M[j / size]? = some y := ⟨_, List.getElem?_eq_getElem hq⟩
      obtain ⟨ad', e', hc⟩ := hr _ y hy
      cases e'
      have hg := flat_get he hy hr0
      rw [ej, hu] at hg
      have := hc _ u hg.symm
      rwa [add_two, ej] at this
    obtain ⟨v', w', hrun, h1, h2, _, h3⟩ := run_append_own_at (P := P) w base t o.type e i0 z size by_ ht hi hz0 hz1 hz2 hzs hsz v n (flat enc L) hown ad M.length c (flat enc M) (flat_length he M) hnews (fun u hu => flat_one' he hu) (by unfold maxLen; omega) (by omega) hb
    unfold Oper.wp execOp
    simp only [ho, resolve, invoke, builtin, Sem.run_bind, Sem.run_pure, Result.andThen_ok, List.map_toArray, List.map_cons, List.map_nil, hs, hx, hrun]
    rw [← flat_append] at h1
    exact h v' w' h1 ((Turn.refl _ w).grown h2 (fun i hi => .inl hi)) h3
theorem wpList_append_great {P : Program} {z : Value} {t e : TypeId} {by_ : Nat} (he : Enc enc size) (hsz : 0 < size) (ht : P.underlying t = some (.slice e)) (hinfo : (P.info? e).map (fun i => (i.zero, i.size, i.bytes)) = some (some z, size, by_)) (hzs : z.cells.size = size) (hby : by_ ≤ 1000)
    {w : World} {ops : Array Oper} {rest : List Oper} {o : Oper} {a : Act} {Q : Exit → Act → World → Prop} (hgd : o.guard = none) (s x : Operand)
    (ho : o.op = .call { callee := .builtin .append, args := #[s, x], argTypes := #[t, t] }) (base : Nat) (v : Value) (L : List α) (n : Nat) (hs : a.eval s = v) (hown : w.ownsRow base e size v n (flat enc L)) (ao : Option Addr) (M : List α) (m c : Nat) (hm : M.length = m)
    (hx : a.eval x = .slice ao m c) (hnil : ao = none → c = 0) (hr : Has enc size w ao M) (n' : Nat) (hn' : n + m = n') (hl : n' ≤ 1000000) (hb : base ≤ w.heap.size)
    (h : ∀ v' w', Hid (w'.ownsRow base e size v' n' (flat enc (L ++ M))) → Hid (Turn (fun i => v.ownBlock = some i) w w') → Hid (v'.ownBlock = v.ownBlock ∨ v'.ownBlock = some w.heap.size) → wpList P ops Q rest (a.put o.dst v') w') : wpList P ops Q (o :: rest) a w :=
  wpList_plain hgd fun _ hK => wp_append_great he hsz ht hinfo hzs hby s x ho base v L n hs hown ao M m c hm hx hnil hr n' hn' hl hb fun v' w' h1 h2 h3 => hK _ _ (h v' w' h1 h2 h3)
end
end Go.Proofs.Ytenbafkgfdlfpaa
