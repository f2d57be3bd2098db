/- Appends at a step of a region that draws its order: slices of integers. General, over any program. -/
import Derived.Test.YtenbafkgfdlfpaaGBase
import Derived.Deep.RegionHeld3
import Derived.Deep.DrawnRows
import Derived.Deep.AppendLies
namespace Go.Proofs.Ytenbafkgfdlfpaa
open Go.RowKit

theorem new2 (w : World) (o o' : Obj) : ((w.alloc o).alloc o').heap[w.heap.size]? = some o := (Below.heap_alloc (w.alloc o) o' w.heap.size (by simp)).trans (heap_alloc_new w o)
theorem new2' (w : World) (o o' : Obj) : ((w.alloc o).alloc o').heap[w.heap.size + 1]? = some o' := by
  have := heap_alloc_new (w.alloc o) o'
  simpa using this
theorem size1 (w : World) (o : Obj) : w.heap.size ≤ (w.alloc o).heap.size := by simp
theorem size2 (w : World) (o o' : Obj) : w.heap.size ≤ ((w.alloc o).alloc o').heap.size := Nat.le_trans (size1 w o) (size1 _ o')
theorem own_empty {w : World} {base g : Nat} {e : TypeId} (h : w.heap[g]? = some (.cells #[] e (0, 0))) (hb : base ≤ g) : w.ownsRow base e 1 (.slice (some ⟨g, 0, none⟩) 0 0) 0 [] :=
  ⟨rfl, .inr ⟨g, 0, #[], rfl, hb, h, Nat.le_refl _, Nat.zero_le _, rfl, by simp⟩⟩

/-- 'append(v, src...)', src not nil; the row v the call's own. -/
theorem wp_append_ints {P : Program} {k : IntKind} {t e : TypeId} {by_ : Nat} (ht : P.underlying t = some (.slice e)) (hinfo : (P.info? e).map (fun i => (i.zero, i.size, i.bytes)) = some (some (.int k 0), 1, by_)) (hby : by_ ≤ 24)
    {w : World} {o : Oper} {a : Act} {K : Act → World → Prop} {Q : Exit → Act → World → Prop} (s x : Operand)
    (ho : o.op = .call { callee := .builtin .append, args := #[s, x], argTypes := #[t, t] }) (base : Nat) (v : Value) (L : List Int) (n : Nat) (hs : a.eval s = v) (hown : w.ownsRow base e 1 v n (L.map (Value.int k))) (ad : Addr) (M : List Int) (m c : Nat) (hm : M.length = m)
    (hx : a.eval x = .slice (some ad) m c) (hr : Ints k w (some ad) M) (hl : n + m ≤ 1000000) (hb : base ≤ w.heap.size)
    (h : ∀ v' w', Hid (w'.ownsRow base e 1 v' (n + m) ((L ++ M).map (Value.int k))) → Hid (Turn (fun i => v.ownBlock = some i) w w') → Hid (v'.ownBlock = v.ownBlock ∨ v'.ownBlock = some w.heap.size) → K (a.put o.dst v') w') : o.wp P a w K Q := by
  obtain ⟨i0, hi, hz0, hz1, hz2⟩ := info_parts hinfo
  have hbb : (n + m) * by_ ≤ 1000000 * 24 := Nat.mul_le_mul hl hby
  subst hm
  have hnews : ∀ (j : Nat) (u : Value), (M.map (Value.int k))[j]? = some u → w.cell? (ad.add j) = some u := by
    intro j u hu
    rw [List.getElem?_map] at hu
    obtain ⟨y, hy, rfl⟩ := Option.map_eq_some_iff.1 hu
    obtain ⟨hj, hy'⟩ := List.getElem?_eq_some_iff.1 hy
    obtain ⟨ad', e', hc⟩ := hr j hj
    cases e'
    rw [hc]
    simp [List.getD, hy]
  obtain ⟨v', w', hrun, h1, h2, _, h3⟩ := run_append_own_at (P := P) w base t o.type e i0 (.int k 0) 1 by_ ht hi hz0 hz1 hz2 rfl (by decide) v n (L.map (Value.int k)) hown ad M.length c (M.map (Value.int k)) (by simp) hnews
    (by intro u hu; obtain ⟨y, _, rfl⟩ := List.mem_map.1 hu; rfl) (by unfold maxLen; omega) (by omega) hb
  unfold Oper.wp execOp
  simp only [ho, resolve, invoke, builtin, Sem.run_bind, Sem.run_pure, Result.andThen_ok, List.map_toArray, List.map_cons, List.map_nil, hs, hx, hrun]
  rw [← List.map_append] at h1
  exact h v' w' h1 ((Turn.refl _ w).grown h2 (fun i hi => .inl hi)) h3

theorem step_append_ints {P : Program} {k : IntKind} {t e : TypeId} {by_ : Nat} (ht : P.underlying t = some (.slice e)) (hinfo : (P.info? e).map (fun i => (i.zero, i.size, i.bytes)) = some (some (.int k 0), 1, by_)) (hby : by_ ≤ 24)
    {w : World} {ops : Array Oper} {o : Oper} {a : Act} {K : Act → World → Prop} {Q : Exit → Act → World → Prop} {E : Prop} (hgd : o.guard = none) (s x : Operand)
    (ho : o.op = .call { callee := .builtin .append, args := #[s, x], argTypes := #[t, t] }) (base : Nat) (v : Value) (L : List Int) (n : Nat) (hs : a.eval s = v) (hown : w.ownsRow base e 1 v n (L.map (Value.int k))) (ad : Addr) (M : List Int) (m c : Nat) (hm : M.length = m)
    (hx : a.eval x = .slice (some ad) m c) (hr : Ints k w (some ad) M) (hl : n + m ≤ 1000000) (hb : base ≤ w.heap.size)
    (h : ∀ v' w', Hid (w'.ownsRow base e 1 v' (n + m) ((L ++ M).map (Value.int k))) → Hid (Turn (fun i => v.ownBlock = some i) w w') → Hid (v'.ownBlock = v.ownBlock ∨ v'.ownBlock = some w.heap.size) → K (a.put o.dst v') w') :
    if Region.wanted o (yielded ops a.tmps) = true then Oper.wp P o a w K Q else E := by
  have hw : Region.wanted o (yielded ops a.tmps) = true := by simp [Region.wanted, hgd]
  rw [if_pos hw]
  exact wp_append_ints ht hinfo hby s x ho base v L n hs hown ad M m c hm hx hr hl hb h

/-- 'append(v, y)'; the one-cell block of y is b. -/
theorem step_append_one {P : Program} {k : IntKind} {t e : TypeId} {by_ : Nat} (ht : P.underlying t = some (.slice e)) (hinfo : (P.info? e).map (fun i => (i.zero, i.size, i.bytes)) = some (some (.int k 0), 1, by_)) (hby : by_ ≤ 24)
    {w : World} {ops : Array Oper} {o : Oper} {a : Act} {K : Act → World → Prop} {Q : Exit → Act → World → Prop} {E : Prop} (hgd : o.guard = none) (s x : Operand)
    (ho : o.op = .call { callee := .builtin .append, args := #[s, x], argTypes := #[t, t] }) (base : Nat) (v : Value) (L : List Int) (n : Nat) (hs : a.eval s = v) (hown : w.ownsRow base e 1 v n (L.map (Value.int k))) (b : Nat) (y : Int)
    (hx : a.eval x = .slice (some ⟨b, 0, none⟩) 1 1) (hr : w.heap[b]? = some (.cells #[.int k y] e (0, 0))) (hl : n + 1 ≤ 1000000) (hb : base ≤ w.heap.size)
    (h : ∀ g c w', base ≤ g → Hid (w'.ownsRow base e 1 (.slice (some ⟨g, 0, none⟩) (n + 1) c) (n + 1) ((L ++ [y]).map (Value.int k))) → Hid (Turn (fun i => v.ownBlock = some i) w w') → Hid (v.ownBlock = some g ∨ g = w.heap.size) → K (a.put o.dst (.slice (some ⟨g, 0, none⟩) (n + 1) c)) w') :
    if Region.wanted o (yielded ops a.tmps) = true then Oper.wp P o a w K Q else E := by
  refine step_append_ints ht hinfo hby hgd s x ho base v L n hs hown ⟨b, 0, none⟩ [y] 1 1 rfl hx ?_ hl hb ?_
  · intro j hj
    have hj0 : j = 0 := by simpa using hj
    subst hj0
    refine ⟨_, rfl, ?_⟩
    rw [Addr.add_lit]
    simp [World.cell?, hr]
  · intro v' w' h1 h2 h3
    have h1' := h1.out
    rcases h1'.2 with ⟨_, h0⟩ | ⟨g, cap, cur, rfl, hb', _⟩
    · omega
    · refine h g cap w' hb' h1 h2 ?_
      rcases h3.out with h4 | h4
      · exact Or.inl h4.symm
      · right; simp [Value.ownBlock] at h4; exact h4

/-- 'append(v, src...)', src any slice of integers that is read, nil or not; where the new row lies is told. -/
theorem wpList_append_ints_at {P : Program} {k : IntKind} {t e : TypeId} {by_ : Nat} (ht : P.underlying t = some (.slice e)) (hinfo : (P.info? e).map (fun i => (i.zero, i.size, i.bytes)) = some (some (.int k 0), 1, by_)) (hby : by_ ≤ 24)
    {w : World} {ops : Array Oper} {rest : List Oper} {o : Oper} {a : Act} {Q : Exit → Act → World → Prop} (hgd : o.guard = none) (s x : Operand)
    (ho : o.op = .call { callee := .builtin .append, args := #[s, x], argTypes := #[t, t] }) (base : Nat) (v : Value) (L : List Int) (n : Nat) (hs : a.eval s = v) (hown : w.ownsRow base e 1 v n (L.map (Value.int k))) (ao : Option Addr) (M : List Int) (m c : Nat) (hm : M.length = m)
    (hx : a.eval x = .slice ao m c) (hnil : ao = none → c = 0) (hr : Ints k w ao M) (hl : n + m ≤ 1000000) (hb : base ≤ w.heap.size)
    (h : ∀ v' w', Hid (w'.ownsRow base e 1 v' (n + m) ((L ++ M).map (Value.int k))) → Hid (Turn (fun i => v.ownBlock = some i) w w') → Hid (v'.ownBlock = v.ownBlock ∨ v'.ownBlock = some w.heap.size) → wpList P ops Q rest (a.put o.dst v') w') : wpList P ops Q (o :: rest) a w := by
  cases ao with
  | none =>
    have hM : M = [] := by
      cases M with
      | nil => rfl
      | cons y r => obtain ⟨ad, e, _⟩ := hr 0 (by simp); cases e
    subst hM
    subst hm
    have hc := hnil rfl
    subst hc
    obtain ⟨i0, hi, hz0, hz1, hz2⟩ := info_parts hinfo
    exact wpList_append_own_none hgd s x t ho base e i0 1 ht hi v n (L.map (Value.int k)) hs hown hx (h v w (by simpa [Hid] using hown) (Turn.refl _ _) (Or.inl rfl))
  | some ad =>
    exact wpList_plain hgd fun K hK => wp_append_ints ht hinfo hby s x ho base v L n hs hown ad M m c hm hx hr hl hb fun v' w' h1 h2 h3 => hK _ _ (h v' w' h1 h2 h3)

/-- 'wpList_append_one' with the new length under a name of its own. -/
theorem wpList_append_one_n {P : Program} {k : IntKind} {t e : TypeId} {by_ : Nat} (ht : P.underlying t = some (.slice e)) (hinfo : (P.info? e).map (fun i => (i.zero, i.size, i.bytes)) = some (some (.int k 0), 1, by_)) (hby : by_ ≤ 24)
    {w0 : World} {ops : Array Oper} {rest : List Oper} {o : Oper} {a : Act} {Q : Exit → Act → World → Prop} (hgd : o.guard = none) (s x : Operand)
    (ho : o.op = .call { callee := .builtin .append, args := #[s, x], argTypes := #[t, t] }) (base : Nat) (v : Value) (L : List Int) (n : Nat) (y : Int) (hs : a.eval s = v) (hown : w0.ownsRow base e 1 v n (L.map (Value.int k))) (n' : Nat) (hn' : n + 1 = n')
    (hx : a.eval x = .slice (some ⟨w0.heap.size, 0, none⟩) 1 1) (hl : n ≤ 1000000) (hb : base ≤ w0.heap.size)
    (h : ∀ g c w', base ≤ g → Hid (w'.ownsRow base e 1 (.slice (some ⟨g, 0, none⟩) n' c) n' ((L ++ [y]).map (Value.int k))) → Hid (Turn (fun i => v.ownBlock = some i) w0 w') → Hid (v.ownBlock = some g ∨ w0.heap.size ≤ g) → wpList P ops Q rest (a.put o.dst (.slice (some ⟨g, 0, none⟩) n' c)) w') :
    wpList P ops Q (o :: rest) a (w0.alloc (.cells #[.int k y] e)) := by
  subst hn'
  have hl' : L.length = n := by have := hown.1; simpa using this
  refine wpList_append_one ht hinfo hby hgd s x ho base v L n y hs (by rw [hl']; exact hown) hl' hx hl hb ?_
  intro g c w' h1 h2 h3 h4
  exact h g c w' h1 h2 h3 (h4.out.imp id (fun e => by omega))

end Go.Proofs.Ytenbafkgfdlfpaa
