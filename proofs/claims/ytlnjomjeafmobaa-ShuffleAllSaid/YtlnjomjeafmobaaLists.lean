/- Slices of slices of the call's own, and the document's All. -/
import Derived.Test.YtlnjomjeafmobaaLaw
import Derived.Test.YtlnjomjeafmobaaMath2
import Derived.Maps.AppendAt
namespace Go.Proofs.Ytlnjomjeafmobaa
open Go.RowKit
set_option linter.unusedVariables false

theorem info_ints : (Try.prog.info? 22).map (fun i => (i.zero, i.size, i.bytes)) = some (some (.slice none 0 0), 1, 24) := by kernel_rfl

theorem own_turn {w w' : World} {base n size : Nat} {e : TypeId} {v : Value} {xs : List Value} {S : Nat → Prop} (h : w.ownsRow base e size v n xs) (t : Turn S w w') (hv : ∀ k, v.ownBlock = some k → ¬ S k) : w'.ownsRow base e size v n xs := by
  refine ⟨h.1, ?_⟩
  rcases h.2 with h1 | ⟨g, cap, cur, rfl, h2, h3, h4⟩
  · exact .inl h1
  · exact .inr ⟨g, cap, cur, rfl, h2, t.heap (hv g rfl) h3, h4⟩
theorem own_type {w : World} {base n size : Nat} {e : TypeId} {v : Value} {xs : List Value} (h : w.ownsRow base e size v n xs) : ∀ k, v.ownBlock = some k → ∃ cur, w.heap[k]? = some (.cells cur e (0, 0)) := by
  intro k hk
  rcases h.2 with ⟨rfl, _⟩ | ⟨g, cap, cur, rfl, h2, h3, h4⟩
  · simp [Value.ownBlock] at hk
  · simp [Value.ownBlock] at hk
    subst hk
    exact ⟨cur, h3⟩

/-- The values xs are slices of the call's own, of the numbers LL. -/
def Items (w : World) (base : Nat) (xs : List Value) (LL : List (List Int)) : Prop :=
  xs.length = LL.length ∧ ∀ j, j < LL.length → ∃ u, xs[j]? = some u ∧ w.ownsRow base 3 1 u (LL.getD j []).length ((LL.getD j []).map (Value.int .i64))
theorem Items.turn {w w' : World} {base : Nat} {xs : List Value} {LL : List (List Int)} {S : Nat → Prop} (h : Items w base xs LL) (t : Turn S w w') (hs : ∀ i, i < w.heap.size → S i → ∃ cur, w.heap[i]? = some (.cells cur 22 (0, 0))) : Items w' base xs LL := by
  refine ⟨h.1, fun j hj => ?_⟩
  obtain ⟨u, hu, ho⟩ := h.2 j hj
  refine ⟨u, hu, own_turn ho t (fun k hk hS => ?_)⟩
  obtain ⟨cur, hc⟩ := own_type ho k hk
  obtain ⟨cur', hc'⟩ := hs k (ho.lt k hk).2 hS
  rw [hc] at hc'
  cases hc'
theorem Items.snoc {w : World} {base : Nat} {xs : List Value} {LL : List (List Int)} (h : Items w base xs LL) {u : Value} {l : List Int} (ho : w.ownsRow base 3 1 u l.length (l.map (Value.int .i64))) : Items w base (xs ++ [u]) (LL ++ [l]) := by
  refine ⟨by simp [h.1], fun j hj => ?_⟩
  by_cases hj' : j < LL.length
  · obtain ⟨u', hu, ho'⟩ := h.2 j hj'
    have e : (LL ++ [l]).getD j [] = LL.getD j [] := by simp [List.getD_eq_getElem?_getD, List.getElem?_append_left hj']
    rw [e]
    exact ⟨u', by rw [List.getElem?_append_left (by rw [h.1]; exact hj')]; exact hu, ho'⟩
  · have hj2 : j = LL.length := by simp at hj; omega
    subst hj2
    have e : (LL ++ [l]).getD LL.length [] = l := by simp [List.getD_eq_getElem?_getD]
    rw [e]
    exact ⟨u, by rw [← h.1]; simp, ho⟩
theorem Items.less {w : World} {base base' : Nat} {xs : List Value} {LL : List (List Int)} (h : Items w base xs LL) (hb : base' ≤ base) : Items w base' xs LL := by
  refine ⟨h.1, fun j hj => ?_⟩
  obtain ⟨u, hu, ho⟩ := h.2 j hj
  exact ⟨u, hu, own_less ho hb⟩

/-- A slice of slices of the call's own. -/
def Lists (w : World) (base : Nat) (v : Value) (LL : List (List Int)) : Prop := ∃ xs, w.ownsRow base 22 1 v LL.length xs ∧ Items w base xs LL
theorem Lists.turn {w w' : World} {base : Nat} {v : Value} {LL : List (List Int)} {S : Nat → Prop} (h : Lists w base v LL) (t : Turn S w w') (hv : ∀ k, v.ownBlock = some k → ¬ S k) (hs : ∀ i, i < w.heap.size → S i → ∃ cur, w.heap[i]? = some (.cells cur 22 (0, 0))) : Lists w' base v LL := by
  obtain ⟨xs, h1, h2⟩ := h
  exact ⟨xs, own_turn h1 t hv, h2.turn t hs⟩
/-- Nothing that was is turned. -/
theorem Lists.new {w w' : World} {base : Nat} {v : Value} {LL : List (List Int)} (h : Lists w base v LL) (t : Turn (fun _ => False) w w') : Lists w' base v LL := h.turn t (fun _ _ => id) (fun _ _ h => h.elim)
theorem own_row_less {w : World} {base base' n : Nat} {e : TypeId} {v : Value} {xs : List Value} (h : w.ownsRow base e 1 v n xs) (hb : base' ≤ base) : w.ownsRow base' e 1 v n xs := by
  refine ⟨h.1, ?_⟩
  rcases h.2 with h1 | ⟨g, cap, cur, h1, h2, h3⟩
  · exact .inl h1
  · exact .inr ⟨g, cap, cur, h1, Nat.le_trans hb h2, h3⟩
theorem Lists.less {w : World} {base base' : Nat} {v : Value} {LL : List (List Int)} (h : Lists w base v LL) (hb : base' ≤ base) : Lists w base' v LL := by
  obtain ⟨xs, h1, h2⟩ := h
  exact ⟨xs, own_row_less h1 hb, h2.less hb⟩
theorem Lists.lt {w : World} {base : Nat} {v : Value} {LL : List (List Int)} (h : Lists w base v LL) : ∀ k, v.ownBlock = some k → base ≤ k ∧ k < w.heap.size := by
  obtain ⟨xs, h1, _⟩ := h
  exact h1.lt
theorem Lists.type {w : World} {base : Nat} {v : Value} {LL : List (List Int)} (h : Lists w base v LL) : ∀ k, v.ownBlock = some k → ∃ cur, w.heap[k]? = some (.cells cur 22 (0, 0)) := by
  obtain ⟨xs, h1, _⟩ := h
  exact own_type h1
theorem Lists.form {w : World} {base : Nat} {v : Value} {LL : List (List Int)} (h : Lists w base v LL) (hl : 0 < LL.length) : ∃ g c, v = .slice (some ⟨g, 0, none⟩) LL.length c := by
  obtain ⟨xs, h1, _⟩ := h
  rcases h1.2 with ⟨_, h0⟩ | ⟨g, cap, cur, rfl, _⟩
  · omega
  · exact ⟨g, cap, rfl⟩
theorem Lists.at_ {w : World} {base g n c : Nat} {LL : List (List Int)} (h : Lists w base (.slice (some ⟨g, 0, none⟩) n c) LL) {j : Nat} (hj : j < LL.length) :
    ∃ bo d, w.cell? ⟨g, j, none⟩ = some (.slice bo (LL.getD j []).length d) ∧ Ints .i64 w bo (LL.getD j []) ∧ (LL.getD j []).length ≤ d ∧ d ≤ maxLen ∧ (bo = none → d = 0) := by
  obtain ⟨xs, h1, h2⟩ := h
  obtain ⟨u, hu, ho⟩ := h2.2 j hj
  have hc := h1.cells (g := g) rfl j u hu
  rw [Addr.add_lit] at hc
  rcases ho.2 with ⟨rfl, h0⟩ | ⟨g', cap, cur, rfl, hb, hh, hcc, hm, hs, ht⟩
  · have hL : LL.getD j [] = [] := List.eq_nil_of_length_eq_zero h0
    rw [hL]
    exact ⟨none, 0, by simpa using hc, fun i hi => by simp at hi, by simp, by simp, by simp⟩
  · obtain ⟨ao, c', e, hi, h3, h4, _⟩ := ints_of_own ho
    cases e
    exact ⟨_, _, by simpa using hc, hi, h3, h4, by simp⟩

theorem own_keep {w w' : World} {base n : Nat} {v : Value} {xs : List Value} {S : Nat → Prop} (h : w.ownsRow base 3 1 v n xs) (t : Turn S w w') (hs : ∀ i, i < w.heap.size → S i → ∃ cur, w.heap[i]? = some (.cells cur 22 (0, 0))) : w'.ownsRow base 3 1 v n xs := by
  refine own_turn h t (fun k hk hS => ?_)
  obtain ⟨cur, hc⟩ := own_type h k hk
  obtain ⟨cur', hc'⟩ := hs k (h.lt k hk).2 hS
  rw [hc] at hc'
  cases hc'
theorem Lists.own_at {w : World} {base g n c : Nat} {LL : List (List Int)} (h : Lists w base (.slice (some ⟨g, 0, none⟩) n c) LL) {j : Nat} (hj : j < LL.length) :
    ∃ bo d, w.cell? ⟨g, j, none⟩ = some (.slice bo (LL.getD j []).length d) ∧ w.ownsRow base 3 1 (.slice bo (LL.getD j []).length d) (LL.getD j []).length ((LL.getD j []).map (Value.int .i64)) := by
  obtain ⟨xs, h1, h2⟩ := h
  obtain ⟨u, hu, ho⟩ := h2.2 j hj
  have hc := h1.cells (g := g) rfl j u hu
  rw [Addr.add_lit] at hc
  have hc' : w.cell? ⟨g, j, none⟩ = some u := by simpa using hc
  rcases ho.2 with ⟨rfl, h0⟩ | ⟨g', cap, cur, rfl, _⟩
  · rw [h0] at ho ⊢
    exact ⟨none, 0, hc', ho⟩
  · exact ⟨_, _, hc', ho⟩
theorem own_reads {w : World} {base n d : Nat} {bo : Option Addr} {l : List Int} (h : w.ownsRow base 3 1 (.slice bo n d) n (l.map (Value.int .i64))) : l.length = n ∧ Ints .i64 w bo l ∧ n ≤ d ∧ (bo = none → d = 0) := by
  have hl : l.length = n := by have := h.1; simpa using this
  subst hl
  refine ⟨rfl, ?_⟩
  obtain ⟨ao, c, e, hi, h1, _⟩ := ints_of_own h
  cases e
  refine ⟨hi, h1, fun e => ?_⟩
  subst e
  rcases h.2 with ⟨h2, _⟩ | ⟨g, cap, cur, h2, _⟩
  · injection h2
  · injection h2 with h3; cases h3

/-- 'append(out, l)', out a slice of slices of the call's own. -/
theorem wpList_append_list {w0 : World} {ops : Array Oper} {rest : List Oper} {o : Oper} {a : Act} {Q : Exit → Act → World → Prop} (hgd : o.guard = none) (s x : Operand)
    (ho : o.op = .call { callee := .builtin .append, args := #[s, x], argTypes := #[36, 36] }) (base : Nat) (v u : Value) (LL : List (List Int)) (l : List Int) (hs : a.eval s = v) (hown : Lists w0 base v LL) (hu : w0.ownsRow base 3 1 u l.length (l.map (Value.int .i64)))
    (hx : a.eval x = .slice (some ⟨w0.heap.size, 0, none⟩) 1 1) (hl : LL.length ≤ 100000) (hb : base ≤ w0.heap.size)
    (h : ∀ v' w', Hid (Lists w' base v' (LL ++ [l])) → Hid (Turn (fun i => v.ownBlock = some i) w0 w') → Hid (v'.ownBlock = v.ownBlock ∨ v'.ownBlock = some (w0.heap.size + 1)) → wpList Try.prog ops Q rest (a.put o.dst v') w') :
    wpList Try.prog ops Q (o :: rest) a (w0.alloc (.cells #[u] 22)) := by
  obtain ⟨i0, hi, hz0, hz1, hz2⟩ := info_parts info_ints
  obtain ⟨xs, h1, h2⟩ := hown
  have hcell : u.oneCell' = true := by
    rcases hu.2 with ⟨rfl, _⟩ | ⟨g, cap, cur, rfl, _⟩ <;> rfl
  refine wpList_append_own_at _ hgd s x 36 ho base 22 i0 (.slice none 0 0) 1 24 Try.underlying36 hi hz0 hz1 hz2 rfl (by decide) v LL.length xs hs (h1.alloc _) ⟨w0.heap.size, 0, none⟩ 1 1 [u] hx rfl ?_ (by simpa using hcell) (by unfold maxLen; omega) (by omega) (by simp; omega) ?_
  · exact cell_one_new w0 u 22
  · intro v' w' h3 h4 _ h5
    have t1 : Turn (fun i => v.ownBlock = some i) w0 (w0.alloc (.cells #[u] 22)) := (Turn.refl _ w0).alloc _
    have t : Turn (fun i => v.ownBlock = some i) w0 w' := t1.grown h4 (fun k hk => .inl hk)
    refine h v' w' ⟨xs ++ [u], by simpa using h3, ?_⟩ t (by simpa [Hid] using h5)
    refine (h2.snoc hu).turn t (fun i _ e => own_type h1 i e)

/-- What is turned lies below. -/
theorem Lists.low {w w' : World} {base : Nat} {v : Value} {LL : List (List Int)} {S : Nat → Prop} (h : Lists w base v LL) (t : Turn S w w') (hs : ∀ i, S i → i < base) : Lists w' base v LL := by
  obtain ⟨xs, h1, h2⟩ := h
  refine ⟨xs, own_turn h1 t (fun k hk hS => ?_), h2.1, fun j hj => ?_⟩
  · have := (h1.lt k hk).1; have := hs k hS; omega
  · obtain ⟨u, hu, ho⟩ := h2.2 j hj
    exact ⟨u, hu, own_turn ho t (fun k hk hS => by have := (ho.lt k hk).1; have := hs k hS; omega)⟩

end Go.Proofs.Ytlnjomjeafmobaa
