/- Rows of things that take some cells each (structs), of the call's own or read: cells, stores, appends. General, over any program and any coding. -/
import Derived.Test.YtenbafkgfdlfpaaGAny
namespace Go.Proofs.Ytenbafkgfdlfpaa
open Go.RowKit

section
variable {α : Type} {enc : α → List Value} {size : Nat}
/-- Each thing takes so many cells, and each cell holds one value. -/
structure Enc (enc : α → List Value) (size : Nat) : Prop where
  len : ∀ x, (enc x).length = size
  one : ∀ x, ∀ u ∈ enc x, u.oneCell' = true
def flat (enc : α → List Value) (L : List α) : List Value := L.flatMap enc
theorem flat_nil : flat enc [] = [] := rfl
theorem flat_cons (x : α) (L : List α) : flat enc (x :: L) = enc x ++ flat enc L := by simp [flat]
theorem flat_append (L M : List α) : flat enc (L ++ M) = flat enc L ++ flat enc M := by simp [flat]
theorem flat_one (x : α) : flat enc [x] = enc x := by simp [flat]
theorem flat_length (he : Enc enc size) (L : List α) : (flat enc L).length = L.length * size := by
  induction L with
  | nil => simp [flat]
  | cons x L ih => rw [flat_cons, List.length_append, he.len, ih, List.length_cons, Nat.succ_mul, Nat.add_comm]
theorem flat_get (he : Enc enc size) {L : List α} {j i : Nat} {x : α} (hx : L[j]? = some x) (hi : i < size) : (flat enc L)[j * size + i]? = (enc x)[i]? := by
  induction L generalizing j with
  | nil => simp at hx
  | cons y L ih =>
    rw [flat_cons]
    cases j with
    | zero =>
      obtain rfl : y = x := by simpa using hx
      rw [Nat.zero_mul, Nat.zero_add, List.getElem?_append_left (by rw [he.len]; exact hi)]
    | succ j =>
      have hx' : L[j]? = some x := by simpa using hx
      have e : (j + 1) * size + i = size + (j * size + i) := by rw [Nat.succ_mul]; omega
      rw [List.getElem?_append_right (by rw [he.len, e]; omega), he.len, e, Nat.add_sub_cancel_left]
      exact ih hx'
theorem flat_set (he : Enc enc size) {L : List α} {j i : Nat} {x y : α} {u : Value} (hx : L[j]? = some x) (hi : i < size) (hy : enc y = (enc x).set i u) : (flat enc L).set (j * size + i) u = flat enc (L.set j y) := by
  induction L generalizing j with
  | nil => simp at hx
  | cons z L ih =>
    cases j with
    | zero =>
      obtain rfl : z = x := by simpa using hx
      rw [flat_cons, List.set_cons_zero, flat_cons, Nat.zero_mul, Nat.zero_add, List.set_append_left _ _ (by rw [he.len]; exact hi), hy]
    | succ j =>
      have hx' : L[j]? = some x := by simpa using hx
      have e : (j + 1) * size + i = size + (j * size + i) := by rw [Nat.succ_mul]; omega
      rw [flat_cons, List.set_cons_succ, flat_cons, List.set_append_right _ _ (by rw [he.len, e]; omega), he.len, e, Nat.add_sub_cancel_left, ih hx']
theorem flat_one' (he : Enc enc size) {L : List α} {u : Value} (hu : u ∈ flat enc L) : u.oneCell' = true := by
  obtain ⟨x, _, hx⟩ := List.mem_flatMap.1 hu
  exact he.one x u hx

/-- A row of the call's own: a cell of it. -/
theorem own_at {w : World} {base g n c : Nat} {e : TypeId} {L : List α} (he : Enc enc size) (h : w.ownsRow base e size (.slice (some ⟨g, 0, none⟩) n c) n (flat enc L)) {j : Nat} {x : α} (hx : L[j]? = some x) {i : Nat} {u : Value} (hu : (enc x)[i]? = some u) :
    w.cell? ⟨g, j * size + i, none⟩ = some u ∧ w.frozen? ⟨g, j * size + i, none⟩ = false := by
  have hi : i < size := by have := (List.getElem?_eq_some_iff.1 hu).1; rwa [he.len] at this
  have h1 := h.cells (g := g) rfl (j * size + i) u (by rw [flat_get he hx hi]; exact hu)
  rw [Addr.add_lit, Nat.zero_add] at h1
  refine ⟨h1, ?_⟩
  rcases h.2 with ⟨h2, _⟩ | ⟨g', cap, cur, h2, _, hh, _⟩
  · cases h2
  · cases h2
    simp [World.frozen?, hh]
/-- One cell of it is written. -/
theorem own_set {w : World} {base g n c : Nat} {e : TypeId} {L M : List α} (he : Enc enc size) (h : w.ownsRow base e size (.slice (some ⟨g, 0, none⟩) n c) n (flat enc L)) {j : Nat} {x y : α} (hx : L[j]? = some x) {i : Nat} (hi : i < size) {u : Value} (hy : enc y = (enc x).set i u) (hM : L.set j y = M) :
    (w.setCell ⟨g, j * size + i, none⟩ u).ownsRow base e size (.slice (some ⟨g, 0, none⟩) n c) n (flat enc M) := by
  have := (h.stored (j * size + i) u).1
  rwa [flat_set he hx hi hy, hM] at this
theorem own_len {w : World} {base n : Nat} {e : TypeId} {v : Value} {L : List α} (he : Enc enc size) (hs : 0 < size) (h : w.ownsRow base e size v n (flat enc L)) : L.length = n := by
  have := h.1
  rw [flat_length he] at this
  exact Nat.eq_of_mul_eq_mul_right hs this
theorem own_n {w : World} {base n m : Nat} {e : TypeId} {bo : Option Addr} {c : Nat} {xs : List Value} (h : w.ownsRow base e size (.slice bo n c) m xs) : w.ownsRow base e size (.slice bo n c) n xs := by
  rcases h.2 with ⟨h1, h2⟩ | ⟨g, cap, cur, h1, _⟩
  · cases h1
    exact ⟨by rw [h.1, h2], .inl ⟨rfl, rfl⟩⟩
  · cases h1
    exact h
theorem own_made {w : World} {base g : Nat} {e : TypeId} (h : w.heap[g]? = some (.cells #[] e (0, 0))) (hb : base ≤ g) : w.ownsRow base e size (.slice (some ⟨g, 0, none⟩) 0 0) 0 (flat enc []) :=
  ⟨by simp [flat], .inr ⟨g, 0, #[], rfl, hb, h, Nat.le_refl _, Nat.zero_le _, by simp, by simp [flat]⟩⟩

/-- The slice at ao reads as the things L. -/
def Has (enc : α → List Value) (size : Nat) (w : World) (ao : Option Addr) (L : List α) : Prop :=
  ∀ j x, L[j]? = some x → ∃ a, ao = some a ∧ ∀ i u, (enc x)[i]? = some u → w.cell? ((a.add (j * size)).add i) = some u
theorem add_two (a : Addr) (n m : Nat) : (a.add n).add m = a.add (n + m) := by
  unfold Addr.add
  split <;> split <;> simp_all [Nat.add_assoc]
theorem Has.turn {w w' : World} {S : Nat → Prop} {ao : Option Addr} {L : List α} (h : Has enc size w ao L) (t : Turn S w w') (hs : ∀ ad, ao = some ad → ¬ S ad.block) : Has enc size w' ao L := by
  intro j x hx
  obtain ⟨ad, e, hc⟩ := h j x hx
  exact ⟨ad, e, fun i u hu => t.cell (by rw [block_add, block_add]; exact hs ad e) (hc i u hu)⟩
theorem Has.of_own {w : World} {base n c : Nat} {e : TypeId} {bo : Option Addr} {L : List α} (he : Enc enc size) (hs : 0 < size) (h : w.ownsRow base e size (.slice bo n c) n (flat enc L)) : Has enc size w bo L := by
  intro j x hx
  have hj := (List.getElem?_eq_some_iff.1 hx).1
  have hn := own_len he hs h
  obtain ⟨g, c', e', _⟩ := own_form h (by omega)
  cases e'
  refine ⟨_, rfl, fun i u hu => ?_⟩
  rw [Addr.add_lit, Addr.add_lit, Nat.zero_add]
  exact (own_at he h hx hu).1

/-- 'append(v, src...)' of such things onto a row of the call's own; src not nil. -/
theorem wpList_append_flat {P : Program} {z : Value} {t e : TypeId} {by_ : Nat} (he : Enc enc size) (hsz : 0 < size) (ht : P.underlying t = some (.slice e)) (hinfo : (P.info? e).map (fun i => (i.zero, i.size, i.bytes)) = some (some z, size, by_)) (hzs : z.cells.size = size) (hby : by_ ≤ 100)
    {w : World} {ops : Array Oper} {rest : List Oper} {o : Oper} {a : Act} {Q : Exit → Act → World → Prop} (hgd : o.guard = none) (s x : Operand)
    (ho : o.op = .call { callee := .builtin .append, args := #[s, x], argTypes := #[t, t] }) (base : Nat) (v : Value) (L : List α) (n : Nat) (hs : a.eval s = v) (hown : w.ownsRow base e size v n (flat enc L)) (ad : Addr) (M : List α) (m c : Nat) (hm : M.length = m)
    (hx : a.eval x = .slice (some ad) m c) (hr : Has enc size w (some ad) M) (n' : Nat) (hn' : n + m = n') (hl : n' ≤ 1000000) (hb : base ≤ w.heap.size)
    (h : ∀ v' w', Hid (w'.ownsRow base e size v' n' (flat enc (L ++ M))) → Hid (Turn (fun i => v.ownBlock = some i) w w') → Hid (v'.ownBlock = v.ownBlock ∨ v'.ownBlock = some w.heap.size) → wpList P ops Q rest (a.put o.dst v') w') : wpList P ops Q (o :: rest) a w := by
  obtain ⟨i0, hi, hz0, hz1, hz2⟩ := info_parts hinfo
  subst hm
  subst hn'
  have hbb : (n + M.length) * by_ ≤ 1000000 * 100 := Nat.mul_le_mul hl hby
  have hnews : ∀ (j : Nat) (u : Value), (flat enc M)[j]? = some u → w.cell? (ad.add j) = some u := by
    intro j u hu
    have hj := (List.getElem?_eq_some_iff.1 hu).1
    rw [flat_length he] at hj
    have hq : j / size < M.length := (Nat.div_lt_iff_lt_mul hsz).2 hj
    have hr0 : j % size < size := Nat.mod_lt _ hsz
    have ej : j / size * size + j % size = j := by have := Nat.div_add_mod j size; rw [Nat.mul_comm] at this; exact this
    obtain ⟨y, hy⟩ : ∃ y, M[j / size]? = some y := ⟨_, List.getElem?_eq_getElem hq⟩
    obtain ⟨ad', e', hc⟩ := hr _ y hy
    cases e'
    have hg := flat_get he hy hr0
    rw [ej, hu] at hg
    have := hc _ u hg.symm
    rwa [add_two, ej] at this
  refine wpList_append_own_at w hgd s x t ho base e i0 z size by_ ht hi hz0 hz1 hz2 hzs hsz v n (flat enc L) hs hown ad M.length c (flat enc M) hx (flat_length he M) hnews (fun u hu => flat_one' he hu) (by unfold maxLen; omega) (by omega) hb ?_
  intro v' w' h1 h2 _ h3
  rw [← flat_append] at h1
  exact h v' w' h1 ((Turn.refl _ w).grown h2 (fun i hi => .inl hi)) h3

/-- 'append(v, y)'; the block of y is made just ahead. -/
theorem wpList_append_flat_one {P : Program} {z : Value} {t e : TypeId} {by_ : Nat} (he : Enc enc size) (hsz : 0 < size) (ht : P.underlying t = some (.slice e)) (hinfo : (P.info? e).map (fun i => (i.zero, i.size, i.bytes)) = some (some z, size, by_)) (hzs : z.cells.size = size) (hby : by_ ≤ 100)
    {w0 : World} {ops : Array Oper} {rest : List Oper} {o : Oper} {a : Act} {Q : Exit → Act → World → Prop} (hgd : o.guard = none) (s x : Operand)
    (ho : o.op = .call { callee := .builtin .append, args := #[s, x], argTypes := #[t, t] }) (base : Nat) (v : Value) (L : List α) (n : Nat) (y : α) {Y : Array Value} (hY : Y = (enc y).toArray) (hs : a.eval s = v) (hown : w0.ownsRow base e size v n (flat enc L))
    (hx : a.eval x = .slice (some ⟨w0.heap.size, 0, none⟩) 1 1) (n' : Nat) (hn' : n + 1 = n') (hl : n' ≤ 1000000) (hb : base ≤ w0.heap.size)
    (h : ∀ g c w', base ≤ g → Hid (w'.ownsRow base e size (.slice (some ⟨g, 0, none⟩) n' c) n' (flat enc (L ++ [y]))) → Hid (Turn (fun i => v.ownBlock = some i) w0 w') → Hid (v.ownBlock = some g ∨ w0.heap.size ≤ g) → wpList P ops Q rest (a.put o.dst (.slice (some ⟨g, 0, none⟩) n' c)) w') :
    wpList P ops Q (o :: rest) a (w0.alloc (.cells Y e)) := by
  subst hY
  have t0 : Turn (fun i => v.ownBlock = some i) w0 (w0.alloc (.cells (enc y).toArray e)) := (Turn.refl _ w0).alloc _
  refine wpList_append_flat he hsz ht hinfo hzs hby hgd s x ho base v L n hs (hown.alloc _) ⟨w0.heap.size, 0, none⟩ [y] 1 1 rfl hx ?_ n' hn' hl (Nat.le_trans hb t0.size) ?_
  · intro j x hj
    have hj0 : j = 0 := by
      cases j with
      | zero => rfl
      | succ j => simp at hj
    subst hj0
    obtain rfl : y = x := by simpa using hj
    refine ⟨_, rfl, fun i u hu => ?_⟩
    rw [Nat.zero_mul, Addr.add_lit, Addr.add_lit, Nat.zero_add]
    have h0 := heap_alloc_new w0 (.cells (enc y).toArray e)
    unfold World.cell?
    rw [h0]
    simpa using hu
  · intro v' w' h1 h2 h3
    have h1' := h1.out
    rcases h1'.2 with ⟨_, h0⟩ | ⟨g, cap, cur, rfl, hb', _⟩
    · omega
    · refine h g cap w' hb' h1 (t0.trans h2.out) ?_
      rcases h3.out with h4 | h4
      · exact Or.inl h4.symm
      · right
        have h5 : g = (w0.alloc (.cells (enc y).toArray e)).heap.size := by simpa [Value.ownBlock] using h4
        have := t0.size
        omega
end

end Go.Proofs.Ytenbafkgfdlfpaa
