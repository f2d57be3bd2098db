/- Blocks that are known whole; all blocks that a call has made and holds, in one fact; whole structs read and written. General, over any program. -/
import Derived.Test.YtenbafkgfdlfpaaGNest
import Derived.Deep.MidRow
namespace Go.Proofs.Ytenbafkgfdlfpaa
open Go.RowKit
set_option linter.unusedVariables false

/-- Block b is just these cells. -/
def Blk (w : World) (b : Nat) (e : TypeId) (cs : List Value) : Prop := w.heap[b]? = some (.cells cs.toArray e (0, 0))
section
variable {w w' : World} {b : Nat} {e : TypeId} {cs : List Value}
theorem Blk.turn {S : Nat → Prop} (h : Blk w b e cs) (t : Turn S w w') (hb : ¬ S b) : Blk w' b e cs := t.heap hb h
theorem Blk.new (h : Blk w b e cs) (t : Turn (fun _ => False) w w') : Blk w' b e cs := t.heap id h
theorem Blk.c (h : Blk w b e cs) (k : Nat) {u : Value} (hk : cs[k]? = some u) : w.cell? ⟨b, k, none⟩ = some u := by
  unfold Blk at h
  unfold World.cell?
  rw [h]
  simpa using hk
theorem Blk.fr (h : Blk w b e cs) (k : Nat) : w.frozen? ⟨b, k, none⟩ = false := by
  unfold Blk at h
  simp [World.frozen?, h]
theorem Blk.set (h : Blk w b e cs) (k : Nat) (u : Value) : Blk (w.setCell ⟨b, k, none⟩ u) b e (cs.set k u) := by
  unfold Blk at h ⊢
  rw [heap_setCell_at h]
  simp
theorem Blk.lt (h : Blk w b e cs) : b < w.heap.size := (Array.getElem?_eq_some_iff.1 h).1
theorem blk_new (w : World) (cs : List Value) (e : TypeId) : Blk (w.alloc (.cells cs.toArray e)) w.heap.size e cs := heap_alloc_new w _
theorem set_turn (w : World) (b k : Nat) (u : Value) : Turn (fun i => i = b) w (w.setCell ⟨b, k, none⟩ u) := (Turn.refl (fun i => i = b) w).setCell (p := ⟨b, k, none⟩) (Or.inl rfl) u
theorem Blk.row (h : Blk w b e cs) (cs' : List Value) : Blk (w.setRow b cs'.toArray) b e cs' := setRow_heap w b cs.toArray cs'.toArray e (0, 0) h
theorem row_turn (w : World) (b : Nat) (cs : Array Value) : Turn (fun i => i = b) w (w.setRow b cs) :=
  ⟨rfl, rfl, rfl, by simp, fun i hi hn => setRow_other w b i cs hn⟩
end

/-- A struct's type: so many cells. -/
def Struct (P : Program) (t : TypeId) (n : Nat) : Prop := (∃ d, P.underlying t = some d ∧ d.isRow = true) ∧ (P.info? t).map (·.size) = some n
section
variable {P : Program} {w w' : World} {b : Nat} {e t : TypeId} {cs : List Value}
/-- The whole is read. -/
theorem Blk.load (h : Blk w b e cs) (ht : Struct P t cs.length) : (Instr.loadAt t (.pointer (some ⟨b, 0, none⟩))).run P w = .ok (.agg cs.toArray) w := by
  obtain ⟨⟨d, hu, hd⟩, hi⟩ := ht
  exact run_loadAt_mid w b 0 t cs d (fun j v hv => by rw [Nat.zero_add]; exact h.c j hv) hu hd hi
theorem Blk.loadV (h : Blk w b e cs) (ht : Struct P t cs.length) : (loadVar t ⟨b, 0, none⟩).run P w = .ok (.agg cs.toArray) w := by
  obtain ⟨⟨d, hu, hd⟩, hi⟩ := ht
  exact run_loadVar_mid w b 0 t cs d (fun j v hv => by rw [Nat.zero_add]; exact h.c j hv) hu hd hi
theorem loads_of {a : Addr} {cs : List Value} (n : Nat) (h : ∀ j v, cs[j]? = some v → w.cell? (a.add j) = some v) (hn : cs.length = n) : (loadCellsFrom a 0 n #[]).run P w = .ok cs.toArray w := by
  subst hn
  have := run_loadCells_list (P := P) w a cs h
  simpa [loadCells] using this
theorem Blk.loads (h : Blk w b e cs) (n : Nat) (hn : cs.length = n) : (loadCellsFrom ⟨b, 0, none⟩ 0 n #[]).run P w = .ok cs.toArray w :=
  loads_of n (fun j v hv => by rw [Addr.add_mid, Nat.zero_add]; exact h.c j hv) hn
theorem Blk.partLoads (h : Blk w b e cs) (o : Nat) (ps : List Value) (hp : ∀ j v, ps[j]? = some v → cs[o + j]? = some v) (n : Nat) (hn : ps.length = n) : (loadCellsFrom ⟨b, o, none⟩ 0 n #[]).run P w = .ok ps.toArray w :=
  loads_of n (fun j v hv => by rw [Addr.add_mid]; exact h.c (o + j) (hp j v hv)) hn
theorem Blk.stores (h : Blk w b e cs) (cs' : List Value) (hl : cs'.length = cs.length) (h1 : ∀ v ∈ cs', v.oneCell' = true) :
    (storeCells ⟨b, 0, none⟩ cs' 0).run P w = .ok () (w.setRow b cs'.toArray) := by
  have := run_storeCells_from (P := P) b e cs' 0 cs.toArray w h (by simp [hl]) h1
  simpa using this
theorem Blk.partStores (h : Blk w b e cs) (o : Nat) (ps : List Value) (hl : o + ps.length ≤ cs.length) (h1 : ∀ v ∈ ps, v.oneCell' = true) :
    (storeCells ⟨b, o, none⟩ ps 0).run P w = .ok () (w.setCells b o ps) := by
  have := run_storeCells_cells (P := P) b o ps 0 w (fun j hj => by
      have hj' : o + j < cs.length := by omega
      simp only [Nat.add_zero]
      rw [h.c (o + j) (List.getElem?_eq_getElem hj')]; rfl) (fun j hj => by simp only [Nat.add_zero]; exact h.fr (o + j)) h1
  simpa using this
/-- A struct within it is read. -/
theorem Blk.part (h : Blk w b e cs) (o : Nat) (ps : List Value) (hp : ∀ j v, ps[j]? = some v → cs[o + j]? = some v) (ht : Struct P t ps.length) : (Instr.loadAt t (.pointer (some ⟨b, o, none⟩))).run P w = .ok (.agg ps.toArray) w := by
  obtain ⟨⟨d, hu, hd⟩, hi⟩ := ht
  exact run_loadAt_mid w b o t ps d (fun j v hv => h.c (o + j) (hp j v hv)) hu hd hi
/-- The whole is written. -/
theorem Blk.store (h : Blk w b e cs) (cs' : List Value) (hl : cs'.length = cs.length) (ht : Struct P t cs.length) (h1 : ∀ v ∈ cs', v.oneCell' = true) :
    (Instr.storeAt t (.pointer (some ⟨b, 0, none⟩)) (.agg cs'.toArray)).run P w = .ok () (w.setRow b cs'.toArray) := by
  simp only [Instr.storeAt, Instr.sureAddr, Sem.run_bind, Sem.run_pure, Result.andThen_ok,
    run_storeVar_row (P := P) w b e t cs.toArray cs'.toArray h (by rw [ht.2]; simp [hl]) (by simp [hl]) (all_oneCell_toArray h1)]
/-- A struct within it is written. -/
theorem Blk.storePart (h : Blk w b e cs) (o : Nat) (ps : List Value) (hl : o + ps.length ≤ cs.length) (ht : Struct P t ps.length) (h1 : ∀ v ∈ ps, v.oneCell' = true) :
    (Instr.storeAt t (.pointer (some ⟨b, o, none⟩)) (.agg ps.toArray)).run P w = .ok () (w.setCells b o ps) := by
  have := run_storeAt_mid (P := P) w b o t ps.toArray (fun j hj => ⟨by
    have hj' : o + j < cs.length := by simp at hj; omega
    rw [h.c (o + j) (List.getElem?_eq_getElem hj')]; rfl, h.fr (o + j)⟩) (by simpa using ht.2) (all_oneCell_toArray h1)
  simpa using this
theorem Blk.cells (b : Nat) (e : TypeId) : ∀ (ps : List Value) (o : Nat) (cs : List Value) (w : World), Blk w b e cs → Blk (w.setCells b o ps) b e (cs.take o ++ ps ++ cs.drop (o + ps.length)) ∨ cs.length < o + ps.length
  | [], o, cs, w, h => by left; simpa [World.setCells] using h
  | u :: ps, o, cs, w, h => by
    by_cases hl : cs.length < o + (u :: ps).length
    · exact .inr hl
    · left
      rcases Blk.cells b e ps (o + 1) (cs.set o u) _ (h.set o u) with k | k
      · rw [World.setCells]
        have e1 : (cs.set o u).take (o + 1) ++ ps ++ (cs.set o u).drop (o + 1 + ps.length) = cs.take o ++ (u :: ps) ++ cs.drop (o + (u :: ps).length) := by
          apply List.ext_getElem?
          intro i
          simp only [List.length_cons] at hl ⊢
          simp only [List.getElem?_append, List.length_append, List.length_take, List.length_set, List.length_cons, List.getElem?_take, List.getElem?_drop, List.getElem?_set, List.getElem?_cons]
          grind
        rwa [e1] at k
      · simp at k hl; omega
theorem cells_turn (b : Nat) : ∀ (ps : List Value) (o : Nat) (w : World), Turn (fun i => i = b) w (w.setCells b o ps)
  | [], o, w => Turn.refl _ w
  | u :: ps, o, w => by rw [World.setCells]; exact (set_turn w b o u).trans (cells_turn b ps (o + 1) _)
end

/-! ### All blocks of one's own -/
/-- Behind w0 nothing old has changed; these blocks, new ones each, are known whole. -/
structure Boxes (w0 w : World) (l : List (Nat × TypeId × List Value)) : Prop where
  t : Turn (fun _ => False) w0 w
  low : ∀ x ∈ l, w0.heap.size ≤ x.1
  one : (l.map (·.1)).Nodup
  blk : ∀ x ∈ l, Blk w x.1 x.2.1 x.2.2
section
variable {w0 w w' : World} {l : List (Nat × TypeId × List Value)}
theorem Boxes.start (w : World) : Boxes w w [] := ⟨Turn.refl _ w, by simp, by simp, by simp⟩
theorem Boxes.new (h : Boxes w0 w l) (t : Turn (fun _ => False) w w') : Boxes w0 w' l := ⟨h.t.trans t, h.low, h.one, fun x hx => (h.blk x hx).new t⟩
theorem Boxes.drew (h : Boxes w0 w l) : Boxes w0 w.drew l := h.new (Turn.refl _ w).drew
theorem Boxes.alloc (h : Boxes w0 w l) (e : TypeId) (cs : List Value) : Boxes w0 (w.alloc (.cells cs.toArray e)) (l ++ [(w.heap.size, e, cs)]) := by
  refine ⟨h.t.trans ((Turn.refl _ w).alloc _), ?_, ?_, ?_⟩
  · intro x hx
    rcases List.mem_append.1 hx with hx | hx
    · exact h.low x hx
    · obtain rfl : x = _ := by simpa using hx
      exact h.t.size
  · rw [List.map_append, List.nodup_append]
    refine ⟨h.one, by simp, ?_⟩
    intro a ha b hb e
    obtain ⟨x, hx, rfl⟩ := List.mem_map.1 ha
    obtain rfl : b = w.heap.size := by simpa using hb
    have := (h.blk x hx).lt
    omega
  · intro x hx
    rcases List.mem_append.1 hx with hx | hx
    · exact (h.blk x hx).new ((Turn.refl _ w).alloc _)
    · obtain rfl : x = _ := by simpa using hx
      exact blk_new w cs e
theorem Boxes.at (h : Boxes w0 w l) (i : Nat) {b : Nat} {e : TypeId} {cs : List Value} (hi : l[i]? = some (b, e, cs)) : Blk w b e cs := h.blk _ (List.mem_of_getElem? hi)
theorem Boxes.apart (h : Boxes w0 w l) {i : Nat} {b : Nat} {e : TypeId} {cs : List Value} (hi : l[i]? = some (b, e, cs)) {j : Nat} {x : Nat × TypeId × List Value} (hj : l[j]? = some x) (hx : x.1 = b) : j = i := by
  have h1 : (l.map (·.1))[i]? = some b := by simp [hi]
  have h2 : (l.map (·.1))[j]? = some b := by simp [hj, hx]
  obtain ⟨i1, i2⟩ := List.getElem?_eq_some_iff.1 h1
  obtain ⟨j1, j2⟩ := List.getElem?_eq_some_iff.1 h2
  exact (List.getElem_inj h.one).1 (j2.trans i2.symm)
/-- Block number i turns, no other one. -/
theorem Boxes.turned (h : Boxes w0 w l) (i : Nat) {b : Nat} {e : TypeId} {cs cs' : List Value} (hi : l[i]? = some (b, e, cs)) (t : Turn (fun k => k = b) w w') (hb : Blk w' b e cs') : Boxes w0 w' (l.set i (b, e, cs')) := by
  have hm : l.map (·.1) = (l.set i (b, e, cs')).map (·.1) := by
    rw [List.map_set]
    apply List.ext_getElem?
    intro k
    by_cases hk : k = i
    · subst hk
      obtain ⟨hlt, hv⟩ := List.getElem?_eq_some_iff.1 hi
      simp [hlt, hv]
    · rw [List.getElem?_set_ne (fun e => hk e.symm)]
  refine ⟨h.t.and t (fun k hk e' => ?_), ?_, hm ▸ h.one, ?_⟩
  · have := h.low _ (List.mem_of_getElem? hi)
    subst e'
    omega
  · intro x hx
    rcases List.mem_or_eq_of_mem_set hx with hx | rfl
    · exact h.low x hx
    · exact h.low (b, e, cs) (List.mem_of_getElem? hi)
  · intro x hx
    obtain ⟨j, hj⟩ := List.mem_iff_getElem?.1 hx
    by_cases hji : j = i
    · subst hji
      have hlt := (List.getElem?_eq_some_iff.1 hi).1
      rw [List.getElem?_set_self hlt] at hj
      obtain rfl := Option.some.inj hj
      exact hb
    · rw [List.getElem?_set_ne (fun e => hji e.symm)] at hj
      exact (h.blk x (List.mem_of_getElem? hj)).turn t (fun e' => hji (h.apart hi hj e'))
/-- Another block of one's own turns. -/
theorem Boxes.aside (h : Boxes w0 w l) {g : Nat} (t : Turn (fun k => k = g) w w') (hg : w0.heap.size ≤ g) (hn : ∀ x ∈ l, x.1 < g) : Boxes w0 w' l :=
  ⟨h.t.and t (fun k hk e => by omega), h.low, h.one, fun x hx => (h.blk x hx).turn t (fun e => by have := hn x hx; omega)⟩
theorem Boxes.put (h : Boxes w0 w l) (i : Nat) {b : Nat} {e : TypeId} {cs : List Value} (hi : l[i]? = some (b, e, cs)) (k : Nat) (u : Value) : Boxes w0 (w.setCell ⟨b, k, none⟩ u) (l.set i (b, e, cs.set k u)) :=
  h.turned i hi (set_turn w b k u) ((h.at i hi).set k u)
theorem Boxes.row (h : Boxes w0 w l) (i : Nat) {b : Nat} {e : TypeId} {cs : List Value} (hi : l[i]? = some (b, e, cs)) (cs' : List Value) : Boxes w0 (w.setRow b cs'.toArray) (l.set i (b, e, cs')) :=
  h.turned i hi (row_turn w b _) ((h.at i hi).row cs')
end

section
variable {P : Program} {w0 w : World} {l : List (Nat × TypeId × List Value)}
/-- Its cells, as the walk asks for them. -/
theorem Boxes.f (h : Boxes w0 w l) (i : Nat) {b : Nat} {e : TypeId} {cs : List Value} (hi : l[i]? = some (b, e, cs)) : ∀ k, w.cell? ⟨b, k, none⟩ = cs[k]? := fun k => by
  have := h.at i hi
  unfold Blk at this
  unfold World.cell?
  rw [this]
  simp
theorem Boxes.r (h : Boxes w0 w l) (i : Nat) {b : Nat} {e : TypeId} {cs : List Value} (hi : l[i]? = some (b, e, cs)) : ∀ k, w.frozen? ⟨b, k, none⟩ = false := fun k => (h.at i hi).fr k
theorem wp_load_box {o : Oper} {a : Act} {K : Act → World → Prop} {Q : Exit → Act → World → Prop} {ty : TypeId} {x : Operand} (ho : o.op = .load ty x) (B : Boxes w0 w l) (i : Nat) {b : Nat} {e : TypeId} {cs : List Value} (hi : l[i]? = some (b, e, cs))
    (hx : a.eval x = .pointer (some ⟨b, 0, none⟩)) (ht : Struct P ty cs.length) (h : K (a.put o.dst (.agg cs.toArray)) w) : o.wp P a w K Q := by
  obtain ⟨⟨d, hu, hd⟩, hs⟩ := ht
  exact wp_load_mid ty x ho b 0 hx cs d (fun j v hv => by rw [Nat.zero_add]; exact (B.at i hi).c j hv) hu hd hs h
theorem wpList_load_box {ops : Array Oper} {rest : List Oper} {o : Oper} {a : Act} {Q : Exit → Act → World → Prop} (hgd : o.guard = none) {ty : TypeId} {x : Operand} (ho : o.op = .load ty x) (B : Boxes w0 w l) (i : Nat) {b : Nat} {e : TypeId} {cs : List Value} (hi : l[i]? = some (b, e, cs))
    (hx : a.eval x = .pointer (some ⟨b, 0, none⟩)) (ht : Struct P ty cs.length) (h : wpList P ops Q rest (a.put o.dst (.agg cs.toArray)) w) : wpList P ops Q (o :: rest) a w :=
  wpList_plain hgd fun _ hK => wp_load_box ho B i hi hx ht (hK _ _ h)
/-- A struct within a box. -/
theorem wpList_load_part {ops : Array Oper} {rest : List Oper} {o : Oper} {a : Act} {Q : Exit → Act → World → Prop} (hgd : o.guard = none) {ty : TypeId} {x : Operand} (ho : o.op = .load ty x) (B : Boxes w0 w l) (i : Nat) {b : Nat} {e : TypeId} {cs : List Value} (hi : l[i]? = some (b, e, cs))
    (off : Nat) (ps : List Value) (hx : a.eval x = .pointer (some ⟨b, off, none⟩)) (hp : ∀ j v, ps[j]? = some v → cs[off + j]? = some v) (ht : Struct P ty ps.length) (h : wpList P ops Q rest (a.put o.dst (.agg ps.toArray)) w) : wpList P ops Q (o :: rest) a w := by
  obtain ⟨⟨d, hu, hd⟩, hs⟩ := ht
  exact wpList_load_mid hgd ty x ho b off hx ps d (fun j v hv => (B.at i hi).c (off + j) (hp j v hv)) hu hd hs h
theorem wp_store_box {o : Oper} {a : Act} {K : Act → World → Prop} {Q : Exit → Act → World → Prop} {ty : TypeId} {x y : Operand} (ho : o.op = .store ty x y) (B : Boxes w0 w l) (i : Nat) {b : Nat} {e : TypeId} {cs : List Value} (hi : l[i]? = some (b, e, cs))
    (hx : a.eval x = .pointer (some ⟨b, 0, none⟩)) (cs' : List Value) (hy : a.eval y = .agg cs'.toArray) (hl : cs'.length = cs.length) (ht : Struct P ty cs'.length) (h1 : ∀ v ∈ cs', v.oneCell' = true)
    (h : ∀ w', Hid (Boxes w0 w' (l.set i (b, e, cs'))) → Hid (Turn (fun k => k = b) w w') → K (a.put o.dst undef) w') : o.wp P a w K Q := by
  have hB := (B.at i hi)
  exact wp_store_row ty x y ho b cs'.toArray hx hy e cs.toArray hB (by rw [ht.2]; simp) (by simp [hl]) (all_oneCell_toArray h1) (h _ (B.row i hi cs') (row_turn w b _))
theorem wpList_store_box {ops : Array Oper} {rest : List Oper} {o : Oper} {a : Act} {Q : Exit → Act → World → Prop} (hgd : o.guard = none) {ty : TypeId} {x y : Operand} (ho : o.op = .store ty x y) (B : Boxes w0 w l) (i : Nat) {b : Nat} {e : TypeId} {cs : List Value} (hi : l[i]? = some (b, e, cs))
    (hx : a.eval x = .pointer (some ⟨b, 0, none⟩)) (cs' : List Value) (hy : a.eval y = .agg cs'.toArray) (hl : cs'.length = cs.length) (ht : Struct P ty cs'.length) (h1 : ∀ v ∈ cs', v.oneCell' = true)
    (h : ∀ w', Hid (Boxes w0 w' (l.set i (b, e, cs'))) → Hid (Turn (fun k => k = b) w w') → wpList P ops Q rest (a.put o.dst undef) w') : wpList P ops Q (o :: rest) a w :=
  wpList_plain hgd fun _ hK => wp_store_box ho B i hi hx cs' hy hl ht h1 fun w' h2 h3 => hK _ _ (h w' h2 h3)
/-- A struct of a row, wherever it lies, is read whole. -/
theorem wp_load_at {o : Oper} {a : Act} {K : Act → World → Prop} {Q : Exit → Act → World → Prop} {ty : TypeId} {x : Operand} (ho : o.op = .load ty x) {p : Addr} (hx : a.eval x = .pointer (some p)) {cs : List Value} (hr : (Instr.loadAt ty (.pointer (some p))).run P w = .ok (.agg cs.toArray) w)
    (h : K (a.put o.dst (.agg cs.toArray)) w) : o.wp P a w K Q := by
  unfold Oper.wp execOp
  simp only [ho, hx, Sem.run_bind, hr, Sem.run_pure, Result.andThen_ok]
  exact h
theorem wpList_load_at {ops : Array Oper} {rest : List Oper} {o : Oper} {a : Act} {Q : Exit → Act → World → Prop} (hgd : o.guard = none) {ty : TypeId} {x : Operand} (ho : o.op = .load ty x) {p : Addr} (hx : a.eval x = .pointer (some p)) {cs : List Value} (hr : (Instr.loadAt ty (.pointer (some p))).run P w = .ok (.agg cs.toArray) w)
    (h : wpList P ops Q rest (a.put o.dst (.agg cs.toArray)) w) : wpList P ops Q (o :: rest) a w :=
  wpList_plain hgd fun _ hK => wp_load_at ho hx hr (hK _ _ h)
theorem wpList_store_at {ops : Array Oper} {rest : List Oper} {o : Oper} {a : Act} {Q : Exit → Act → World → Prop} {w' : World} (hgd : o.guard = none) {ty : TypeId} {x y : Operand} (ho : o.op = .store ty x y) {p : Addr} (hx : a.eval x = .pointer (some p)) {cs : List Value} (hy : a.eval y = .agg cs.toArray) (hr : (Instr.storeAt ty (.pointer (some p)) (.agg cs.toArray)).run P w = .ok () w')
    (h : wpList P ops Q rest (a.put o.dst undef) w') : wpList P ops Q (o :: rest) a w :=
  wpList_plain hgd fun _ hK => by
    have := hK _ _ h
    unfold Oper.wp execOp
    simp only [ho, hx, hy, Sem.run_bind, hr, Sem.run_pure, Result.andThen_ok]
    exact this
/-- Results that lie in a box. -/
theorem ret_box {fn : Func} {tmps : Array Value} {p : Tmp} {ty : TypeId} (hf : fn.results = #[.cell p ty]) (B : Boxes w0 w l) (i : Nat) {b : Nat} {e : TypeId} {cs : List Value} (hi : l[i]? = some (b, e, cs)) (hp : tmps.getD p undef = .pointer (some ⟨b, 0, none⟩)) (ht : Struct P ty cs.length) :
    (results fn tmps).run P w = .ok (.agg cs.toArray) w := by
  obtain ⟨⟨d, hu, hd⟩, hs⟩ := ht
  refine results_cell_row hf tmps w b e cs.toArray (0, 0) d hp (B.at i hi) hu ?_ (by rw [hs]; simp)
  cases d <;> simp_all
theorem ret_box1 {fn : Func} {tmps : Array Value} {p q : Tmp} {ty : TypeId} (hf : fn.results = #[.cell p ty, .tmp q]) (B : Boxes w0 w l) (i : Nat) {b : Nat} {e : TypeId} {cs : List Value} (hi : l[i]? = some (b, e, cs)) (hp : tmps.getD p undef = .pointer (some ⟨b, 0, none⟩)) (ht : Struct P ty cs.length) {v : Value} (hv : tmps.getD q undef = v) :
    (results fn tmps).run P w = .ok (.tuple #[.agg cs.toArray, v]) w := by
  have hl := (B.at i hi).loadV ht
  have hp' : tmps[p]?.getD undef = .pointer (some ⟨b, 0, none⟩) := by simpa using hp
  have hv' : tmps[q]?.getD undef = v := by simpa using hv
  simp [results, hf, hp', hv', asAddr, hl]
theorem ret_box2 {fn : Func} {tmps : Array Value} {p q r : Tmp} {ty : TypeId} (hf : fn.results = #[.cell p ty, .tmp q, .tmp r]) (B : Boxes w0 w l) (i : Nat) {b : Nat} {e : TypeId} {cs : List Value} (hi : l[i]? = some (b, e, cs)) (hp : tmps.getD p undef = .pointer (some ⟨b, 0, none⟩)) (ht : Struct P ty cs.length) {v u : Value} (hv : tmps.getD q undef = v) (hu : tmps.getD r undef = u) :
    (results fn tmps).run P w = .ok (.tuple #[.agg cs.toArray, v, u]) w := by
  have hl := (B.at i hi).loadV ht
  have hp' : tmps[p]?.getD undef = .pointer (some ⟨b, 0, none⟩) := by simpa using hp
  have hv' : tmps[q]?.getD undef = v := by simpa using hv
  have hu' : tmps[r]?.getD undef = u := by simpa using hu
  simp [results, hf, hp', hv', hu', asAddr, hl]
end

section
variable {P : Program} {c : Code} {Q : Exit → Act → World → Prop} {a : Act} {W : World}
/-- The world is one of which this holds. -/
theorem at_world {φ : World → Prop} (h : φ W) (k : ∀ w', φ w' → c.wp P Q a w') : c.wp P Q a W := k W h
theorem size_alloc' (w : World) (o : Obj) : (w.alloc o).heap.size = w.heap.size + 1 := by simp
theorem boxes1 (w : World) (e0 : TypeId) (c0 : List Value) : Boxes w (w.alloc (.cells c0.toArray e0)) [(w.heap.size, e0, c0)] := (Boxes.start w).alloc e0 c0
theorem boxes2 (w : World) (e0 : TypeId) (c0 : List Value) (e1 : TypeId) (c1 : List Value) : Boxes w ((w.alloc (.cells c0.toArray e0)).alloc (.cells c1.toArray e1)) [(w.heap.size, e0, c0), (w.heap.size + 1, e1, c1)] := by
  have := (boxes1 w e0 c0).alloc e1 c1
  rwa [size_alloc'] at this
theorem boxes3 (w : World) (e0 : TypeId) (c0 : List Value) (e1 : TypeId) (c1 : List Value) (e2 : TypeId) (c2 : List Value) : Boxes w (((w.alloc (.cells c0.toArray e0)).alloc (.cells c1.toArray e1)).alloc (.cells c2.toArray e2)) [(w.heap.size, e0, c0), (w.heap.size + 1, e1, c1), (w.heap.size + 1 + 1, e2, c2)] := by
  have := (boxes2 w e0 c0 e1 c1).alloc e2 c2
  rwa [size_alloc', size_alloc'] at this
end

/-! ### Rows of structs -/
section
variable {α : Type} {enc : α → List Value} {size : Nat} {P : Program} {w w' : World} {e t : TypeId}
/-- A thing of a row is read whole. -/
theorem has_load {ao : Option Addr} {L : List α} (he : Enc enc size) (h : Has enc size w ao L) {j : Nat} {x : α} (hx : L[j]? = some x) (ht : Struct P t size) :
    ∃ a, ao = some a ∧ (Instr.loadAt t (.pointer (some (a.add (j * size))))).run P w = .ok (.agg (enc x).toArray) w ∧ (loadCellsFrom (a.add (j * size)) 0 size #[]).run P w = .ok (enc x).toArray w ∧ ∀ i u, (enc x)[i]? = some u → w.cell? ((a.add (j * size)).add i) = some u := by
  obtain ⟨a, ha, hc⟩ := h j x hx
  refine ⟨a, ha, ?_, loads_of size hc (he.len x), hc⟩
  obtain ⟨⟨d, hu, hd⟩, hi⟩ := ht
  have hl : (loadCells (a.add (j * size)) (enc x).length).run P w = .ok (enc x).toArray w := run_loadCells_list (P := P) w _ (enc x) hc
  cases hq : P.info? t with
  | none => simp [hq] at hi
  | some i =>
    have hs : i.size = (enc x).length := by rw [he.len]; simpa [hq] using hi
    have hagg : (isAgg t).run P w = .ok true w := by
      unfold isAgg
      rw [Sem.run_bind, run_underlying hu w]
      cases d <;> simp_all
    simp [Instr.loadAt, Instr.sureAddr, loadVar, Sem.run_bind, hagg, sizeOf, typeInfo, hq, hs, hl]
/-- A thing of a row of the call's own is written whole. -/
theorem own_store {base g n c : Nat} {L : List α} (he : Enc enc size) (h : w.ownsRow base e size (.slice (some ⟨g, 0, none⟩) n c) n (flat enc L)) {j : Nat} (y : α) (hj : j < L.length) (ht : (P.info? t).map (·.size) = some size) :
    ∃ w', (Instr.storeAt t (.pointer (some ⟨g, j * size, none⟩)) (.agg (enc y).toArray)).run P w = .ok () w' ∧ (storeCells ⟨g, j * size, none⟩ (enc y) 0).run P w = .ok () w' ∧ w'.ownsRow base e size (.slice (some ⟨g, 0, none⟩) n c) n (flat enc (L.set j y)) ∧ Turn (fun i => i = g) w w' := by
  obtain ⟨x, hx⟩ : ∃ x, L[j]? = some x := ⟨_, List.getElem?_eq_getElem hj⟩
  have hth : w.there g (j * size) (enc y).length := fun i hi => by
    have hi' : i < size := by simpa [he.len] using hi
    obtain ⟨u, hu⟩ : ∃ u, (enc x)[i]? = some u := ⟨_, List.getElem?_eq_getElem (by rw [he.len]; exact hi')⟩
    obtain ⟨c1, c2⟩ := own_at he h hx hu
    exact ⟨by rw [c1]; rfl, c2⟩
  refine ⟨w.setCells g (j * size) (enc y), ?_, ?_, ?_, cells_turn g _ _ w⟩
  · have := run_storeAt_mid (P := P) w g (j * size) t (enc y).toArray (fun i hi => by
      have hi' : i < size := by simpa [he.len] using hi
      obtain ⟨u, hu⟩ : ∃ u, (enc x)[i]? = some u := ⟨_, List.getElem?_eq_getElem (by rw [he.len]; exact hi')⟩
      obtain ⟨c1, c2⟩ := own_at he h hx hu
      exact ⟨by rw [c1]; rfl, c2⟩) (by simpa [he.len] using ht) (all_oneCell_toArray (he.one y))
    simpa using this
  · have := run_storeCells_cells (P := P) g (j * size) (enc y) 0 w (fun i hi => by simpa using (hth i hi).1) (fun i hi => by simpa using (hth i hi).2) (he.one y)
    simpa using this
  · have key : ∀ (ps : List Value) (o : Nat) (w : World) (xs : List Value), w.ownsRow base e size (.slice (some ⟨g, 0, none⟩) n c) n xs → (w.setCells g o ps).ownsRow base e size (.slice (some ⟨g, 0, none⟩) n c) n ((List.range ps.length).foldl (fun zs i => zs.set (o + i) (ps.getD i undef)) xs) := by
      intro ps
      induction ps with
      | nil => intro o w xs h; simpa [World.setCells] using h
      | cons u ps ih =>
        intro o w xs h
        rw [World.setCells]
        have := ih (o + 1) _ _ (h.stored o u).1
        rw [List.length_cons, List.range_succ_eq_map, List.foldl_cons, List.foldl_map]
        have e1 : (fun (zs : List Value) (i : Nat) => zs.set (o + 1 + i) (ps.getD i undef)) = fun zs i => zs.set (o + (i + 1)) ((u :: ps).getD (i + 1) undef) := by
          funext zs i
          rw [List.getD_cons_succ, Nat.add_assoc, Nat.add_comm 1 i]
        rw [e1] at this
        exact this
    have := key (enc y) (j * size) w _ h
    have e2 : (List.range (enc y).length).foldl (fun zs i => zs.set (j * size + i) ((enc y).getD i undef)) (flat enc L) = flat enc (L.set j y) := by
      have fold : ∀ (m : Nat) (zs : List Value) (k : Nat), ((List.range m).foldl (fun zs i => zs.set (j * size + i) ((enc y).getD i undef)) zs)[k]? = if j * size ≤ k ∧ k < j * size + m ∧ k < zs.length then some ((enc y).getD (k - j * size) undef) else zs[k]? := by
        intro m
        induction m with
        | zero => intro zs k; rw [if_neg (by omega)]; rfl
        | succ m ih =>
          intro zs k
          rw [List.range_succ, List.foldl_append, List.foldl_cons, List.foldl_nil, List.getElem?_set]
          have hlen : ((List.range m).foldl (fun zs i => zs.set (j * size + i) ((enc y).getD i undef)) zs).length = zs.length := by
            generalize List.range m = r
            induction r generalizing zs with
            | nil => rfl
            | cons a r ih2 => rw [List.foldl_cons, ih2]; simp
          rw [hlen, ih]
          by_cases hk : j * size + m = k
          · subst hk
            by_cases hz : j * size + m < zs.length
            · simp [hz]
            · simp [hz]
          · rw [if_neg hk]
            by_cases hc : j * size ≤ k ∧ k < j * size + m ∧ k < zs.length
            · rw [if_pos hc, if_pos (by omega)]
            · rw [if_neg hc, if_neg (by omega)]
      apply List.ext_getElem?
      intro k
      rw [fold, he.len]
      by_cases hk : j * size ≤ k ∧ k < j * size + size ∧ k < (flat enc L).length
      · rw [if_pos hk]
        have := flat_get he (L := L.set j y) (j := j) (i := k - j * size) (x := y) (by rw [List.getElem?_set_self hj]) (by omega)
        rw [show j * size + (k - j * size) = k by omega] at this
        rw [this]
        have hlt : k - j * size < (enc y).length := by rw [he.len]; omega
        simp [List.getD, hlt]
      · rw [if_neg hk]
        have hsz : (flat enc L).length = L.length * size := flat_length he L
        by_cases hk2 : k < (flat enc L).length
        · have hs0 : 0 < size := by
            rcases Nat.eq_zero_or_pos size with h0 | h0
            · rw [hsz, h0] at hk2; simp at hk2
            · exact h0
          rw [hsz] at hk2
          have hq : k / size < L.length := (Nat.div_lt_iff_lt_mul hs0).2 hk2
          have hr0 : k % size < size := Nat.mod_lt _ hs0
          have ej : k / size * size + k % size = k := by have := Nat.div_add_mod k size; rw [Nat.mul_comm] at this; exact this
          have hne : k / size ≠ j := by
            intro e'
            rw [e'] at ej
            exact hk ⟨by omega, by omega, by rw [hsz]; exact hk2⟩
          obtain ⟨z, hz⟩ : ∃ z, L[k / size]? = some z := ⟨_, List.getElem?_eq_getElem hq⟩
          have h1 := flat_get he hz hr0
          have h2 := flat_get he (L := L.set j y) (j := k / size) (x := z) (by rw [List.getElem?_set_ne (fun e => hne e.symm)]; exact hz) hr0
          rw [ej] at h1 h2
          rw [h1, h2]
        · rw [List.getElem?_eq_none (by omega), List.getElem?_eq_none (by rw [flat_length he, List.length_set]; rw [hsz] at hk2; omega)]
    rw [e2] at this
    exact this
end

end Go.Proofs.Ytenbafkgfdlfpaa
