/- refill and spill. -/
import Derived.Test.YtmjenbkhmhpleaaMoved
import Derived.Deep.DeepCutAuto
namespace Go.Proofs.Ytmjenbkhmhpleaa
open Go.RowKit
set_option linter.unusedVariables false

section
variable {w w' w5 : World} {base p q size most n fresh : Nat} {R : Nat → Rw} {s : St} {S : Nat → Prop}
theorem setCell_turn (w : World) (b o : Nat) (v : Value) : Turn (fun i => i = b) w (w.setCell ⟨b, o, none⟩ v) := (Turn.refl (fun i => i = b) w).setCell (p := ⟨b, o, none⟩) (Or.inl rfl) v
theorem Turn.frz {a b : World} (h : Turn S a b) {p : Addr} (hp : ¬ S p.block) (hlt : p.block < a.heap.size) : b.frozen? p = a.frozen? p := by
  unfold World.frozen?
  rw [h.block _ hlt hp]
theorem PCells.put3 (h : PCells w p q size most n fresh R) (hne : p ≠ q) (r : Rw) : PCells (w.setCell ⟨p, 3, none⟩ r.v) p q size most n fresh (setR R n r) := by
  obtain ⟨arr, h1, h2⟩ := h.row
  refine ⟨?_, arr, (setCell_turn w p 3 r.v).heap (fun e => hne e.symm) h1, fun i hi => ?_⟩
  · rw [heap_setCell_at h.box, setR_same]
    rfl
  · rw [setR_other _ _ (by omega)]
    exact h2 i hi
theorem PCells.putq (h : PCells w p q size most n fresh R) (hne : p ≠ q) {g : Nat} (hg : g < n) (r : Rw) : PCells (w.setCell ⟨q, g, none⟩ r.v) p q size most n fresh (setR R g r) := by
  obtain ⟨arr, h1, h2⟩ := h.row
  refine ⟨?_, arr.setIfInBounds g r.v, heap_setCell_at h1 _, fun i hi => ?_⟩
  · rw [setR_other _ _ (by omega)]
    exact (setCell_turn w q g r.v).heap hne h.box
  · have hs : g < arr.size := (Array.getElem?_eq_some_iff.1 (h2 g hg)).1
    by_cases e : i = g
    · subst e
      rw [setR_same, Array.getElem?_setIfInBounds_self_of_lt hs]
    · rw [setR_other _ _ e, Array.getElem?_setIfInBounds_ne (fun e' => e e'.symm)]
      exact h2 i hi
theorem PCells.put4 (h : PCells w p q size most n fresh R) (hne : p ≠ q) (f : Nat) : PCells (w.setCell ⟨p, 4, none⟩ (.int .i64 f)) p q size most n f R := by
  obtain ⟨arr, h1, h2⟩ := h.row
  refine ⟨?_, arr, (setCell_turn w p 4 _).heap (fun e => hne e.symm) h1, h2⟩
  rw [heap_setCell_at h.box]
  rfl
theorem Lie.set (h : Lie w base p q n R) {b : Nat} (hb : b = p ∨ b = q) (o : Nat) (v : Value) : Lie (w.setCell ⟨b, o, none⟩ v) base p q n R :=
  h.turn (setCell_turn w b o v) (fun i k hi hk e => by
    have := h.far i k hi hk
    have e' : k = b := e
    rcases hb with rfl | rfl
    · exact this.1 e'
    · exact this.2 e')
/-- Row i is cut, row j has grown. -/
theorem Lie.moved (h : Lie w base p q n R) (hp : p < w.heap.size) (hq : q < w.heap.size) {i j : Nat} (hi : i ≤ n) (hj : j ≤ n) (hij : i ≠ j) {ri rj : Rw} (hri : ri.a = (R i).a ∧ ri.c = (R i).c) (hli : ri.l = cut (R i).l)
    (hrj : rj.own w5 base) (t : Turn (fun k => (R j).v.ownBlock = some k) w w5) (hb : ∀ k, rj.v.ownBlock = some k → (R j).v.ownBlock = some k ∨ w.heap.size ≤ k) : Lie w5 base p q n (setR (setR R i ri) j rj) := by
  have oi : ri.own w base := by
    have h1 := h.own i hi
    unfold Rw.own Rw.v at h1 ⊢
    rw [hri.1, hri.2, hli]
    exact own_cut h1 (by rw [cut_length]; omega) (by rw [cut_length]; rfl)
  have bi : ri.v.ownBlock = (R i).v.ownBlock := by
    unfold Rw.v
    rw [own_block, own_block, hri.1]
  have get : ∀ k, setR (setR R i ri) j rj k = if k = j then rj else if k = i then ri else R k := fun k => rfl
  have blk : ∀ k, k ≠ j → (setR (setR R i ri) j rj k).v.ownBlock = (R k).v.ownBlock := fun k hk => by
    rw [get, if_neg hk]
    by_cases e : k = i
    · subst e; rw [if_pos rfl]; exact bi
    · rw [if_neg e]
  have blkj : (setR (setR R i ri) j rj j).v.ownBlock = rj.v.ownBlock := by rw [get, if_pos rfl]
  refine ⟨fun k hk => ?_, fun a b k ha hb' hab hk => ?_, fun a k ha hk => ?_⟩
  · rw [get]
    by_cases e : k = j
    · rw [if_pos e]; exact hrj
    · rw [if_neg e]
      by_cases e2 : k = i
      · subst e2
        rw [if_pos rfl]
        exact own_turn oi t (fun m hm hm' => h.apart k j m hk hj e (bi ▸ hm) hm')
      · rw [if_neg e2]
        exact own_turn (h.own k hk) t (fun m hm hm' => h.apart k j m hk hj e hm hm')
  · by_cases e : a = j
    · subst e
      rw [blkj] at hk
      rw [blk b (fun e => hab e.symm)]
      rcases hb k hk with h1 | h1
      · exact h.apart a b k ha hb' hab h1
      · intro h2
        have := ((h.own b hb').lt k h2).2
        omega
    · rw [blk a e] at hk
      by_cases e2 : b = j
      · subst e2
        rw [blkj]
        intro h2
        rcases hb k h2 with h1 | h1
        · exact h.apart a b k ha hb' hab hk h1
        · have := ((h.own a ha).lt k hk).2
          omega
      · rw [blk b e2]
        exact h.apart a b k ha hb' hab hk
  · by_cases e : a = j
    · subst e
      rw [blkj] at hk
      rcases hb k hk with h1 | h1
      · exact h.far a k ha h1
      · omega
    · rw [blk a e] at hk
      exact h.far a k ha hk
theorem move_next (M : Nat → List Int) {i j : Nat} (hij : i ≠ j) {t : Nat} (ht : t < (M i).length) {R : Nat → Rw} {ri rj : Rw} {n : Nat} (hi : i ≤ n) (hj : j ≤ n) (h : ∀ k, k ≤ n → (R k).l = moveM M i j t k) (hri : ri.l = cut (R i).l) (hrj : rj.l = (R j).l ++ [lastOf (R i).l]) :
    ∀ k, k ≤ n → (setR (setR R i ri) j rj k).l = moveM M i j (t + 1) k := by
  intro k hk
  show (if k = j then rj else if k = i then ri else R k).l = _
  by_cases e : k = j
  · subst e
    rw [if_pos rfl, hrj, h i hi, h k hk, move_j, move_j, move_i _ _ hij]
    exact shT_next _ _ _ ht
  · rw [if_neg e]
    by_cases e2 : k = i
    · subst e2
      rw [if_pos rfl, hri, h k hk, move_i _ _ hij, move_i _ _ hij]
      exact shF_next _ _
    · rw [if_neg e2, h k hk, move_k _ _ e2 e, move_k _ _ e2 e]
end

/-- What a call upon the pool leaves: it is as told, and nothing that was has turned but its blocks. -/
def Kept (w w' : World) (base p q n : Nat) (R : Nat → Rw) (s : St) : Prop :=
  ∃ R', IsPool w' base p q s R' ∧ Turn (PB p q n R) w w' ∧ ∀ i, PB p q n R' i → PB p q n R i ∨ w.heap.size ≤ i
theorem Kept.and {w w1 w2 : World} {base p q n : Nat} {R R1 : Nat → Rw} {s : St} (t1 : Turn (PB p q n R) w w1) (b1 : ∀ i, PB p q n R1 i → PB p q n R i ∨ w.heap.size ≤ i) (k : Kept w1 w2 base p q n R1 s) : Kept w w2 base p q n R s := by
  obtain ⟨R2, h2, t2, b2⟩ := k
  refine ⟨R2, h2, t1.and t2 (fun i hi e => ?_), fun i hi => ?_⟩
  · rcases b1 i e with h | h
    · exact h
    · omega
  · rcases b2 i hi with h | h
    · exact b1 i h
    · right; have := t1.size; omega
theorem Kept.refl {w : World} {base p q : Nat} {R : Nat → Rw} {s : St} (h : IsPool w base p q s R) (k : Nat) : Kept w (w.drewN k) base p q s.n R s :=
  ⟨R, h.drewN k, (Turn.refl _ _).drewN k, fun _ => Or.inl⟩

/-- One step of refill and spill, as the pool sees it. -/
theorem IsPool.step {w w5 : World} {base p q : Nat} {R : Nat → Rw} {s : St} {i j t : Nat} {M : Nat → List Int} (h : IsPool w base p q { s with M := moveM M i j t } R) (hi : i ≤ s.n) (hj : j ≤ s.n) (hij : i ≠ j) (ht : t < (M i).length) {g c' n' m' : Nat}
    (hn : ((R i).l).length = n' + 1) (hm : ((R j).l).length + 1 = m')
    (o : w5.ownsRow base 3 1 (.slice (some ⟨g, 0, none⟩) m' c') m' (((R j).l ++ [lastOf (R i).l]).map (Value.int .i64))) (tn : Turn (fun k => (R j).v.ownBlock = some k) w w5) (b : (R j).v.ownBlock = some g ∨ w.heap.size ≤ g) :
    (j < s.n → i = s.n → Kept w ((w5.setCell ⟨p, 3, none⟩ (.slice (R i).a n' (R i).c)).setCell ⟨q, j, none⟩ (.slice (some ⟨g, 0, none⟩) m' c')) base p q s.n R { s with M := moveM M i j (t + 1) }) ∧
    (i < s.n → j = s.n → Kept w ((w5.setCell ⟨q, i, none⟩ (.slice (R i).a n' (R i).c)).setCell ⟨p, 3, none⟩ (.slice (some ⟨g, 0, none⟩) m' c')) base p q s.n R { s with M := moveM M i j (t + 1) }) := by
  obtain ⟨ri, hri⟩ : ∃ ri : Rw, ri = ⟨(R i).a, (R i).c, cut (R i).l⟩ := ⟨_, rfl⟩
  obtain ⟨rj, hrj⟩ : ∃ rj : Rw, rj = ⟨some ⟨g, 0, none⟩, c', (R j).l ++ [lastOf (R i).l]⟩ := ⟨_, rfl⟩
  have vi : (Value.slice (R i).a n' (R i).c) = ri.v := by
    rw [hri]
    unfold Rw.v
    rw [cut_length, hn]
    rfl
  have vj : (Value.slice (some ⟨g, 0, none⟩) m' c') = rj.v := by
    rw [hrj]
    unfold Rw.v
    rw [List.length_append, ← hm]
    rfl
  have oj : rj.own w5 base := by
    unfold Rw.own
    rw [← vj, show rj.l = (R j).l ++ [lastOf (R i).l] by rw [hrj], show ((R j).l ++ [lastOf (R i).l]).length = m' by rw [List.length_append, ← hm]; rfl]
    exact o
  have gj : ∀ k, rj.v.ownBlock = some k → (R j).v.ownBlock = some k ∨ w.heap.size ≤ k := fun k hk => by
    rw [← vj] at hk
    cases hk
    exact b
  have hr := h.rows.moved h.cells.ltp h.cells.ltq hi hj hij (ri := ri) (rj := rj) ⟨by rw [hri], by rw [hri]⟩ (by rw [hri]) oj tn gj
  have hm' := move_next M hij ht (R := R) (ri := ri) (rj := rj) hi hj (n := s.n) h.m (by rw [hri]) (by rw [hrj])
  have hc : PCells w5 p q s.size s.most s.n s.fresh R := h.cells.turn tn (fun e => (h.rows.far j p hj e).1 rfl) (fun e => (h.rows.far j q hj e).2 rfl)
  have hpb : ∀ k, PB p q s.n (setR (setR R i ri) j rj) k → PB p q s.n R k ∨ w.heap.size ≤ k := by
    rintro k (e | e | ⟨x, hx, e⟩)
    · exact Or.inl (Or.inl e)
    · exact Or.inl (Or.inr (Or.inl e))
    · have e' : (if x = j then rj else if x = i then ri else R x).v.ownBlock = some k := e
      by_cases e1 : x = j
      · rw [if_pos e1] at e'
        rcases gj k e' with h1 | h1
        · exact Or.inl (Or.inr (Or.inr ⟨j, hj, h1⟩))
        · exact Or.inr h1
      · rw [if_neg e1] at e'
        by_cases e2 : x = i
        · rw [if_pos e2, ← vi, own_block] at e'
          refine Or.inl (Or.inr (Or.inr ⟨i, hi, ?_⟩))
          unfold Rw.v
          rw [own_block]; exact e'
        · rw [if_neg e2] at e'
          exact Or.inl (Or.inr (Or.inr ⟨x, hx, e'⟩))
  have t0 : Turn (PB p q s.n R) w w5 := tn.mono (fun k _ e => Or.inr (Or.inr ⟨j, hj, e⟩))
  rw [vi, vj]
  refine ⟨fun h1 h2 => ?_, fun h1 h2 => ?_⟩
  · have r1 := hr.set (Or.inl rfl) 3 ri.v
    have r2 := r1.set (Or.inr rfl) j rj.v
    have k1 : PCells (w5.setCell ⟨p, 3, none⟩ ri.v) p q s.size s.most s.n s.fresh (setR R i ri) := by
      rw [h2]; exact hc.put3 h.ne ri
    have k2 := k1.putq h.ne h1 rj
    have t1 := t0.setCell (p := ⟨p, 3, none⟩) (Or.inl (Or.inl rfl)) ri.v
    have t2 := t1.setCell (p := ⟨q, j, none⟩) (Or.inl (Or.inr (Or.inl rfl))) rj.v
    exact ⟨_, IsPool.mk (s := { s with M := moveM M i j (t + 1) }) r2 k2 hm' h.ne h.bp h.bq, t2, hpb⟩
  · have r1 := hr.set (Or.inr rfl) i ri.v
    have r2 := r1.set (Or.inl rfl) 3 rj.v
    have k1 := hc.putq h.ne h1 ri
    have k2 : PCells ((w5.setCell ⟨q, i, none⟩ ri.v).setCell ⟨p, 3, none⟩ rj.v) p q s.size s.most s.n s.fresh (setR (setR R i ri) j rj) := by
      rw [h2]; exact k1.put3 h.ne rj
    have t1 := t0.setCell (p := ⟨q, i, none⟩) (Or.inl (Or.inr (Or.inl rfl))) ri.v
    have t2 := t1.setCell (p := ⟨p, 3, none⟩) (Or.inl (Or.inl rfl)) rj.v
    exact ⟨_, IsPool.mk (s := { s with M := moveM M i j (t + 1) }) r2 k2 hm' h.ne h.bp h.bq, t2, hpb⟩

end Go.Proofs.Ytmjenbkhmhpleaa
