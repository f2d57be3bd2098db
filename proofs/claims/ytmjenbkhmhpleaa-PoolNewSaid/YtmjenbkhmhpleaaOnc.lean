/- What PoolOnce keeps: a pool, which things are out, and the document's numbers. -/
import Derived.Test.YtmjenbkhmhpleaaOpen
namespace Go.Proofs.Ytmjenbkhmhpleaa
open Go.RowKit
set_option linter.unusedVariables false

theorem info_bool : (Try.prog.info? 4).map (fun i => (i.zero, i.size, i.bytes)) = some (some (.bool false), 1, 1) := by kernel_rfl
theorem cells_false : (Value.bool false).cells = #[.bool false] := rfl

/-- Block g is n bools. -/
def BRow (w : World) (g n : Nat) (B : Nat → Bool) : Prop := ∃ arr : Array Value, w.heap[g]? = some (.cells arr 4 (0, 0)) ∧ ∀ i, i < n → arr[i]? = some (.bool (B i))
section
variable {w w' : World} {g n : Nat} {B B' : Nat → Bool} {S : Nat → Prop}
theorem BRow.of (h : Zeros w g n (.bool false) 4) : BRow w g n (fun _ => false) := ⟨_, h, fun i hi => Zeros.at_ hi⟩
theorem BRow.cell (h : BRow w g n B) {i : Nat} (hi : i < n) : w.cell? ⟨g, i, none⟩ = some (.bool (B i)) := by
  obtain ⟨arr, h1, h2⟩ := h
  simp [World.cell?, h1, h2 i hi]
theorem BRow.fr (h : BRow w g n B) (i : Nat) : w.frozen? ⟨g, i, none⟩ = false := by
  obtain ⟨arr, h1, _⟩ := h
  simp [World.frozen?, h1]
theorem BRow.turn (h : BRow w g n B) (t : Turn S w w') (hg : ¬ S g) : BRow w' g n B := by
  obtain ⟨arr, h1, h2⟩ := h
  exact ⟨arr, t.heap hg h1, h2⟩
theorem BRow.set (h : BRow w g n B) {i : Nat} (hi : i < n) (v : Bool) (hB : ∀ j, j < n → B' j = if j = i then v else B j) : BRow (w.setCell ⟨g, i, none⟩ (.bool v)) g n B' := by
  obtain ⟨arr, h1, h2⟩ := h
  refine ⟨arr.setIfInBounds i (.bool v), heap_setCell_at h1 _, fun j hj => ?_⟩
  have hs : i < arr.size := (Array.getElem?_eq_some_iff.1 (h2 i hi)).1
  rw [hB j hj]
  by_cases e : j = i
  · subst e
    rw [if_pos rfl, Array.getElem?_setIfInBounds_self_of_lt hs]
  · rw [if_neg e, Array.getElem?_setIfInBounds_ne (fun e' => e e'.symm)]
    exact h2 j hj
theorem BRow.lt (h : BRow w g n B) : g < w.heap.size := by
  obtain ⟨arr, h1, _⟩ := h
  exact (Array.getElem?_eq_some_iff.1 h1).1
end

structure Onc (w0 wx : World) (p q : Nat) (s : St) (R : Nat → Rw) (bo b6 n size most c : Nat) (B : Nat → Bool) : Prop where
  inn : In w0 wx p q s R
  out : BRow wx bo size B
  box : RBox wx b6 size most (some ⟨c, 0, none⟩) n n none 0 0 0
  fo : ¬ PB p q n R bo
  fb : ¬ PB p q n R b6
  ne : bo ≠ b6
  lo : w0.heap.size ≤ bo
  eqs : s.n = n ∧ s.size = size ∧ s.most = most
section
variable {w0 wx w' : World} {p q bo b6 n size most c : Nat} {s s' : St} {R : Nat → Rw} {B B' : Nat → Bool}
theorem Onc.new (h : Onc w0 wx p q s R bo b6 n size most c B) (t : Turn (fun _ => False) wx w') : Onc w0 w' p q s R bo b6 n size most c B :=
  ⟨h.inn.new t, h.out.turn t id, h.box.turn t id, h.fo, h.fb, h.ne, h.lo, h.eqs⟩
theorem Onc.drewN (h : Onc w0 wx p q s R bo b6 n size most c B) (k : Nat) : Onc w0 (wx.drewN k) p q s R bo b6 n size most c B := h.new ((Turn.refl _ _).drewN k)
theorem Onc.kept (h : Onc w0 wx p q s R bo b6 n size most c B) (hG : Good s') (he : s'.n = s.n ∧ s'.size = s.size ∧ s'.most = s.most) (k : Kept wx w' w0.heap.size p q s.n R s') :
    ∃ R', Onc w0 w' p q s' R' bo b6 n size most c B ∧ ∀ (b o : Nat) (v : Value), ¬ PB p q n R b → wx.cell? ⟨b, o, none⟩ = some v → w'.cell? ⟨b, o, none⟩ = some v := by
  have k0 := k
  obtain ⟨R', h1, t1, b1⟩ := k
  have ho := h.out.lt
  have hb := h.box.lt
  have en := h.eqs.1
  rw [en] at t1 b1
  refine ⟨R', ⟨⟨h1, hG, h.inn.t.and t1 (fun i hi e => by rw [← en] at e; have := (h.inn.pool.blocks e).1; omega)⟩, h.out.turn t1 h.fo, h.box.turn t1 h.fb, fun e => ?_, fun e => ?_, h.ne, h.lo, he.1.trans h.eqs.1, he.2.1.trans h.eqs.2.1, he.2.2.trans h.eqs.2.2⟩, fun b o v hb hv => t1.cell (p := ⟨b, o, none⟩) hb hv⟩
  · rcases b1 _ e with e | e
    · exact h.fo e
    · omega
  · rcases b1 _ e with e | e
    · exact h.fb e
    · omega
theorem Onc.set (h : Onc w0 wx p q s R bo b6 n size most c B) {i : Nat} (hi : i < size) (v : Bool) (hB : ∀ j, j < size → B' j = if j = i then v else B j) : Onc w0 (wx.setCell ⟨bo, i, none⟩ (.bool v)) p q s R bo b6 n size most c B' := by
  have t := setCell_turn wx bo i (.bool v)
  have en := h.eqs.1
  refine ⟨⟨h.inn.pool.turn t (fun k hk e => h.fo (by rw [← en]; have e' : k = bo := e; exact e' ▸ hk)), h.inn.good, h.inn.t.and t (fun k hk e => by have e' : k = bo := e; have := h.lo; omega)⟩, h.out.set hi v hB, h.box.turn t (fun e => h.ne e.symm), h.fo, h.fb, h.ne, h.lo, h.eqs⟩
end

/-- A slice of acts that is read. -/
def Acts (w : World) (ao : Option Addr) (A : List (Int × Int × Int)) : Prop :=
  ∀ j, j < A.length → ∃ a, ao = some a ∧ w.cell? (a.add (j * 3)) = some (.int .i64 (A.getD j (0, 0, 0)).1) ∧ w.cell? ((a.add (j * 3)).add 1) = some (.int .i64 (A.getD j (0, 0, 0)).2.1) ∧ w.cell? ((a.add (j * 3)).add 2) = some (.int .i64 (A.getD j (0, 0, 0)).2.2)
theorem Acts.turn {w w' : World} {S : Nat → Prop} {ao : Option Addr} {A : List (Int × Int × Int)} (h : Acts w ao A) (t : Turn S w w') (hs : ∀ ad, ao = some ad → ¬ S ad.block) : Acts w' ao A := by
  intro j hj
  obtain ⟨ad, e, h1, h2, h3⟩ := h j hj
  exact ⟨ad, e, t.cell (by rw [block_add]; exact hs ad e) h1, t.cell (by rw [block_add, block_add]; exact hs ad e) h2, t.cell (by rw [block_add, block_add]; exact hs ad e) h3⟩

theorem cnt_bounds {s : St} (h : Good s) : 0 ≤ cnt s ∧ cnt s ≤ 64 := by
  have h1 := h.len
  have h2 := h.fresh
  have h3 := h.size
  unfold cnt
  omega
theorem rows_sum {s : St} (h : Good s) : ∀ k, k ≤ s.n → len s.M k + (s.M s.n).length ≤ 64 := by
  intro k hk
  have h1 := h.len
  have h2 := h.fresh
  have h3 := h.size
  have h4 : s.len = len s.M s.n + (s.M s.n).length := rfl
  have h5 : ∀ m, k ≤ m → len s.M k ≤ len s.M m := by
    intro m
    induction m with
    | zero => intro e; have : k = 0 := by omega
              subst this; exact Nat.le_refl _
    | succ m ih =>
      intro e
      by_cases hkm : k = m + 1
      · subst hkm; exact Nat.le_refl _
      · have := ih (by omega)
        show len s.M k ≤ len s.M m + (s.M m).length
        omega
  have := h5 s.n hk
  omega

end Go.Proofs.Ytmjenbkhmhpleaa
