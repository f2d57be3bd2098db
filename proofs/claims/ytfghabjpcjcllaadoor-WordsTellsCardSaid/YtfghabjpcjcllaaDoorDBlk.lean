/- Blocks that are known whole; the document's byte at a sum. -/
import Derived.Test.YtfghabjpcjcllaaDoorDSmall
import Derived.Test.YtfghabjpcjcllaaDoorMGen
namespace Go.Proofs.YtfghabjpcjcllaaDoor
open Go.RowKit
set_option linter.unusedVariables false

/-- Block b is just these cells. -/
def Blk (w : World) (b : Nat) (e : TypeId) (cs : List Value) : Prop := w.heap[b]? = some (.cells cs.toArray e (0, 0))
section
variable {w w' : World} {b : Nat} {e : TypeId} {cs : List Value}
theorem Blk.turn {S : Nat → Prop} (h : Blk w b e cs) (t : Turn S w w') (hb : ¬ S b) : Blk w' b e cs := t.heap hb h
theorem Blk.new (h : Blk w b e cs) (t : Turn (fun _ => False) w w') : Blk w' b e cs := t.heap id h
theorem Blk.c (h : Blk w b e cs) (k : Nat) {u : Value} (hk : cs[k]? = some u) : w.cell? ⟨b, k, none⟩ = some u := by
  unfold Blk at h
  unfold World.cell?
  rw [h]
  simpa using hk
theorem Blk.fr (h : Blk w b e cs) (k : Nat) : w.frozen? ⟨b, k, none⟩ = false := by
  unfold Blk at h
  simp [World.frozen?, h]
theorem Blk.set (h : Blk w b e cs) (k : Nat) (u : Value) : Blk (w.setCell ⟨b, k, none⟩ u) b e (cs.set k u) := by
  unfold Blk at h ⊢
  rw [heap_setCell_at h]
  simp
theorem Blk.far (h : Blk w b e cs) {p : Addr} (hp : b ≠ p.block) (u : Value) : Blk (w.setCell p u) b e cs := (Below.heap_setCell w p u b hp).trans h
theorem Blk.lt (h : Blk w b e cs) : b < w.heap.size := (Array.getElem?_eq_some_iff.1 h).1
theorem blk_new (w : World) (cs : List Value) (e : TypeId) : Blk (w.alloc (.cells cs.toArray e)) w.heap.size e cs := heap_alloc_new w _
theorem set_turn (w : World) (b k : Nat) (u : Value) : Turn (fun i => i = b) w (w.setCell ⟨b, k, none⟩ u) := (Turn.refl (fun i => i = b) w).setCell (p := ⟨b, k, none⟩) (Or.inl rfl) u
end
/-- The six cells of an op that is built. -/
def Six (w : World) (b : Nat) (k0 k1 k2 k3 : Int) (s : Value) (f : Bool) : Prop := Blk w b 25 [.int .i64 k0, .int .i64 k1, .int .i64 k2, .int .i64 k3, s, .bool f]
section
variable {w w' : World} {b : Nat} {k0 k1 k2 k3 : Int} {s : Value} {f : Bool}
theorem Six.turn {S : Nat → Prop} (h : Six w b k0 k1 k2 k3 s f) (t : Turn S w w') (hb : ¬ S b) : Six w' b k0 k1 k2 k3 s f := Blk.turn h t hb
theorem Six.new (h : Six w b k0 k1 k2 k3 s f) (t : Turn (fun _ => False) w w') : Six w' b k0 k1 k2 k3 s f := Blk.new h t
theorem Six.cells (h : Six w b k0 k1 k2 k3 s f) : (w.cell? ⟨b, 0, none⟩ = some (.int .i64 k0) ∧ w.cell? ⟨b, 1, none⟩ = some (.int .i64 k1) ∧ w.cell? ⟨b, 2, none⟩ = some (.int .i64 k2) ∧ w.cell? ⟨b, 3, none⟩ = some (.int .i64 k3) ∧ w.cell? ⟨b, 4, none⟩ = some s ∧ w.cell? ⟨b, 5, none⟩ = some (.bool f)) ∧
    (w.frozen? ⟨b, 0, none⟩ = false ∧ w.frozen? ⟨b, 1, none⟩ = false ∧ w.frozen? ⟨b, 2, none⟩ = false ∧ w.frozen? ⟨b, 3, none⟩ = false ∧ w.frozen? ⟨b, 4, none⟩ = false ∧ w.frozen? ⟨b, 5, none⟩ = false) :=
  ⟨⟨h.c 0 rfl, h.c 1 rfl, h.c 2 rfl, h.c 3 rfl, h.c 4 rfl, h.c 5 rfl⟩, h.fr 0, h.fr 1, h.fr 2, h.fr 3, h.fr 4, h.fr 5⟩
theorem Six.put1 (h : Six w b k0 k1 k2 k3 s f) (x : Int) : Six (w.setCell ⟨b, 1, none⟩ (.int .i64 x)) b k0 x k2 k3 s f := Blk.set h 1 _
theorem Six.put2 (h : Six w b k0 k1 k2 k3 s f) (x : Int) : Six (w.setCell ⟨b, 2, none⟩ (.int .i64 x)) b k0 k1 x k3 s f := Blk.set h 2 _
theorem Six.put3 (h : Six w b k0 k1 k2 k3 s f) (x : Int) : Six (w.setCell ⟨b, 3, none⟩ (.int .i64 x)) b k0 k1 k2 x s f := Blk.set h 3 _
theorem Six.put4 (h : Six w b k0 k1 k2 k3 s f) (x : Value) : Six (w.setCell ⟨b, 4, none⟩ x) b k0 k1 k2 k3 x f := Blk.set h 4 _
theorem Six.put5 (h : Six w b k0 k1 k2 k3 s f) (x : Bool) : Six (w.setCell ⟨b, 5, none⟩ (.bool x)) b k0 k1 k2 k3 s x := Blk.set h 5 _
theorem Six.far (h : Six w b k0 k1 k2 k3 s f) {p : Addr} (hp : b ≠ p.block) (u : Value) : Six (w.setCell p u) b k0 k1 k2 k3 s f := Blk.far h hp u
/-- The whole is stored. -/
theorem Six.all (h : Six w b k0 k1 k2 k3 s f) (j0 j1 j2 j3 : Int) (s' : Value) (f' : Bool) : Six ((((((w.setCell ⟨b, 0, none⟩ (.int .i64 j0)).setCell ⟨b, 1, none⟩ (.int .i64 j1)).setCell ⟨b, 2, none⟩ (.int .i64 j2)).setCell ⟨b, 3, none⟩ (.int .i64 j3)).setCell ⟨b, 4, none⟩ s').setCell ⟨b, 5, none⟩ (.bool f')) b j0 j1 j2 j3 s' f' :=
  Blk.set (Blk.set (Blk.set (Blk.set (Blk.set (Blk.set h 0 _) 1 _) 2 _) 3 _) 4 _) 5 _
theorem six_turn (w : World) (b : Nat) (u0 u1 u2 u3 u4 u5 : Value) : Turn (fun i => i = b) w ((((((w.setCell ⟨b, 0, none⟩ u0).setCell ⟨b, 1, none⟩ u1).setCell ⟨b, 2, none⟩ u2).setCell ⟨b, 3, none⟩ u3).setCell ⟨b, 4, none⟩ u4).setCell ⟨b, 5, none⟩ u5) :=
  (((((set_turn w b 0 u0).trans (set_turn _ b 1 u1)).trans (set_turn _ b 2 u2)).trans (set_turn _ b 3 u3)).trans (set_turn _ b 4 u4)).trans (set_turn _ b 5 u5)
end
/-- The three cells of a case that is built. -/
def Three (w : World) (b : Nat) (f : Bool) (k1 k2 : Int) : Prop := Blk w b 40 [.bool f, .int .i64 k1, .int .i64 k2]
section
variable {w w' : World} {b : Nat} {k1 k2 : Int} {f : Bool}
theorem Three.turn {S : Nat → Prop} (h : Three w b f k1 k2) (t : Turn S w w') (hb : ¬ S b) : Three w' b f k1 k2 := Blk.turn h t hb
theorem Three.new (h : Three w b f k1 k2) (t : Turn (fun _ => False) w w') : Three w' b f k1 k2 := Blk.new h t
theorem Three.cells (h : Three w b f k1 k2) : (w.cell? ⟨b, 0, none⟩ = some (.bool f) ∧ w.cell? ⟨b, 1, none⟩ = some (.int .i64 k1) ∧ w.cell? ⟨b, 2, none⟩ = some (.int .i64 k2)) ∧ (w.frozen? ⟨b, 0, none⟩ = false ∧ w.frozen? ⟨b, 1, none⟩ = false ∧ w.frozen? ⟨b, 2, none⟩ = false) :=
  ⟨⟨h.c 0 rfl, h.c 1 rfl, h.c 2 rfl⟩, h.fr 0, h.fr 1, h.fr 2⟩
theorem Three.put1 (h : Three w b f k1 k2) (x : Int) : Three (w.setCell ⟨b, 1, none⟩ (.int .i64 x)) b f x k2 := Blk.set h 1 _
theorem Three.put2 (h : Three w b f k1 k2) (x : Int) : Three (w.setCell ⟨b, 2, none⟩ (.int .i64 x)) b f k1 x := Blk.set h 2 _
theorem Three.far (h : Three w b f k1 k2) {p : Addr} (hp : b ≠ p.block) (u : Value) : Three (w.setCell p u) b f k1 k2 := Blk.far h hp u
theorem Three.all (h : Three w b f k1 k2) (f' : Bool) (j1 j2 : Int) : Three (((w.setCell ⟨b, 0, none⟩ (.bool f')).setCell ⟨b, 1, none⟩ (.int .i64 j1)).setCell ⟨b, 2, none⟩ (.int .i64 j2)) b f' j1 j2 :=
  Blk.set (Blk.set (Blk.set h 0 _) 1 _) 2 _
theorem three_turn (w : World) (b : Nat) (u0 u1 u2 : Value) : Turn (fun i => i = b) w (((w.setCell ⟨b, 0, none⟩ u0).setCell ⟨b, 1, none⟩ u1).setCell ⟨b, 2, none⟩ u2) :=
  ((set_turn w b 0 u0).trans (set_turn _ b 1 u1)).trans (set_turn _ b 2 u2)

end
end Go.Proofs.YtfghabjpcjcllaaDoor
