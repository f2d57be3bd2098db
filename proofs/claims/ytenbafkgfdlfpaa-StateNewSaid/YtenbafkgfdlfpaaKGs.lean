/- The code's copiedGs: goroutines, in memory of their own. -/
import Derived.Test.YtenbafkgfdlfpaaKOp
namespace Go.Proofs.Ytenbafkgfdlfpaa
open Go.RowKit
set_option linter.unusedVariables false

/-- Ops that lie in D, all of them. -/
structure QOps (D : Nat → Prop) (w : World) (s : Sl) (l : List Opr) : Prop where
  ok : s.Ok l.length
  dom : ∀ ad, s.ao = some ad → D ad.block
  has : ∃ R : List OpV, R.length = l.length ∧ Has encOV 6 w s.ao R ∧ ∀ (i : Nat) r o, R[i]? = some r → l[i]? = some o → ROp w r o ∧ ∀ ad, r.cs.ao = some ad → D ad.block
theorem rop_keep {S : Nat → Prop} {w w' : World} {r : OpV} {o : Opr} (h : ROp w r o) (t : Turn S w w') (hd : ∀ ad, r.cs.ao = some ad → ¬ S ad.block) : ROp w' r o :=
  ⟨h.kind, h.ch, h.n, h.v, h.els, ⟨h.cs.ok, h.cs.has.turn t hd⟩⟩
section
variable {D D' S : Nat → Prop} {w w' : World} {s : Sl} {l : List Opr}
theorem QOps.keep (h : QOps D w s l) (t : Turn S w w') (hs : ∀ i, D i → ¬ S i) : QOps D w' s l := by
  obtain ⟨R, h1, h2, h3⟩ := h.has
  exact ⟨h.ok, h.dom, R, h1, h2.turn t (fun ad e => hs _ (h.dom ad e)), fun i r o hr ho => ⟨rop_keep (h3 i r o hr ho).1 t (fun ad e => hs _ ((h3 i r o hr ho).2 ad e)), (h3 i r o hr ho).2⟩⟩
theorem QOps.mono (h : QOps D w s l) (hd : ∀ i, D i → D' i) : QOps D' w s l := by
  obtain ⟨R, h1, h2, h3⟩ := h.has
  exact ⟨h.ok, fun ad e => hd _ (h.dom ad e), R, h1, h2, fun i r o hr ho => ⟨(h3 i r o hr ho).1, fun ad e => hd _ ((h3 i r o hr ho).2 ad e)⟩⟩
theorem QOps.ops (h : QOps D w s l) : ROps w s l := by
  obtain ⟨R, h1, h2, h3⟩ := h.has
  exact ⟨h.ok, R, h1, h2, fun i r o hr ho => (h3 i r o hr ho).1⟩
end
/-- A goroutine's rows, all in D. -/
structure CG (D : Nat → Prop) (w : World) (x : GV) : Prop where
  ops : QOps D w x.so x.g.ops
  order : RI .i64 D w x.sr x.g.order
  locks : RI .i64 D w x.sl x.g.locks
  sgs : RI .i64 D w x.ss x.g.sgs
  wakes : RI .i64 D w x.sw x.g.wakes
section
variable {D D' S : Nat → Prop} {w w' : World} {x : GV}
theorem CG.keep (h : CG D w x) (t : Turn S w w') (hs : ∀ i, D i → ¬ S i) : CG D w' x := ⟨h.ops.keep t hs, h.order.keep t hs, h.locks.keep t hs, h.sgs.keep t hs, h.wakes.keep t hs⟩
theorem CG.mono (h : CG D w x) (hd : ∀ i, D i → D' i) : CG D' w x := ⟨h.ops.mono hd, h.order.mono hd, h.locks.mono hd, h.sgs.mono hd, h.wakes.mono hd⟩
theorem CG.reads (h : CG D w x) : RG (fun _ => True) w x := ⟨⟨w, h.ops.ops, Turn.refl _ _, fun _ _ => trivial⟩, h.order.mono (fun _ _ => trivial), h.locks.mono (fun _ _ => trivial), h.sgs.mono (fun _ _ => trivial), h.wakes.mono (fun _ _ => trivial)⟩
end

/-- Rows of no more than a million. -/
structure Tame (g : Gr) : Prop where
  ops : MildL g.ops
  order : g.order.length ≤ 1000000
  locks : g.locks.length ≤ 1000000
  sgs : g.sgs.length ≤ 1000000
  wakes : g.wakes.length ≤ 1000000

/-- The row of copies, and the box of the goroutine at hand, within one round. -/
structure Rnd (w : World) (S0 g2 c2 n b5 : Nat) (x : GV) (Y : List GV) (wr : World) : Prop where
  own : wr.ownsRow w.heap.size 50 25 (.slice (some ⟨g2, 0, none⟩) n c2) n (flat GV.cs Y)
  box : Blk wr b5 50 x.cs
  lo : g2 < S0 ∧ S0 ≤ b5 ∧ w.heap.size ≤ S0
  t : Turn (fun _ => False) w wr
section
variable {w wr w' : World} {S0 g2 c2 n b5 : Nat} {x : GV} {Y : List GV}
theorem Rnd.g2lo (h : Rnd w S0 g2 c2 n b5 x Y wr) : w.heap.size ≤ g2 ∧ g2 < wr.heap.size := h.own.lt g2 (by rw [own_block]; rfl)
theorem Rnd.new (h : Rnd w S0 g2 c2 n b5 x Y wr) (t : Turn (fun _ => False) wr w') : Rnd w S0 g2 c2 n b5 x Y w' := ⟨own_turn h.own t (fun _ _ => id), h.box.new t, h.lo, h.t.trans t⟩
theorem Rnd.aside (h : Rnd w S0 g2 c2 n b5 x Y wr) {go : Nat} (t : Turn (fun k => k = go) wr w') (h1 : S0 ≤ go) (h2 : go ≠ b5) : Rnd w S0 g2 c2 n b5 x Y w' :=
  ⟨own_turn h.own t (fun k hk e => by
      have hk' : g2 = k := by simpa [Value.ownBlock] using hk
      have := h.lo; omega), h.box.turn t (fun e => h2 e.symm), h.lo, h.t.and t (fun i hi e => by have := h.lo; omega)⟩
theorem Rnd.put (h : Rnd w S0 g2 c2 n b5 x Y wr) {i : Nat} {y : GV} (hy : Y[i]? = some y) {k : Nat} (hk : k < 25) {u : Value} {y' : GV} (he : y'.cs = y.cs.set k u) : Rnd w S0 g2 c2 n b5 x (Y.set i y') (wr.setCell ⟨g2, i * 25 + k, none⟩ u) :=
  ⟨own_set gv_ok h.own hy hk he rfl, h.box.turn (set_turn wr g2 _ u) (fun e => by have := h.lo; omega), h.lo, h.t.and (set_turn wr g2 _ u) (fun i hi e => by have := h.g2lo; omega)⟩
end
theorem has_rrow {D : Nat → Prop} {w : World} {s : Sl} {l : List Gr} (h : RGs D w s l) : ∃ X : List GV, X.map GV.g = l ∧ Has GV.cs 25 w s.ao X ∧ ∀ x ∈ X, RG D w x := h.has

/-- The copies that are made: those below i. -/
structure Cps (w : World) (g2 c2 n i : Nat) (X Y : List GV) (wr : World) : Prop where
  own : wr.ownsRow w.heap.size 50 25 (.slice (some ⟨g2, 0, none⟩) n c2) n (flat GV.cs Y)
  len : Y.length = n
  rest : ∀ k, i ≤ k → Y[k]? = X[k]?
  done : ∀ (k : Nat) x, k < i → X[k]? = some x → ∃ y, Y[k]? = some y ∧ y.g = x.g ∧ CG (fun b => w.heap.size ≤ b ∧ b < wr.heap.size ∧ b ≠ g2) wr y
  t : Turn (fun _ => False) w wr

theorem step_store_at {P : Program} {ops : Array Oper} {o : Oper} {a : Act} {w : World} {K : Act → World → Prop} {Q : Exit → Act → World → Prop} {F : Prop} {w' : World} (hgd : o.guard = none) {ty : TypeId} {x y : Operand} (ho : o.op = .store ty x y) {p : Addr} (hx : a.eval x = .pointer (some p)) {cs : List Value} (hy : a.eval y = .agg cs.toArray) (hr : (Instr.storeAt ty (.pointer (some p)) (.agg cs.toArray)).run P w = .ok () w')
    (h : K (a.put o.dst undef) w') : if Region.wanted o (yielded ops a.tmps) = true then Oper.wp P o a w K Q else F := by
  have hw : Region.wanted o (yielded ops a.tmps) = true := by simp [Region.wanted, hgd]
  rw [if_pos hw]
  unfold Oper.wp execOp
  simp only [ho, hx, hy, Sem.run_bind, hr, Sem.run_pure, Result.andThen_ok]
  exact h
theorem blk_at {w : World} {b : Nat} {e : TypeId} {cs : List Value} (h : Blk w b e cs) : At w ⟨b, 0, none⟩ cs := fun i u hu => by
  rw [Addr.add_lit, Nat.zero_add]
  exact h.c i hu
theorem blk_f {w : World} {b : Nat} {e : TypeId} {cs : List Value} (h : Blk w b e cs) : ∀ k, w.cell? ⟨b, k, none⟩ = cs[k]? := fun k => by
  unfold Blk at h
  simp [World.cell?, h]
theorem own_first {α : Type} {enc : α → List Value} {size : Nat} {w : World} {base g n c : Nat} {e : TypeId} {L : List α} (he : Enc enc size) (h : w.ownsRow base e size (.slice (some ⟨g, 0, none⟩) n c) n (flat enc L)) {j : Nat} {x : α} (hx : L[j]? = some x) (hs : 0 < size) {u : Value} (hu : (enc x)[0]? = some u) : w.cell? ⟨g, j * size, none⟩ = some u ∧ w.frozen? ⟨g, j * size, none⟩ = false := own_at he h hx (i := 0) hu

def Sg (S0 : Nat) (w : World) (b : Nat) : Prop := S0 ≤ b ∧ b < w.heap.size
theorem QOps.sg {S0 : Nat} {w w' : World} {S : Nat → Prop} {s : Sl} {l : List Opr} (h : QOps (Sg S0 w) w s l) (t : Turn S w w') (hs : ∀ b, S b → b < S0) : QOps (Sg S0 w') w' s l :=
  (h.keep t (fun b hb e => by have := hs b e; have := hb.1; omega)).mono (fun b hb => ⟨hb.1, Nat.lt_of_lt_of_le hb.2 t.size⟩)
theorem RI.sg {k : IntKind} {S0 : Nat} {w w' : World} {S : Nat → Prop} {s : Sl} {l : List Int} (h : RI k (Sg S0 w) w s l) (t : Turn S w w') (hs : ∀ b, S b → b < S0) : RI k (Sg S0 w') w' s l :=
  (h.keep t (fun b hb e => by have := hs b e; have := hb.1; omega)).mono (fun b hb => ⟨hb.1, Nat.lt_of_lt_of_le hb.2 t.size⟩)
theorem CG.sg {S0 : Nat} {w w' : World} {S : Nat → Prop} {x : GV} (h : CG (Sg S0 w) w x) (t : Turn S w w') (hs : ∀ b, S b → b < S0) : CG (Sg S0 w') w' x := ⟨h.ops.sg t hs, h.order.sg t hs, h.locks.sg t hs, h.sgs.sg t hs, h.wakes.sg t hs⟩
theorem ri_own {k : IntKind} {S0 : Nat} {w : World} {e : TypeId} {s : Sl} {n : Nat} {L : List Int} (h : w.ownsRow S0 e 1 s.val n (L.map (Value.int k))) (hl : s.len = n) (hn : L.length = n) : RI k (Sg S0 w) w s L := by
  obtain ⟨ao, len, c⟩ := s
  obtain ⟨ao', c', e1, h1, h2, h3, h4⟩ := own_slice h
  cases e1
  subst hn
  exact ⟨⟨rfl, h1, h2, h3⟩, (own_reads h).2.1, fun ad e => by obtain ⟨g, rfl, hg⟩ := h4 ad e; exact hg⟩
/-- Which rows of one goroutine lie in memory of their own. -/
structure Pcs (S0 : Nat) (w : World) (x y : GV) (k : Nat) : Prop where
  g : y.g = x.g
  ops : QOps (Sg S0 w) w y.so x.g.ops
  order : 1 ≤ k → RI .i64 (Sg S0 w) w y.sr x.g.order
  locks : 2 ≤ k → RI .i64 (Sg S0 w) w y.sl x.g.locks
  sgs : 3 ≤ k → RI .i64 (Sg S0 w) w y.ss x.g.sgs
  wakes : 4 ≤ k → RI .i64 (Sg S0 w) w y.sw x.g.wakes
section
variable {S0 : Nat} {w w' : World} {x y : GV} {S : Nat → Prop} {s : Sl}
theorem Pcs.keep {k : Nat} (h : Pcs S0 w x y k) (t : Turn S w w') (hs : ∀ b, S b → b < S0) : Pcs S0 w' x y k :=
  ⟨h.g, h.ops.sg t hs, fun e => (h.order e).sg t hs, fun e => (h.locks e).sg t hs, fun e => (h.sgs e).sg t hs, fun e => (h.wakes e).sg t hs⟩
theorem Pcs.s1 (h : Pcs S0 w x y 0) (r : RI .i64 (Sg S0 w) w s x.g.order) : Pcs S0 w x { y with sr := s } 1 := ⟨h.g, h.ops, fun _ => r, fun e => by omega, fun e => by omega, fun e => by omega⟩
theorem Pcs.s2 (h : Pcs S0 w x y 1) (r : RI .i64 (Sg S0 w) w s x.g.locks) : Pcs S0 w x { y with sl := s } 2 := ⟨h.g, h.ops, fun _ => h.order (Nat.le_refl _), fun _ => r, fun e => by omega, fun e => by omega⟩
theorem Pcs.s3 (h : Pcs S0 w x y 2) (r : RI .i64 (Sg S0 w) w s x.g.sgs) : Pcs S0 w x { y with ss := s } 3 := ⟨h.g, h.ops, fun _ => h.order (by omega), fun _ => h.locks (by omega), fun _ => r, fun e => by omega⟩
theorem Pcs.s4 (h : Pcs S0 w x y 3) (r : RI .i64 (Sg S0 w) w s x.g.wakes) : Pcs S0 w x { y with sw := s } 4 := ⟨h.g, h.ops, fun _ => h.order (by omega), fun _ => h.locks (by omega), fun _ => h.sgs (by omega), fun _ => r⟩
theorem Pcs.cg (h : Pcs S0 w x y 4) : CG (Sg S0 w) w y := by
  refine ⟨?_, ?_, ?_, ?_, ?_⟩ <;> rw [h.g]
  · exact h.ops
  · exact h.order (by omega)
  · exact h.locks (by omega)
  · exact h.sgs (by omega)
  · exact h.wakes (by omega)
end

end Go.Proofs.Ytenbafkgfdlfpaa
