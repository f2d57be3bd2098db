/- An op that a function makes in a box of its own, beside its answer's block, still zero. Cut out of s10. -/
import Derived.Test.YtfghabjpcjcllaaDoorDBlk
import Derived.Test.YtfghabjpcjcllaaDoorMGen
namespace Go.Proofs.YtfghabjpcjcllaaDoor
open Go.RowKit
set_option linter.unusedVariables false

/-- Where the walk stands: the answer's block, still zero, and the op's. -/
structure OnS (w wc : World) (rz bx : Nat) (k0 k1 k2 k3 : Int) (s : Value) (f : Bool) : Prop where
  z : Six wc rz 0 0 0 0 (.slice none 0 0) false
  x : Six wc bx k0 k1 k2 k3 s f
  t : Turn (fun _ => False) w wc
  low : w.heap.size ≤ rz
  nxt : rz < bx
section
variable {w wc w' : World} {rz bx : Nat} {k0 k1 k2 k3 : Int} {s : Value} {f : Bool}
theorem OnS.new (h : OnS w wc rz bx k0 k1 k2 k3 s f) (t : Turn (fun _ => False) wc w') : OnS w w' rz bx k0 k1 k2 k3 s f := ⟨h.z.new t, h.x.new t, h.t.trans t, h.low, h.nxt⟩
theorem OnS.tset (h : OnS w wc rz bx k0 k1 k2 k3 s f) (k : Nat) (u : Value) : Turn (fun _ => False) w (wc.setCell ⟨bx, k, none⟩ u) := h.t.and (set_turn wc bx k u) (fun i hi e => by have := h.low; have := h.nxt; omega)
theorem OnS.zset (h : OnS w wc rz bx k0 k1 k2 k3 s f) (k : Nat) (u : Value) : Six (wc.setCell ⟨bx, k, none⟩ u) rz 0 0 0 0 (.slice none 0 0) false := h.z.far (p := ⟨bx, k, none⟩) (by have := h.nxt; show rz ≠ bx; omega) u
theorem OnS.put1 (h : OnS w wc rz bx k0 k1 k2 k3 s f) (x : Int) : OnS w (wc.setCell ⟨bx, 1, none⟩ (.int .i64 x)) rz bx k0 x k2 k3 s f := ⟨h.zset 1 _, h.x.put1 x, h.tset 1 _, h.low, h.nxt⟩
theorem OnS.put2 (h : OnS w wc rz bx k0 k1 k2 k3 s f) (x : Int) : OnS w (wc.setCell ⟨bx, 2, none⟩ (.int .i64 x)) rz bx k0 k1 x k3 s f := ⟨h.zset 2 _, h.x.put2 x, h.tset 2 _, h.low, h.nxt⟩
theorem OnS.put3 (h : OnS w wc rz bx k0 k1 k2 k3 s f) (x : Int) : OnS w (wc.setCell ⟨bx, 3, none⟩ (.int .i64 x)) rz bx k0 k1 k2 x s f := ⟨h.zset 3 _, h.x.put3 x, h.tset 3 _, h.low, h.nxt⟩
theorem OnS.put4 (h : OnS w wc rz bx k0 k1 k2 k3 s f) (x : Value) : OnS w (wc.setCell ⟨bx, 4, none⟩ x) rz bx k0 k1 k2 k3 x f := ⟨h.zset 4 _, h.x.put4 x, h.tset 4 _, h.low, h.nxt⟩
theorem OnS.put5 (h : OnS w wc rz bx k0 k1 k2 k3 s f) (x : Bool) : OnS w (wc.setCell ⟨bx, 5, none⟩ (.bool x)) rz bx k0 k1 k2 k3 s x := ⟨h.zset 5 _, h.x.put5 x, h.tset 5 _, h.low, h.nxt⟩
theorem ons_new (w : World) (k : Int) : OnS w ((w.alloc (.cells #[.int .i64 0, .int .i64 0, .int .i64 0, .int .i64 0, .slice none 0 0, .bool false] 25)).alloc (.cells #[.int .i64 k, .int .i64 0, .int .i64 0, .int .i64 0, .slice none 0 0, .bool false] 25)) w.heap.size (w.heap.size + 1) k 0 0 0 (.slice none 0 0) false := by
  refine ⟨(show Six _ _ _ _ _ _ _ _ from blk_new w _ 25).new ((Turn.refl _ _).alloc _), ?_, ((Turn.refl _ w).alloc _).alloc _, Nat.le_refl _, Nat.lt_succ_self _⟩
  have := blk_new (w.alloc (.cells #[.int .i64 0, .int .i64 0, .int .i64 0, .int .i64 0, .slice none 0 0, .bool false] 25)) [.int .i64 k, .int .i64 0, .int .i64 0, .int .i64 0, .slice none 0 0, .bool false] 25
  rwa [show (w.alloc (.cells #[.int .i64 0, .int .i64 0, .int .i64 0, .int .i64 0, .slice none 0 0, .bool false] 25)).heap.size = w.heap.size + 1 by simp] at this

theorem OnS.turned {S : Nat → Prop} (h : OnS w wc rz bx k0 k1 k2 k3 s f) (t : Turn S wc w') (hs : ∀ i, S i → bx < i) : OnS w w' rz bx k0 k1 k2 k3 s f :=
  ⟨h.z.turn t (fun e => by have := hs _ e; have := h.nxt; omega), h.x.turn t (fun e => by have := hs _ e; omega), h.t.and t (fun i hi e => by have := hs _ e; have := h.nxt; have := h.low; omega), h.low, h.nxt⟩
theorem GCs.far {base : Nat} {eC : TypeId} {S : Nat → Prop} {v : Sl} {L : List Cas} (h : GCs wc eC base v L) (t : Turn S wc w') (hs : ∀ i, S i → i < base) : GCs w' eC base v L :=
  ⟨h.len, own_turn h.own t (fun k hk e => by have := (h.own.lt k hk).1; have := hs k e; omega)⟩
theorem GCs.low {base : Nat} {eC : TypeId} {v : Sl} {L : List Cas} (h : GCs wc eC base v L) : ∀ i, v.val.ownBlock = some i → base ≤ i := fun i e => (h.own.lt i e).1
end
end Go.Proofs.YtfghabjpcjcllaaDoor
