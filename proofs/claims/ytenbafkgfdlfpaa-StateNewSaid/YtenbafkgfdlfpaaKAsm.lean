/- A world while it is put together. -/
import Derived.Test.YtenbafkgfdlfpaaKW
namespace Go.Proofs.Ytenbafkgfdlfpaa
open Go.RowKit
set_option linter.unusedVariables false

def Iv (lo hi b : Nat) : Prop := lo ≤ b ∧ b < hi
/-- What has been made so far, stretch by stretch of memory; the box holds cs. -/
structure Asm (base a2 a3 a4 a5 a6 a7 a8 : Nat) (x : WV) (cs : List Value) (w : World) : Prop where
  box : Blk w x.p 75 cs
  ord : base ≤ a2 ∧ a2 ≤ a3 ∧ a3 ≤ a4 ∧ a4 ≤ a5 ∧ a5 ≤ a6 ∧ a6 ≤ a7 ∧ a7 ≤ a8 ∧ a8 ≤ x.p
  gs : OwnF GV.cs 25 50 base (Iv base a2) w x.gs x.G
  g : ∀ z ∈ x.G, CG (fun b => Iv base a2 b ∧ x.gs.val.ownBlock ≠ some b) w z
  bench : C8.IsB w a2 x.bp x.bv x.B
  tb' : ∀ i, C8.QB x.bp x.bv i → i < a3
  locks : C7.IsL w a3 x.lp x.lv x.L
  tl : ∀ i, C7.QL x.lp x.lv i → i < a4
  sd : OwnF Sd.cs 7 57 base (Iv a4 a5) w x.sd x.S
  dice : C1.IsDice w x.dp x.dg x.draws x.drawn
  td : Iv a5 a6 x.dp ∧ Iv a5 a6 x.dg
  dr : RI .u16 (Iv a6 a7) w x.dr x.draws
  dn : OwnF Mk.cs 13 66 base (Iv a7 a8) w x.dn x.dl
section
variable {base a2 a3 a4 a5 a6 a7 a8 : Nat} {x : WV} {cs : List Value} {w w' : World} {S : Nat → Prop}
theorem Asm.new (h : Asm base a2 a3 a4 a5 a6 a7 a8 x cs w) (t : Turn (fun _ => False) w w') : Asm base a2 a3 a4 a5 a6 a7 a8 x cs w' :=
  ⟨h.box.new t, h.ord, h.gs.turn t (fun _ _ => id), fun z hz => (h.g z hz).keep t (fun _ _ => id), h.bench.new t, h.tb', h.locks.new t, h.tl, h.sd.turn t (fun _ _ => id), h.dice.turn t id id, h.td, h.dr.keep t (fun _ _ => id), h.dn.turn t (fun _ _ => id)⟩
theorem Asm.put (h : Asm base a2 a3 a4 a5 a6 a7 a8 x cs w) (k : Nat) (u : Value) : Asm base a2 a3 a4 a5 a6 a7 a8 x (cs.set k u) (w.setCell ⟨x.p, k, none⟩ u) := by
  have t := set_turn w x.p k u
  have o := h.ord
  exact ⟨h.box.set k u, h.ord, h.gs.turn t (fun b hb e => by have := hb.2; omega), fun z hz => (h.g z hz).keep t (fun b hb e => by have := hb.1.2; omega), h.bench.turn t (fun i hi e => by have := h.tb' i hi; omega), h.tb',
    h.locks.turn t (fun i hi e => by have := h.tl i hi; omega), h.tl, h.sd.turn t (fun b hb e => by have := hb.2; omega), h.dice.turn t (fun e => by have := h.td.1.2; omega) (fun e => by have := h.td.2.2; omega), h.td, h.dr.keep t (fun b hb e => by have := hb.2; omega), h.dn.turn t (fun b hb e => by have := hb.2; omega)⟩
theorem Asm.benched (h : Asm base a2 a3 a4 a5 a6 a7 a8 x cs w) {B : List C8.One} (k : C8.Kept a2 x.bp x.bv B w w') : Asm base a2 a3 a4 a5 a6 a7 a8 { x with B := B } cs w' := by
  have t := k.2
  have o := h.ord
  have hq : ∀ i, C8.QB x.bp x.bv i → a2 ≤ i ∧ i < a3 := fun i hi => ⟨(h.bench.blocks hi).1, h.tb' i hi⟩
  exact ⟨h.box.turn t (fun e => by have := hq _ e; omega), h.ord, h.gs.turn t (fun b hb e => by have := hb.2; have := hq _ e; omega), fun z hz => (h.g z hz).keep t (fun b hb e => by have := hb.1.2; have := hq _ e; omega), k.1, h.tb',
    h.locks.turn t (fun i hi e => by have := (h.locks.blocks hi).1; have := hq _ e; omega), h.tl, h.sd.turn t (fun b hb e => by have := hb.1; have := hq _ e; omega), h.dice.turn t (fun e => by have := h.td.1.1; have := hq _ e; omega) (fun e => by have := h.td.2.1; have := hq _ e; omega), h.td, h.dr.keep t (fun b hb e => by have := hb.1; have := hq _ e; omega), h.dn.turn t (fun b hb e => by have := hb.1; have := hq _ e; omega)⟩
theorem Asm.diced (h : Asm base a2 a3 a4 a5 a6 a7 a8 x cs w) {m : Nat} (hd : C1.IsDice w' x.dp x.dg x.draws m) (t : Turn (fun i => i = x.dp) w w') : Asm base a2 a3 a4 a5 a6 a7 a8 { x with drawn := m } cs w' := by
  have o := h.ord
  have hq := h.td.1
  have hq2 := hq.2
  have hq1 := hq.1
  exact ⟨h.box.turn t (fun e => by omega), h.ord, h.gs.turn t (fun b hb e => by have := hb.2; omega), fun z hz => (h.g z hz).keep t (fun b hb e => by have := hb.1.2; omega), h.bench.turn t (fun i hi e => by have := h.tb' i hi; omega), h.tb',
    h.locks.turn t (fun i hi e => by have := h.tl i hi; omega), h.tl, h.sd.turn t (fun b hb e => by have := hb.2; omega), hd, h.td, h.dr.keep t (fun b hb e => by have := hb.1; omega), h.dn.turn t (fun b hb e => by have := hb.1; omega)⟩
theorem Asm.low (h : Asm base a2 a3 a4 a5 a6 a7 a8 x cs w) : base ≤ x.p ∧ x.p < w.heap.size := ⟨by have := h.ord; omega, h.box.lt⟩
/-- All is there. -/
theorem Asm.whole (h : Asm base a2 a3 a4 a5 a6 a7 a8 x cs w) (hcs : cs = x.cs) (pool : R5.C5.IsPool w base x.pp x.pq x.pl x.R) {aP aQ : Nat} (hp : x.p < aP) (tpl : ∀ i, R5.C5.PB x.pp x.pq x.pl.n x.R i → Iv aP aQ i) (qs : C6.IsQ w base x.qp x.tb x.eb x.q) (tq : ∀ i, C6.QB x.qp x.tb x.eb i → aQ ≤ i) : ∃ tag, IsW base tag w x := by
  have o := h.ord
  by_cases hPQ : aP ≤ aQ
  · refine ⟨fun i => if i < a2 then (if x.gs.val.ownBlock = some i then 1 else 2) else if i < a3 then 3 else if i < a4 then 4 else if i < a5 then 6 else if i < a6 then 8 else if i < a7 then 9 else if i < a8 then 10 else if i < aP then 0 else if i < aQ then 7 else 5, ?_⟩
    refine ⟨hcs ▸ h.box, ?_, h.low.1, ⟨h.gs.own, ?_⟩, ?_, h.bench.less o.1, ?_, h.locks.less (by omega), ?_, qs, ?_, ⟨h.sd.own, ?_⟩, pool, ?_, h.dice, ?_, h.dr.mono ?_, ⟨h.dn.own, ?_⟩⟩
    · rw [if_neg (by omega), if_neg (by omega), if_neg (by omega), if_neg (by omega), if_neg (by omega), if_neg (by omega), if_neg (by omega), if_pos hp]
    · intro k hk
      have := (h.gs.tag k hk).2
      show (if k < a2 then _ else _) = 1
      rw [if_pos this, if_pos hk]
    · intro z hz
      refine (h.g z hz).mono (fun b hb => ⟨?_, hb.1.1⟩)
      show (if b < a2 then _ else _) = 2
      rw [if_pos hb.1.2, if_neg hb.2]
    · intro i hi
      have h1 := (h.bench.blocks hi).1
      have h2 := h.tb' i hi
      rw [if_neg (by omega), if_pos h2]
    · intro i hi
      have h1 := (h.locks.blocks hi).1
      have h2 := h.tl i hi
      rw [if_neg (by omega), if_neg (by omega), if_pos h2]
    · intro i hi
      have h1 := tq i hi
      rw [if_neg (by omega), if_neg (by omega), if_neg (by omega), if_neg (by omega), if_neg (by omega), if_neg (by omega), if_neg (by omega), if_neg (by omega), if_neg (by omega)]
    · intro k hk
      have h1 := (h.sd.tag k hk).1
      have h2 := (h.sd.tag k hk).2
      show (if k < a2 then _ else _) = 6
      rw [if_neg (by omega), if_neg (by omega), if_neg (by omega), if_pos h2]
    · intro i hi
      have h1 := (tpl i hi).1
      have h2 := (tpl i hi).2
      rw [if_neg (by omega), if_neg (by omega), if_neg (by omega), if_neg (by omega), if_neg (by omega), if_neg (by omega), if_neg (by omega), if_neg (by omega), if_pos h2]
    · have h1 := h.td.1.1
      have h2 := h.td.1.2
      have h3 := h.td.2.1
      have h4 := h.td.2.2
      refine ⟨?_, ?_, by omega, by omega⟩
      · rw [if_neg (by omega), if_neg (by omega), if_neg (by omega), if_neg (by omega), if_pos h2]
      · rw [if_neg (by omega), if_neg (by omega), if_neg (by omega), if_neg (by omega), if_pos h4]
    · intro b hb
      have h1 := hb.1
      have h2 := hb.2
      refine ⟨?_, by omega⟩
      rw [if_neg (by omega), if_neg (by omega), if_neg (by omega), if_neg (by omega), if_neg (by omega), if_pos h2]
    · intro k hk
      have h1 := (h.dn.tag k hk).1
      have h2 := (h.dn.tag k hk).2
      show (if k < a2 then _ else _) = 10
      rw [if_neg (by omega), if_neg (by omega), if_neg (by omega), if_neg (by omega), if_neg (by omega), if_neg (by omega), if_pos h2]
  · have := tpl x.pp (Or.inl rfl)
    have h1 := this.1
    have h2 := this.2
    omega
end

end Go.Proofs.Ytenbafkgfdlfpaa
