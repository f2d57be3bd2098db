/- A world as it lies: its box, its rows, its objects; each in blocks of its own. -/
import Derived.Test.YtenbafkgfdlfpaaKGs
import Derived.Test.YtenbafkgfdlfpaaK1
import Derived.Test.YtenbafkgfdlfpaaK4
import Derived.Test.YtenbafkgfdlfpaaK5
import Derived.Test.YtenbafkgfdlfpaaK6
import Derived.Test.YtenbafkgfdlfpaaK7
import Derived.Test.YtenbafkgfdlfpaaK8
namespace Go.Proofs.Ytenbafkgfdlfpaa
open Go.RowKit
set_option linter.unusedVariables false

/-- A world's parts, as they lie. -/
structure WV where
  p : Nat
  step : Int
  gs : Sl
  G : List GV
  bp : Nat
  bv : Value
  B : List C8.One
  lp : Nat
  lv : Value
  L : List Int
  qp : Nat
  tb : Nat
  eb : Nat
  q : C6.St
  sd : Sl
  S : List Sd
  pp : Nat
  pq : Nat
  R : Nat → R5.C5.Rw
  pl : R5.St
  dp : Nat
  dg : Nat
  draws : List Int
  drawn : Nat
  dr : Sl
  dn : Sl
  dl : List Mk
def ptr (b : Nat) : Value := .pointer (some ⟨b, 0, none⟩)
def WV.cs (x : WV) : List Value := [.int .i64 (x.pl.size : Int), .int .i64 (x.pl.most : Int), .int .i64 x.step, x.gs.val, ptr x.bp, zSl.val, zSl.val, ptr x.lp, ptr x.qp, x.sd.val, ptr x.pp, ptr x.dp, x.dr.val, x.dn.val]
@[go_sem] theorem ptr_eq (b : Nat) : ptr b = .pointer (some ⟨b, 0, none⟩) := rfl
@[go_sem] theorem WV.c0 (x : WV) : x.cs[0]? = some (.int .i64 (x.pl.size : Int)) := rfl
@[go_sem] theorem WV.c1 (x : WV) : x.cs[1]? = some (.int .i64 (x.pl.most : Int)) := rfl
@[go_sem] theorem WV.c2 (x : WV) : x.cs[2]? = some (.int .i64 x.step) := rfl
@[go_sem] theorem WV.c3 (x : WV) : x.cs[3]? = some x.gs.val := rfl
@[go_sem] theorem WV.c4 (x : WV) : x.cs[4]? = some (ptr x.bp) := rfl
@[go_sem] theorem WV.c5 (x : WV) : x.cs[5]? = some zSl.val := rfl
@[go_sem] theorem WV.c6 (x : WV) : x.cs[6]? = some zSl.val := rfl
@[go_sem] theorem WV.c7 (x : WV) : x.cs[7]? = some (ptr x.lp) := rfl
@[go_sem] theorem WV.c8 (x : WV) : x.cs[8]? = some (ptr x.qp) := rfl
@[go_sem] theorem WV.c9 (x : WV) : x.cs[9]? = some x.sd.val := rfl
@[go_sem] theorem WV.c10 (x : WV) : x.cs[10]? = some (ptr x.pp) := rfl
@[go_sem] theorem WV.c11 (x : WV) : x.cs[11]? = some (ptr x.dp) := rfl
@[go_sem] theorem WV.c12 (x : WV) : x.cs[12]? = some x.dr.val := rfl
@[go_sem] theorem WV.c13 (x : WV) : x.cs[13]? = some x.dn.val := rfl
@[go_sem] theorem WV.lenc (x : WV) : x.cs.length = 14 := rfl
theorem wv_ok : Enc WV.cs 14 := ⟨fun _ => rfl, fun x u hu => by simp [WV.cs, ptr] at hu; rcases hu with rfl | rfl | rfl | rfl | rfl | rfl | rfl | rfl | rfl | rfl | rfl | rfl | rfl | rfl <;> rfl⟩
theorem t_world : Struct Try.prog 75 14 := ⟨⟨_, Try.underlying75, rfl⟩, by kernel_rfl⟩
def zero14 : List Value := [.int .i64 0, .int .i64 0, .int .i64 0, zSl.val, .pointer none, zSl.val, zSl.val, .pointer none, .pointer none, zSl.val, .pointer none, .pointer none, zSl.val, zSl.val]

/-- A slice of one's own row: its blocks have the tag t. -/
structure OwnF {α : Type} (enc : α → List Value) (size : Nat) (e : TypeId) (base : Nat) (T : Nat → Prop) (w : World) (s : Sl) (L : List α) : Prop where
  own : w.ownsRow base e size s.val s.len (flat enc L)
  tag : ∀ k, s.val.ownBlock = some k → T k
section
variable {α : Type} {enc : α → List Value} {size : Nat} {e : TypeId} {base : Nat} {T T' : Nat → Prop} {w w' : World} {s : Sl} {L : List α} {S : Nat → Prop}
theorem OwnF.turn (h : OwnF enc size e base T w s L) (t : Turn S w w') (hs : ∀ b, T b → ¬ S b) : OwnF enc size e base T w' s L := ⟨own_turn h.own t (fun k hk => hs k (h.tag k hk)), h.tag⟩
theorem OwnF.less {base' : Nat} (h : OwnF enc size e base T w s L) (hb : base' ≤ base) : OwnF enc size e base' T w s L := ⟨own_less h.own hb, h.tag⟩
theorem OwnF.mono (h : OwnF enc size e base T w s L) (hd : ∀ b, T b → T' b) : OwnF enc size e base T' w s L := ⟨h.own, fun k hk => hd k (h.tag k hk)⟩
theorem OwnF.len (h : OwnF enc size e base T w s L) (he : Enc enc size) (hs : 0 < size) : L.length = s.len := own_len he hs h.own
theorem OwnF.nil (h : OwnF enc size e base T w s L) : s.ao = none → s.cap = 0 := by
  obtain ⟨ao, len, c⟩ := s
  obtain ⟨ao', c', e1, h1, h2, h3, _⟩ := own_slice h.own
  cases e1
  exact h3
theorem OwnF.has (h : OwnF enc size e base T w s L) (he : Enc enc size) (hs : 0 < size) : Has enc size w s.ao L := by
  obtain ⟨ao, len, c⟩ := s
  exact Has.of_own he hs h.own
theorem OwnF.ok (h : OwnF enc size e base T w s L) (he : Enc enc size) (hs : 0 < size) : s.Ok L.length := by
  have hl := h.len he hs
  obtain ⟨ao, len, c⟩ := s
  obtain ⟨ao', c', e1, h1, h2, h3, _⟩ := own_slice h.own
  cases e1
  exact ⟨hl.symm, h1, h2, h3⟩
theorem OwnF.dom (h : OwnF enc size e base T w s L) : ∀ ad, s.ao = some ad → T ad.block := fun ad e => by
  obtain ⟨ao, len, c⟩ := s
  obtain ⟨ao', c', e1, h1, h2, h3, h4⟩ := own_slice h.own
  cases e1
  obtain ⟨g, rfl, _⟩ := h4 ad e
  subst e
  exact h.tag g rfl
end

/-- A world in memory. -/
structure IsW (base : Nat) (tag : Nat → Nat) (w : World) (x : WV) : Prop where
  box : Blk w x.p 75 x.cs
  tp : tag x.p = 0
  bp' : base ≤ x.p
  gs : OwnF GV.cs 25 50 base (fun b => tag b = 1) w x.gs x.G
  g : ∀ z ∈ x.G, CG (fun b => tag b = 2 ∧ base ≤ b) w z
  bench : C8.IsB w base x.bp x.bv x.B
  tb' : ∀ i, C8.QB x.bp x.bv i → tag i = 3
  locks : C7.IsL w base x.lp x.lv x.L
  tl : ∀ i, C7.QL x.lp x.lv i → tag i = 4
  qs : C6.IsQ w base x.qp x.tb x.eb x.q
  tq : ∀ i, C6.QB x.qp x.tb x.eb i → tag i = 5
  sd : OwnF Sd.cs 7 57 base (fun b => tag b = 6) w x.sd x.S
  pool : R5.C5.IsPool w base x.pp x.pq x.pl x.R
  tpl : ∀ i, R5.C5.PB x.pp x.pq x.pl.n x.R i → tag i = 7
  dice : C1.IsDice w x.dp x.dg x.draws x.drawn
  td : tag x.dp = 8 ∧ tag x.dg = 8 ∧ base ≤ x.dp ∧ base ≤ x.dg
  dr : RI .u16 (fun b => tag b = 9 ∧ base ≤ b) w x.dr x.draws
  dn : OwnF Mk.cs 13 66 base (fun b => tag b = 10) w x.dn x.dl
section
variable {base : Nat} {tag : Nat → Nat} {w w' : World} {x : WV} {S : Nat → Prop}
theorem IsW.new (h : IsW base tag w x) (t : Turn (fun _ => False) w w') : IsW base tag w' x :=
  ⟨h.box.new t, h.tp, h.bp', h.gs.turn t (fun _ _ => id), fun z hz => (h.g z hz).keep t (fun _ _ => id), h.bench.new t, h.tb', h.locks.new t, h.tl, h.qs.new t, h.tq, h.sd.turn t (fun _ _ => id), h.pool.new t, h.tpl, h.dice.turn t id id, h.td, h.dr.keep t (fun _ _ => id), h.dn.turn t (fun _ _ => id)⟩
end
/-- Whose status and token the bench tells. -/
def merge (x : GV) (b : C8.One) : Gr := { x.g with status := b.1, token := b.2 }
/-- What a world tells. -/
def WV.st (x : WV) : St := ⟨x.pl, x.step, List.zipWith merge x.G x.B, [], x.S, x.draws, x.drawn, x.dl⟩

end Go.Proofs.Ytenbafkgfdlfpaa
