/- A machine's state in memory, as the document has it: values; what is read of them. -/
import Derived.Test.YtenbafkgfdlfpaaGBlk
import Derived.Test.YtenbafkgfdlfpaaModel
import Derived.Test.YtenbafkgfdlfpaaGAny
import Derived.Test.YtenbafkgfdlfpaaP5RS
import Derived.BigQuiet
import Derived.Deep.QuietTactic
import Derived.Outline
import Derived.RegionTactic
import Derived.Deep.CutBlock
import Derived.Deep.DeepCutAuto
namespace Go.Proofs.Ytenbafkgfdlfpaa
open Go.RowKit
set_option linter.unusedVariables false

/-- A slice that reads as these numbers, and lies in D. -/
structure RI (k : IntKind) (D : Nat → Prop) (w : World) (s : Sl) (L : List Int) : Prop where
  ok : s.Ok L.length
  has : Ints k w s.ao L
  dom : ∀ ad, s.ao = some ad → D ad.block
section
variable {k : IntKind} {D D' S : Nat → Prop} {w w' : World} {s : Sl} {L : List Int}
theorem RI.keep (h : RI k D w s L) (t : Turn S w w') (hs : ∀ i, D i → ¬ S i) : RI k D w' s L := ⟨h.ok, h.has.turn t (fun ad e => hs _ (h.dom ad e)), h.dom⟩
theorem RI.mono (h : RI k D w s L) (hd : ∀ i, D i → D' i) : RI k D' w s L := ⟨h.ok, h.has, fun ad e => hd _ (h.dom ad e)⟩
end
/-- A slice of so many things, of whose room nothing is said. -/
structure Sl.Lite (s : Sl) (n : Nat) : Prop where
  len : s.len = n
  nil : s.ao = none → s.cap = 0
theorem Sl.Ok.lite {s : Sl} {n : Nat} (h : s.Ok n) : s.Lite n := ⟨h.len, h.nil⟩
/-- A slice that reads as these numbers; of its room nothing is said. -/
structure RJ (k : IntKind) (D : Nat → Prop) (w : World) (s : Sl) (L : List Int) : Prop where
  ok : s.Lite L.length
  has : Ints k w s.ao L
  dom : ∀ ad, s.ao = some ad → D ad.block
section
variable {k : IntKind} {D D' S : Nat → Prop} {w w' : World} {s : Sl} {L : List Int}
theorem RJ.keep (h : RJ k D w s L) (t : Turn S w w') (hs : ∀ i, D i → ¬ S i) : RJ k D w' s L := ⟨h.ok, h.has.turn t (fun ad e => hs _ (h.dom ad e)), h.dom⟩
theorem RJ.mono (h : RJ k D w s L) (hd : ∀ i, D i → D' i) : RJ k D' w s L := ⟨h.ok, h.has, fun ad e => hd _ (h.dom ad e)⟩
theorem RI.lite (h : RI k D w s L) : RJ k D w s L := ⟨h.ok.lite, h.has, h.dom⟩
end
/-- Ops that were read at an elder world, of which nothing has changed. -/
structure DOps (D : Nat → Prop) (w : World) (s : Sl) (l : List Opr) : Prop where
  at_ : ∃ wb, ROps wb s l ∧ Turn (fun _ => False) wb w ∧ ∀ i, i < wb.heap.size → D i
section
variable {D D' S : Nat → Prop} {w w' : World} {s : Sl} {l : List Opr}
theorem DOps.keep (h : DOps D w s l) (t : Turn S w w') (hs : ∀ i, D i → ¬ S i) : DOps D w' s l := by
  obtain ⟨wb, h1, h2, h3⟩ := h.at_
  exact ⟨wb, h1, h2.and t (fun i hi e => hs i (h3 i hi) e), h3⟩
theorem DOps.mono (h : DOps D w s l) (hd : ∀ i, D i → D' i) : DOps D' w s l := by
  obtain ⟨wb, h1, h2, h3⟩ := h.at_
  exact ⟨wb, h1, h2, fun i hi => hd i (h3 i hi)⟩
theorem DOps.ops (h : DOps D w s l) : ROps w s l := by
  obtain ⟨wb, h1, h2, h3⟩ := h.at_
  exact h1.new h2
end
/-- A slice that reads as such things. -/
structure RRow {ρ α : Type} (enc : ρ → List Value) (size : Nat) (R : (Nat → Prop) → World → ρ → Prop) (pr : ρ → α) (D : Nat → Prop) (w : World) (s : Sl) (l : List α) : Prop where
  ok : s.Lite l.length
  dom : ∀ ad, s.ao = some ad → D ad.block
  has : ∃ X : List ρ, X.map pr = l ∧ Has enc size w s.ao X ∧ ∀ x ∈ X, R D w x
section
variable {ρ α : Type} {enc : ρ → List Value} {size : Nat} {R : (Nat → Prop) → World → ρ → Prop} {pr : ρ → α} {w w' : World} {s : Sl} {l : List α} {D D' S : Nat → Prop}
theorem RRow.keep (hR : ∀ x, R D w x → R D w' x) (h : RRow enc size R pr D w s l) (t : Turn S w w') (hs : ∀ i, D i → ¬ S i) : RRow enc size R pr D w' s l := by
  obtain ⟨X, h1, h2, h3⟩ := h.has
  exact ⟨h.ok, h.dom, X, h1, h2.turn t (fun ad e => hs _ (h.dom ad e)), fun x hx => hR x (h3 x hx)⟩
theorem RRow.mono (hR : ∀ x, R D w x → R D' w x) (h : RRow enc size R pr D w s l) (hd : ∀ i, D i → D' i) : RRow enc size R pr D' w s l := by
  obtain ⟨X, h1, h2, h3⟩ := h.has
  exact ⟨h.ok, fun ad e => hd _ (h.dom ad e), X, h1, h2, fun x hx => hR x (h3 x hx)⟩
end

/-- A goroutine as it lies. -/
structure GV where
  g : Gr
  so : Sl
  sr : Sl
  sl : Sl
  ss : Sl
  sw : Sl
def GV.cs (x : GV) : List Value := [x.so.val, .int .i64 x.g.at_, .int .i64 x.g.place, .int .i64 x.g.status, .bool x.g.token, .int .i64 x.g.call, .bool x.g.picked, .int .i64 x.g.param, .int .i64 x.g.mine, .int .i64 x.g.hold, .int .i64 x.g.t, .int .i64 x.g.arrive, .int .i64 x.g.point, .int .i64 x.g.wth, .int .i64 x.g.fire, .int .i64 x.g.res.code, .int .i64 x.g.res.case, .int .i64 x.g.res.v, .bool x.g.res.ok, .int .i64 x.g.res.n, x.sr.val, x.sl.val, x.ss.val, x.sw.val, .int .i64 x.g.k]
@[reducible] def GV.val (x : GV) : Value := .agg x.cs.toArray
structure RG (D : Nat → Prop) (w : World) (x : GV) : Prop where
  ops : DOps D w x.so x.g.ops
  order : RI .i64 D w x.sr x.g.order
  locks : RI .i64 D w x.sl x.g.locks
  sgs : RI .i64 D w x.ss x.g.sgs
  wakes : RI .i64 D w x.sw x.g.wakes
section
variable {D D' S : Nat → Prop} {w w' : World} {x : GV}
theorem RG.keep (h : RG D w x) (t : Turn S w w') (hs : ∀ i, D i → ¬ S i) : RG D w' x := ⟨h.ops.keep t hs, h.order.keep t hs, h.locks.keep t hs, h.sgs.keep t hs, h.wakes.keep t hs⟩
theorem RG.mono (h : RG D w x) (hd : ∀ i, D i → D' i) : RG D' w x := ⟨h.ops.mono hd, h.order.mono hd, h.locks.mono hd, h.sgs.mono hd, h.wakes.mono hd⟩
theorem RG.new (h : RG D w x) (t : Turn (fun _ => False) w w') : RG D w' x := h.keep t (fun _ _ => id)
end
/-- A channel as it lies. -/
structure CV where
  c : Ch
  sb : Sl
  sr : Sl
  ss : Sl
def CV.cs (x : CV) : List Value := [.int .i64 x.c.cap, x.sb.val, .bool x.c.closed, .int .i64 x.c.lock, x.sr.val, x.ss.val]
@[reducible] def CV.val (x : CV) : Value := .agg x.cs.toArray
structure RC (D : Nat → Prop) (w : World) (x : CV) : Prop where
  buf : RI .i64 D w x.sb x.c.buf
  recv : RI .i64 D w x.sr x.c.recv
  send : RI .i64 D w x.ss x.c.send
section
variable {D D' S : Nat → Prop} {w w' : World} {x : CV}
theorem RC.keep (h : RC D w x) (t : Turn S w w') (hs : ∀ i, D i → ¬ S i) : RC D w' x := ⟨h.buf.keep t hs, h.recv.keep t hs, h.send.keep t hs⟩
theorem RC.mono (h : RC D w x) (hd : ∀ i, D i → D' i) : RC D' w x := ⟨h.buf.mono hd, h.recv.mono hd, h.send.mono hd⟩
theorem RC.new (h : RC D w x) (t : Turn (fun _ => False) w w') : RC D w' x := h.keep t (fun _ _ => id)
end
def Sd.cs (d : Sd) : List Value := [.bool d.live, .int .i64 d.g, .int .i64 d.ch, .int .i64 d.case, .bool d.send, .int .i64 d.v, .bool d.done]
@[reducible] def Sd.val (d : Sd) : Value := .agg d.cs.toArray
def Mk.cs (m : Mk) : List Value := [.int .i64 m.g, .int .i64 m.op, .int .i64 m.call, .int .i64 m.arrive, .int .i64 m.point, .int .i64 m.wth, .int .i64 m.fire, .int .i64 m.re, .int .i64 m.res.code, .int .i64 m.res.case, .int .i64 m.res.v, .bool m.res.ok, .int .i64 m.res.n]
@[reducible] def Mk.val (m : Mk) : Value := .agg m.cs.toArray
def Rs.cs (r : Rs) : List Value := [.int .i64 r.code, .int .i64 r.case, .int .i64 r.v, .bool r.ok, .int .i64 r.n]
@[reducible] def Rs.val (r : Rs) : Value := .agg r.cs.toArray
/-- A row of numbers as it lies in a row of rows. -/
structure IV where
  l : List Int
  s : Sl
def IV.cs (x : IV) : List Value := [x.s.val]
def RV (D : Nat → Prop) (w : World) (x : IV) : Prop := RJ .i64 D w x.s x.l ∧ x.s.len ≤ x.s.cap
def Plain {α : Type} (D : Nat → Prop) (w : World) (x : α) : Prop := True

@[reducible] def RGs : (Nat → Prop) → World → Sl → List Gr → Prop := RRow GV.cs 25 RG GV.g
theorem RGs.keep {D S : Nat → Prop} {w w' : World} {s : Sl} {l : List Gr} (h : RGs D w s l) (t : Turn S w w') (hs : ∀ i, D i → ¬ S i) : RGs D w' s l := RRow.keep (fun _ h => h.keep t hs) h t hs
theorem RGs.mono {D D' : Nat → Prop} {w : World} {s : Sl} {l : List Gr} (h : RGs D w s l) (hd : ∀ i, D i → D' i) : RGs D' w s l := RRow.mono (fun _ h => h.mono hd) h hd
@[reducible] def RCh : (Nat → Prop) → World → Sl → List Ch → Prop := RRow CV.cs 6 RC CV.c
theorem RCh.keep {D S : Nat → Prop} {w w' : World} {s : Sl} {l : List Ch} (h : RCh D w s l) (t : Turn S w w') (hs : ∀ i, D i → ¬ S i) : RCh D w' s l := RRow.keep (fun _ h => h.keep t hs) h t hs
theorem RCh.mono {D D' : Nat → Prop} {w : World} {s : Sl} {l : List Ch} (h : RCh D w s l) (hd : ∀ i, D i → D' i) : RCh D' w s l := RRow.mono (fun _ h => h.mono hd) h hd
@[reducible] def RSd : (Nat → Prop) → World → Sl → List Sd → Prop := RRow Sd.cs 7 Plain id
theorem RSd.keep {D S : Nat → Prop} {w w' : World} {s : Sl} {l : List Sd} (h : RSd D w s l) (t : Turn S w w') (hs : ∀ i, D i → ¬ S i) : RSd D w' s l := RRow.keep (fun _ _ => trivial) h t hs
theorem RSd.mono {D D' : Nat → Prop} {w : World} {s : Sl} {l : List Sd} (h : RSd D w s l) (hd : ∀ i, D i → D' i) : RSd D' w s l := RRow.mono (fun _ _ => trivial) h hd
@[reducible] def RMk : (Nat → Prop) → World → Sl → List Mk → Prop := RRow Mk.cs 13 Plain id
theorem RMk.keep {D S : Nat → Prop} {w w' : World} {s : Sl} {l : List Mk} (h : RMk D w s l) (t : Turn S w w') (hs : ∀ i, D i → ¬ S i) : RMk D w' s l := RRow.keep (fun _ _ => trivial) h t hs
theorem RMk.mono {D D' : Nat → Prop} {w : World} {s : Sl} {l : List Mk} (h : RMk D w s l) (hd : ∀ i, D i → D' i) : RMk D' w s l := RRow.mono (fun _ _ => trivial) h hd
@[reducible] def RIs : (Nat → Prop) → World → Sl → List (List Int) → Prop := RRow IV.cs 1 RV IV.l
theorem RIs.keep {D S : Nat → Prop} {w w' : World} {s : Sl} {l : List (List Int)} (h : RIs D w s l) (t : Turn S w w') (hs : ∀ i, D i → ¬ S i) : RIs D w' s l := RRow.keep (fun _ h => ⟨RJ.keep h.1 t hs, h.2⟩) h t hs
theorem RIs.mono {D D' : Nat → Prop} {w : World} {s : Sl} {l : List (List Int)} (h : RIs D w s l) (hd : ∀ i, D i → D' i) : RIs D' w s l := RRow.mono (fun _ h => ⟨RJ.mono h.1 hd, h.2⟩) h hd

/-- The pool's rows as they lie: stage 5's. -/
structure RPl (D : Nat → Prop) (w : World) (ca mi : Sl) (p : R5.St) : Prop where
  r : R5.RS w p ca.ao ca.cap mi.ao mi.cap D
  ca : ca.len = p.n
  mi : mi.len = (p.M p.n).length
theorem RPl.keep {D S : Nat → Prop} {w w' : World} {ca mi : Sl} {p : R5.St} (h : RPl D w ca mi p) (t : Turn S w w') (hs : ∀ i, D i → ¬ S i) : RPl D w' ca mi p := ⟨h.r.turn t hs, h.ca, h.mi⟩
theorem RPl.mono {D D' : Nat → Prop} {w : World} {ca mi : Sl} {p : R5.St} (h : RPl D w ca mi p) (hd : ∀ i, D i → D' i) : RPl D' w ca mi p := ⟨h.r.mono hd, h.ca, h.mi⟩
/-- A state as it lies. -/
structure SV where
  s : St
  gs : Sl
  ch : Sl
  sd : Sl
  ca : Sl
  mi : Sl
  dr : Sl
  dn : Sl
def SV.cs (x : SV) : List Value := [.int .i64 (x.s.pool.size : Int), .int .i64 (x.s.pool.most : Int), .int .i64 x.s.step, x.gs.val, x.ch.val, x.sd.val, x.ca.val, x.mi.val, .int .i64 (x.s.pool.fresh : Int), x.dr.val, .int .i64 x.s.drawn, x.dn.val]
@[reducible] def SV.val (x : SV) : Value := .agg x.cs.toArray
structure RS (D : Nat → Prop) (w : World) (x : SV) : Prop where
  gs : RGs D w x.gs x.s.gs
  ch : RCh D w x.ch x.s.chans
  sd : RSd D w x.sd x.s.sudogs
  ca : RPl D w x.ca x.mi x.s.pool
  dr : RI .u16 D w x.dr x.s.draws
  dn : RMk D w x.dn x.s.done
section
variable {D D' S : Nat → Prop} {w w' : World} {x : SV}
theorem RS.keep (h : RS D w x) (t : Turn S w w') (hs : ∀ i, D i → ¬ S i) : RS D w' x := ⟨RGs.keep h.gs t hs, RCh.keep h.ch t hs, RSd.keep h.sd t hs, h.ca.keep t hs, h.dr.keep t hs, RMk.keep h.dn t hs⟩
theorem RS.mono (h : RS D w x) (hd : ∀ i, D i → D' i) : RS D' w x := ⟨RGs.mono h.gs hd, RCh.mono h.ch hd, RSd.mono h.sd hd, h.ca.mono hd, h.dr.mono hd, RMk.mono h.dn hd⟩
theorem RS.new (h : RS D w x) (t : Turn (fun _ => False) w w') : RS D w' x := h.keep t (fun _ _ => id)
end
/-- What lies in D, or was made from w to w'. -/
def Dn (D : Nat → Prop) (w w' : World) (i : Nat) : Prop := D i ∨ (w.heap.size ≤ i ∧ i < w'.heap.size)
theorem Dn.sub {D : Nat → Prop} {a b c d : World} (h1 : a.heap.size ≤ b.heap.size) (h2 : c.heap.size ≤ d.heap.size) : ∀ i, Dn D b c i → Dn D a d i := fun i h => h.imp id fun h => ⟨by omega, by omega⟩
theorem Dn.lt {D : Nat → Prop} {a b : World} (hD : ∀ i, D i → i < a.heap.size) (t : Turn (fun _ => False) a b) : ∀ i, Dn D a b i → i < b.heap.size := fun i h => h.elim (fun h => by have := hD i h; have := t.size; omega) (fun h => h.2)
/-- A box is none of these. -/
theorem Dn.off {D : Nat → Prop} {w0 w w' : World} {l : List (Nat × TypeId × List Value)} (B : Boxes w0 w l) (hD : ∀ i, D i → i < w0.heap.size) (j : Nat) {b : Nat} {e : TypeId} {cs : List Value} (hj : l[j]? = some (b, e, cs)) : ∀ i, Dn D w w' i → ¬ i = b := fun i h e' => by
  subst e'
  have h1 := B.low _ (List.mem_of_getElem? hj)
  have h2 := (B.at j hj).lt
  dsimp only at h1
  rcases h with h | h
  · have := hD _ h; omega
  · omega
theorem Dn.two {D : Nat → Prop} {a b c d e : World} (h1 : a.heap.size ≤ b.heap.size) (h2 : a.heap.size ≤ c.heap.size) (h3 : c.heap.size ≤ e.heap.size) (h4 : d.heap.size ≤ e.heap.size) : ∀ i, Dn (Dn D b c) d e i → a.heap.size ≤ d.heap.size → Dn D a e i := fun i h k => by
  rcases h with (h | h) | h
  · exact .inl h
  · exact .inr ⟨by omega, by omega⟩
  · exact .inr ⟨by omega, by omega⟩

theorem one_sl (s : Sl) : s.val.oneCell' = true := rfl
theorem gv_ok : Enc GV.cs 25 := ⟨fun _ => rfl, fun x u hu => by simp [GV.cs] at hu; rcases hu with rfl | rfl | rfl | rfl | rfl | rfl | rfl | rfl | rfl | rfl | rfl | rfl | rfl | rfl | rfl | rfl | rfl | rfl | rfl | rfl | rfl | rfl | rfl | rfl | rfl <;> rfl⟩
theorem cv_ok : Enc CV.cs 6 := ⟨fun _ => rfl, fun x u hu => by simp [CV.cs] at hu; rcases hu with rfl | rfl | rfl | rfl | rfl | rfl <;> rfl⟩
theorem sd_ok : Enc Sd.cs 7 := ⟨fun _ => rfl, fun x u hu => by simp [Sd.cs] at hu; rcases hu with rfl | rfl | rfl | rfl | rfl | rfl | rfl <;> rfl⟩
theorem mk_ok : Enc Mk.cs 13 := ⟨fun _ => rfl, fun x u hu => by simp [Mk.cs] at hu; rcases hu with rfl | rfl | rfl | rfl | rfl | rfl | rfl | rfl | rfl | rfl | rfl | rfl | rfl <;> rfl⟩
theorem rs_ok : Enc Rs.cs 5 := ⟨fun _ => rfl, fun x u hu => by simp [Rs.cs] at hu; rcases hu with rfl | rfl | rfl | rfl | rfl <;> rfl⟩
theorem iv_ok : Enc IV.cs 1 := ⟨fun _ => rfl, fun x u hu => by simp [IV.cs] at hu; subst hu; rfl⟩
theorem sv_ok : Enc SV.cs 12 := ⟨fun _ => rfl, fun x u hu => by simp [SV.cs] at hu; rcases hu with rfl | rfl | rfl | rfl | rfl | rfl | rfl | rfl | rfl | rfl | rfl | rfl <;> rfl⟩

/-! ### The cells, one by one, for the walk -/
@[go_sem] theorem Sl.val_eq (s : Sl) : s.val = .slice s.ao s.len s.cap := rfl
@[go_sem] theorem GV.c0 (x : GV) : x.cs[0]? = some (x.so.val) := rfl
@[go_sem] theorem GV.c1 (x : GV) : x.cs[1]? = some (.int .i64 x.g.at_) := rfl
@[go_sem] theorem GV.c2 (x : GV) : x.cs[2]? = some (.int .i64 x.g.place) := rfl
@[go_sem] theorem GV.c3 (x : GV) : x.cs[3]? = some (.int .i64 x.g.status) := rfl
@[go_sem] theorem GV.c4 (x : GV) : x.cs[4]? = some (.bool x.g.token) := rfl
@[go_sem] theorem GV.c5 (x : GV) : x.cs[5]? = some (.int .i64 x.g.call) := rfl
@[go_sem] theorem GV.c6 (x : GV) : x.cs[6]? = some (.bool x.g.picked) := rfl
@[go_sem] theorem GV.c7 (x : GV) : x.cs[7]? = some (.int .i64 x.g.param) := rfl
@[go_sem] theorem GV.c8 (x : GV) : x.cs[8]? = some (.int .i64 x.g.mine) := rfl
@[go_sem] theorem GV.c9 (x : GV) : x.cs[9]? = some (.int .i64 x.g.hold) := rfl
@[go_sem] theorem GV.c10 (x : GV) : x.cs[10]? = some (.int .i64 x.g.t) := rfl
@[go_sem] theorem GV.c11 (x : GV) : x.cs[11]? = some (.int .i64 x.g.arrive) := rfl
@[go_sem] theorem GV.c12 (x : GV) : x.cs[12]? = some (.int .i64 x.g.point) := rfl
@[go_sem] theorem GV.c13 (x : GV) : x.cs[13]? = some (.int .i64 x.g.wth) := rfl
@[go_sem] theorem GV.c14 (x : GV) : x.cs[14]? = some (.int .i64 x.g.fire) := rfl
@[go_sem] theorem GV.c15 (x : GV) : x.cs[15]? = some (.int .i64 x.g.res.code) := rfl
@[go_sem] theorem GV.c16 (x : GV) : x.cs[16]? = some (.int .i64 x.g.res.case) := rfl
@[go_sem] theorem GV.c17 (x : GV) : x.cs[17]? = some (.int .i64 x.g.res.v) := rfl
@[go_sem] theorem GV.c18 (x : GV) : x.cs[18]? = some (.bool x.g.res.ok) := rfl
@[go_sem] theorem GV.c19 (x : GV) : x.cs[19]? = some (.int .i64 x.g.res.n) := rfl
@[go_sem] theorem GV.c20 (x : GV) : x.cs[20]? = some (x.sr.val) := rfl
@[go_sem] theorem GV.c21 (x : GV) : x.cs[21]? = some (x.sl.val) := rfl
@[go_sem] theorem GV.c22 (x : GV) : x.cs[22]? = some (x.ss.val) := rfl
@[go_sem] theorem GV.c23 (x : GV) : x.cs[23]? = some (x.sw.val) := rfl
@[go_sem] theorem GV.c24 (x : GV) : x.cs[24]? = some (.int .i64 x.g.k) := rfl
@[go_sem] theorem GV.lenc (x : GV) : x.cs.length = 25 := rfl
@[go_sem] theorem CV.c0 (x : CV) : x.cs[0]? = some (.int .i64 x.c.cap) := rfl
@[go_sem] theorem CV.c1 (x : CV) : x.cs[1]? = some (x.sb.val) := rfl
@[go_sem] theorem CV.c2 (x : CV) : x.cs[2]? = some (.bool x.c.closed) := rfl
@[go_sem] theorem CV.c3 (x : CV) : x.cs[3]? = some (.int .i64 x.c.lock) := rfl
@[go_sem] theorem CV.c4 (x : CV) : x.cs[4]? = some (x.sr.val) := rfl
@[go_sem] theorem CV.c5 (x : CV) : x.cs[5]? = some (x.ss.val) := rfl
@[go_sem] theorem CV.lenc (x : CV) : x.cs.length = 6 := rfl
@[go_sem] theorem Sd.c0 (d : Sd) : d.cs[0]? = some (.bool d.live) := rfl
@[go_sem] theorem Sd.c1 (d : Sd) : d.cs[1]? = some (.int .i64 d.g) := rfl
@[go_sem] theorem Sd.c2 (d : Sd) : d.cs[2]? = some (.int .i64 d.ch) := rfl
@[go_sem] theorem Sd.c3 (d : Sd) : d.cs[3]? = some (.int .i64 d.case) := rfl
@[go_sem] theorem Sd.c4 (d : Sd) : d.cs[4]? = some (.bool d.send) := rfl
@[go_sem] theorem Sd.c5 (d : Sd) : d.cs[5]? = some (.int .i64 d.v) := rfl
@[go_sem] theorem Sd.c6 (d : Sd) : d.cs[6]? = some (.bool d.done) := rfl
@[go_sem] theorem Sd.lenc (d : Sd) : d.cs.length = 7 := rfl
@[go_sem] theorem Mk.c0 (m : Mk) : m.cs[0]? = some (.int .i64 m.g) := rfl
@[go_sem] theorem Mk.c1 (m : Mk) : m.cs[1]? = some (.int .i64 m.op) := rfl
@[go_sem] theorem Mk.c2 (m : Mk) : m.cs[2]? = some (.int .i64 m.call) := rfl
@[go_sem] theorem Mk.c3 (m : Mk) : m.cs[3]? = some (.int .i64 m.arrive) := rfl
@[go_sem] theorem Mk.c4 (m : Mk) : m.cs[4]? = some (.int .i64 m.point) := rfl
@[go_sem] theorem Mk.c5 (m : Mk) : m.cs[5]? = some (.int .i64 m.wth) := rfl
@[go_sem] theorem Mk.c6 (m : Mk) : m.cs[6]? = some (.int .i64 m.fire) := rfl
@[go_sem] theorem Mk.c7 (m : Mk) : m.cs[7]? = some (.int .i64 m.re) := rfl
@[go_sem] theorem Mk.c8 (m : Mk) : m.cs[8]? = some (.int .i64 m.res.code) := rfl
@[go_sem] theorem Mk.c9 (m : Mk) : m.cs[9]? = some (.int .i64 m.res.case) := rfl
@[go_sem] theorem Mk.c10 (m : Mk) : m.cs[10]? = some (.int .i64 m.res.v) := rfl
@[go_sem] theorem Mk.c11 (m : Mk) : m.cs[11]? = some (.bool m.res.ok) := rfl
@[go_sem] theorem Mk.c12 (m : Mk) : m.cs[12]? = some (.int .i64 m.res.n) := rfl
@[go_sem] theorem Mk.lenc (m : Mk) : m.cs.length = 13 := rfl
@[go_sem] theorem Rs.c0 (r : Rs) : r.cs[0]? = some (.int .i64 r.code) := rfl
@[go_sem] theorem Rs.c1 (r : Rs) : r.cs[1]? = some (.int .i64 r.case) := rfl
@[go_sem] theorem Rs.c2 (r : Rs) : r.cs[2]? = some (.int .i64 r.v) := rfl
@[go_sem] theorem Rs.c3 (r : Rs) : r.cs[3]? = some (.bool r.ok) := rfl
@[go_sem] theorem Rs.c4 (r : Rs) : r.cs[4]? = some (.int .i64 r.n) := rfl
@[go_sem] theorem Rs.lenc (r : Rs) : r.cs.length = 5 := rfl
@[go_sem] theorem IV.c0 (x : IV) : x.cs[0]? = some (x.s.val) := rfl
@[go_sem] theorem IV.lenc (x : IV) : x.cs.length = 1 := rfl
@[go_sem] theorem SV.c0 (x : SV) : x.cs[0]? = some (.int .i64 (x.s.pool.size : Int)) := rfl
@[go_sem] theorem SV.c1 (x : SV) : x.cs[1]? = some (.int .i64 (x.s.pool.most : Int)) := rfl
@[go_sem] theorem SV.c2 (x : SV) : x.cs[2]? = some (.int .i64 x.s.step) := rfl
@[go_sem] theorem SV.c3 (x : SV) : x.cs[3]? = some (x.gs.val) := rfl
@[go_sem] theorem SV.c4 (x : SV) : x.cs[4]? = some (x.ch.val) := rfl
@[go_sem] theorem SV.c5 (x : SV) : x.cs[5]? = some (x.sd.val) := rfl
@[go_sem] theorem SV.c6 (x : SV) : x.cs[6]? = some (x.ca.val) := rfl
@[go_sem] theorem SV.c7 (x : SV) : x.cs[7]? = some (x.mi.val) := rfl
@[go_sem] theorem SV.c8 (x : SV) : x.cs[8]? = some (.int .i64 (x.s.pool.fresh : Int)) := rfl
@[go_sem] theorem SV.c9 (x : SV) : x.cs[9]? = some (x.dr.val) := rfl
@[go_sem] theorem SV.c10 (x : SV) : x.cs[10]? = some (.int .i64 x.s.drawn) := rfl
@[go_sem] theorem SV.c11 (x : SV) : x.cs[11]? = some (x.dn.val) := rfl
@[go_sem] theorem SV.lenc (x : SV) : x.cs.length = 12 := rfl
@[go_sem] theorem OpV.c0 (r : OpV) : (encOV r)[0]? = some (.int .i64 r.kind) := rfl
@[go_sem] theorem OpV.c1 (r : OpV) : (encOV r)[1]? = some (.int .i64 r.ch) := rfl
@[go_sem] theorem OpV.c2 (r : OpV) : (encOV r)[2]? = some (.int .i64 r.n) := rfl
@[go_sem] theorem OpV.c3 (r : OpV) : (encOV r)[3]? = some (.int .i64 r.v) := rfl
@[go_sem] theorem OpV.c4 (r : OpV) : (encOV r)[4]? = some (r.cs.val) := rfl
@[go_sem] theorem OpV.c5 (r : OpV) : (encOV r)[5]? = some (.bool r.els) := rfl
@[go_sem] theorem OpV.lenc (r : OpV) : (encOV r).length = 6 := rfl
@[go_sem] theorem Cas.c0 (c : Cas) : (encCV c)[0]? = some (.bool c.send) := rfl
@[go_sem] theorem Cas.c1 (c : Cas) : (encCV c)[1]? = some (.int .i64 c.ch) := rfl
@[go_sem] theorem Cas.c2 (c : Cas) : (encCV c)[2]? = some (.int .i64 c.v) := rfl
@[go_sem] theorem Cas.lenc (c : Cas) : (encCV c).length = 3 := rfl

/-- One thing of a row, where it lies. -/
theorem rrow_at {ρ α : Type} {enc : ρ → List Value} {size : Nat} {R : (Nat → Prop) → World → ρ → Prop} {pr : ρ → α} {D : Nat → Prop} {w : World} {s : Sl} {l : List α} (he : Enc enc size) (hsz : 0 < size) (h : RRow enc size R pr D w s l) {i : Nat} {y : α} (hy : l[i]? = some y) (t : TypeId) (ht : Struct Try.prog t size) :
    ∃ ad X, s.ao = some ad ∧ pr X = y ∧ R D w X ∧ w.cell? (ad.add (i * size)) = (enc X)[0]? ∧ (∀ k, k + 1 < size → w.cell? ⟨(ad.add (i * size)).block, (ad.add (i * size)).off + (k + 1), none⟩ = (enc X)[k + 1]?) ∧ (Instr.loadAt t (.pointer (some (ad.add (i * size))))).run Try.prog w = .ok (.agg (enc X).toArray) w := by
  obtain ⟨Xs, h1, h2, h3⟩ := h.has
  subst h1
  rw [List.getElem?_map] at hy
  obtain ⟨X, hX, rfl⟩ := Option.map_eq_some_iff.1 hy
  obtain ⟨a, ha, hr, _, hc⟩ := has_load (P := Try.prog) (t := t) he h2 hX ht
  refine ⟨a, X, ha, rfl, h3 X (List.mem_of_getElem? hX), ?_, ?_, hr⟩
  · have hu := List.getElem?_eq_getElem (show 0 < (enc X).length by rw [he.len]; exact hsz)
    have := hc 0 _ hu
    rw [add_two, Nat.add_zero] at this
    rw [this, hu]
  · intro k hk
    have hu := List.getElem?_eq_getElem (show k + 1 < (enc X).length by rw [he.len]; exact hk)
    have := hc (k + 1) _ hu
    rw [hu]
    rwa [Addr.add_succ'] at this

def zSl : Sl := ⟨none, 0, 0⟩
def zS : SV := ⟨⟨⟨0, 0, 0, 0, fun _ => []⟩, 0, [], [], [], [], 0, []⟩, zSl, zSl, zSl, zSl, zSl, zSl, zSl⟩
def zG : GV := ⟨⟨[], 0, 0, 0, false, 0, false, 0, 0, 0, 0, 0, 0, 0, 0, ⟨0, 0, 0, false, 0⟩, [], [], [], [], 0⟩, zSl, zSl, zSl, zSl, zSl⟩
def zC : CV := ⟨ch0, zSl, zSl, zSl⟩
theorem t_state : Struct Try.prog 41 12 := ⟨⟨_, Try.underlying41, rfl⟩, by kernel_rfl⟩
theorem t_g : Struct Try.prog 50 25 := ⟨⟨_, Try.underlying50, rfl⟩, by kernel_rfl⟩
theorem t_chan : Struct Try.prog 63 6 := ⟨⟨_, Try.underlying63, rfl⟩, by kernel_rfl⟩
theorem t_sudog : Struct Try.prog 57 7 := ⟨⟨_, Try.underlying57, rfl⟩, by kernel_rfl⟩
theorem t_mark : Struct Try.prog 66 13 := ⟨⟨_, Try.underlying66, rfl⟩, by kernel_rfl⟩
theorem t_result : Struct Try.prog 48 5 := ⟨⟨_, Try.underlying48, rfl⟩, by kernel_rfl⟩
theorem info_int : (Try.prog.info? 3).map (fun i => (i.zero, i.size, i.bytes)) = some (some (.int .i64 0), 1, 8) := by kernel_rfl
theorem info_i64 : (Try.prog.info? 2).map (fun i => (i.zero, i.size, i.bytes)) = some (some (.int .i64 0), 1, 8) := by kernel_rfl
theorem info_g : (Try.prog.info? 50).map (fun i => (i.zero, i.size, i.bytes)) = some (some zG.val, 25, 280) := by kernel_rfl
theorem info_chan : (Try.prog.info? 63).map (fun i => (i.zero, i.size, i.bytes)) = some (some zC.val, 6, 96) := by kernel_rfl
theorem info_sudog : (Try.prog.info? 57).map (fun i => (i.zero, i.size, i.bytes)) = some (some sd0.val, 7, 56) := by kernel_rfl
theorem info_mark : (Try.prog.info? 66).map (fun i => (i.zero, i.size, i.bytes)) = some (some (Mk.val ⟨0, 0, 0, 0, 0, 0, 0, 0, ⟨0, 0, 0, false, 0⟩⟩), 13, 104) := by kernel_rfl

/-- What a function answers that makes another state. -/
def Gives (D : Nat → Prop) (w : World) (s' : St) (e : Ending) (w' : World) : Prop := ∃ y : SV, e = .returned y.val ∧ y.s = s' ∧ RS (Dn D w w') w' y ∧ Turn (fun _ => False) w w'
end Go.Proofs.Ytenbafkgfdlfpaa
