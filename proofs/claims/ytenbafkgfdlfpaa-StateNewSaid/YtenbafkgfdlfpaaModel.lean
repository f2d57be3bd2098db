/- A machine's state and its steps, as the document has them: values. Pure mathematics. -/
import Derived.Test.YtenbafkgfdlfpaaSame
import Derived.Test.YtenbafkgfdlfpaaP5Math
namespace Go.Proofs.Ytenbafkgfdlfpaa

structure Rs where
  code : Int
  case : Int
  v : Int
  ok : Bool
  n : Int
structure Gr where
  ops : List Opr
  at_ : Int
  place : Int
  status : Int
  token : Bool
  call : Int
  picked : Bool
  param : Int
  mine : Int
  hold : Int
  t : Int
  arrive : Int
  point : Int
  wth : Int
  fire : Int
  res : Rs
  order : List Int
  locks : List Int
  sgs : List Int
  wakes : List Int
  k : Int
structure Ch where
  cap : Int
  buf : List Int
  closed : Bool
  lock : Int
  recv : List Int
  send : List Int
structure Sd where
  live : Bool
  g : Int
  ch : Int
  case : Int
  send : Bool
  v : Int
  done : Bool
structure Mk where
  g : Int
  op : Int
  call : Int
  arrive : Int
  point : Int
  wth : Int
  fire : Int
  re : Int
  res : Rs
structure St where
  pool : R5.St
  step : Int
  gs : List Gr
  chans : List Ch
  sudogs : List Sd
  draws : List Int
  drawn : Int
  done : List Mk

def rs0 : Rs := ⟨0, 0, 0, false, 0⟩
def ch0 : Ch := ⟨0, [], false, 0, [], []⟩
def sd0 : Sd := ⟨false, 0, 0, 0, false, 0, false⟩
def op0 : Opr := ⟨0, 0, 0, 0, [], false⟩
def cas0 : Cas := ⟨false, 0, 0⟩
def freshG (ops : List Opr) (at_ : Int) : Gr := ⟨ops, at_, 0, 0, false, 0, false, -1, -1, -1, 0, 0, 0, -1, -1, ⟨0, -1, 0, false, 0⟩, [], [], [], [], 0⟩
def gr0 : Gr := freshG [] 0

/-- What stands at a number of a list; the same list but for that. -/
def ix {α : Type} (d : α) (l : List α) (i : Int) : α := l.getD i.toNat d
def putI {α : Type} (l : List α) (i : Int) (x : α) : List α := l.set i.toNat x

def St.g (s : St) (g : Int) : Gr := ix gr0 s.gs g
def St.c (s : St) (ch : Int) : Ch := ix ch0 s.chans (ch - 1)
def St.d (s : St) (i : Int) : Sd := ix sd0 s.sudogs i
def opG (x : Gr) : Opr := if x.at_ < (x.ops.length : Int) then ix op0 x.ops x.at_ else op0
def St.op (s : St) (g : Int) : Opr := opG (s.g g)
def St.made (s : St) (ch : Int) : Bool := decide (1 ≤ ch) && decide (ch ≤ (s.chans.length : Int))
def St.withG (s : St) (g : Int) (x : Gr) : St := { s with gs := putI s.gs g x }
def St.withC (s : St) (ch : Int) (c : Ch) : St := { s with chans := putI s.chans (ch - 1) c }
def St.withS (s : St) (i : Int) (d : Sd) : St := { s with sudogs := putI s.sudogs i d }
def St.go (s : St) (g place : Int) : St := s.withG g { s.g g with place := place }
def clearG (x : Gr) : Gr := { freshG x.ops x.at_ with place := x.place, status := x.status, token := x.token }
def St.clear (s : St) (g : Int) : St := s.withG g (clearG (s.g g))
def St.tryL (s : St) (g ch : Int) : St × Bool := if (s.c ch).lock ≠ -1 then (s, false) else (s.withC ch { s.c ch with lock := g }, true)
def St.free (s : St) (ch : Int) : St := s.withC ch { s.c ch with lock := -1 }

/-! ### The pool: stage 5's -/
def St.withPool (s : St) (p : R5.St) : St := { s with pool := p }
def St.sudog (s : St) (g : Int) : St × Int × Bool := (s.withPool (R5.takeN s.pool g.toNat).1, (R5.takeN s.pool g.toNat).2.1, (R5.takeN s.pool g.toNat).2.2)
def St.give (s : St) (g x : Int) : St := (s.withPool (R5.giveS s.pool g x)).withS x sd0

/-! ### What all operations do alike -/
def St.park (s : St) (g : Int) : St :=
  s.withG g (if (s.g g).status = 0 ∧ (s.g g).token = true then { s.g g with token := false } else if (s.g g).status = 0 then { s.g g with status := 1 } else s.g g)
def St.ready (s : St) (g : Int) : St :=
  s.withG g (if (s.g g).status = 1 then { s.g g with status := 0 } else if (s.g g).status = 0 then { s.g g with token := true } else s.g g)
def St.pair (s : St) (g i : Int) : St :=
  let x := s.g g
  let o := (s.d i).g
  (s.withG o { s.g o with point := x.t, wth := g, fire := (s.d i).case }).withG g { x with point := x.t, wth := o }
def St.serve (s : St) (g i : Int) (done : Bool) : St :=
  let d := { s.d i with done := done }
  let s1 := (s.withG d.g { s.g d.g with param := i }).withS i d
  s1.withG g { s1.g g with wakes := (s1.g g).wakes ++ [d.g], hold := -1 }
def St.wake' (s : St) (g : Int) : St := if (s.g g).wakes ≠ [] then s.go g 17 else s.go g 18
def St.common (s : St) (g : Int) : St × Bool :=
  let x := s.g g
  let op := s.op g
  if x.place = 4 then
    if (s.tryL g op.ch).2 = false then (s, true)
    else if op.kind = 6 then ((s.tryL g op.ch).1.go g 21, true)
    else ((s.tryL g op.ch).1.go g 5, true)
  else if x.place = 12 then ((s.free op.ch).go g 13, true)
  else if x.place = 13 then ((s.go g 14).park g, true)
  else if x.place = 15 then (((s.give g x.mine).withG g { x with mine := -1 }).go g 18, true)
  else if x.place = 16 then ((s.free op.ch).wake' g, true)
  else if x.place = 17 then (((s.ready (ix 0 x.wakes 0)).withG g { x with wakes := x.wakes.drop 1 }).wake' g, true)
  else (s, false)
def St.pointAt (s : St) (g : Int) (r : Rs) (place : Int) : St := s.withG g { s.g g with point := s.step, res := r, place := place }

/-! ### Rings -/
def putR (l : List Int) (room v : Int) : List Int × Bool := if room ≤ (l.length : Int) then (l, false) else (l ++ [v], true)
def getR (l : List Int) : List Int × Int × Bool := if l = [] then (l, 0, false) else (l.drop 1, ix 0 l 0, true)
def passR (l : List Int) (room v : Int) : List Int × Int × Bool := if (l.length : Int) < room ∨ l = [] then (l, 0, false) else (l.drop 1 ++ [v], ix 0 l 0, true)

/-! ### Sends and receives -/
def sendDone : Rs := ⟨1, -1, 0, true, 0⟩
def codeR (c : Int) : Rs := ⟨c, -1, 0, false, 0⟩
def gotR (v : Int) (ok : Bool) : Rs := ⟨1, -1, v, ok, 0⟩
def roomC (c : Ch) : Bool := if 0 < c.cap then decide ((c.buf.length : Int) < c.cap) else decide (c.recv ≠ [])
def someC (c : Ch) : Bool := if 0 < c.cap then decide (c.buf ≠ []) else decide (c.send ≠ [])
def without (l : List Int) (x : Int) : List Int := l.filter fun y => y != x
def St.drop (s : St) (i : Int) : St :=
  let ch := (s.d i).ch
  if s.made ch = false then s else s.withC ch { s.c ch with recv := without (s.c ch).recv i, send := without (s.c ch).send i }
def St.win (s : St) (g back on : Int) : St :=
  let x := s.g g
  let p := (s.d x.hold).g
  if (s.g p).picked = true then (s.drop x.hold).withG g { x with hold := -1, place := back }
  else (((s.withG p { s.g p with picked := true }).withG g { x with t := s.step }).pair g x.hold).go g on
def St.taken (s : St) (g i win hand : Int) : St :=
  if 0 ≤ (s.d i).case then (s.withG g { s.g g with hold := i }).go g win
  else (((s.withG g { s.g g with hold := i, t := s.step }).drop i).pair g i).go g hand
def St.mine' (s : St) (g : Int) (d : Sd) : St :=
  let n := (s.sudog g).1
  if (s.sudog g).2.2 = false then n.withG g { s.g g with res := { (s.g g).res with code := 6 }, place := 16 }
  else (n.withS (s.sudog g).2.1 d).withG g { s.g g with mine := (s.sudog g).2.1, place := 11 }
def St.sendStep (s : St) (g : Int) : St × Bool :=
  let x := s.g g
  let op := s.op g
  if op.kind ≠ 2 ∧ op.kind ≠ 4 then (s, false)
  else if (s.common g).2 = true then ((s.common g).1, true)
  else if s.made op.ch = false then (s, false)
  else
    let c := s.c op.ch
    if x.place = 1 then (if roomC c = true then (s.go g 4, true) else (s.pointAt g x.res 2, true))
    else if x.place = 2 then (if c.closed = true then (s.withG g { x with point := 0, place := 4 }, true) else (s.withG g { x with res := { x.res with code := 2 }, place := 18 }, true))
    else if x.place = 5 then (if c.closed = true then (s.pointAt g (codeR 3) 16, true) else (s.go g 6, true))
    else if x.place = 6 then (if c.recv = [] then (s.go g 9, true) else (s.taken g (ix 0 c.recv 0) 7 8, true))
    else if x.place = 7 then (s.win g 6 8, true)
    else if x.place = 8 then
      let s1 := s.drop x.hold
      let s2 := (s1.withS x.hold { s1.d x.hold with v := op.v }).serve g x.hold true
      (s2.withG g { s2.g g with res := sendDone, place := 16 }, true)
    else if x.place = 9 then
      if (putR c.buf c.cap op.v).2 = true then ((s.withC op.ch { c with buf := (putR c.buf c.cap op.v).1 }).pointAt g sendDone 16, true)
      else if op.kind = 4 then (s.pointAt g (codeR 2) 16, true)
      else (s.go g 10, true)
    else if x.place = 10 then (s.mine' g ⟨true, g, op.ch, -1, true, op.v, false⟩, true)
    else if x.place = 11 then ((s.withC op.ch { c with send := c.send ++ [x.mine] }).withG g { x with arrive := s.step, place := 12 }, true)
    else if x.place = 14 then (s.withG g { x with res := if (s.d x.param).done = true then sendDone else codeR 3, param := -1, place := 15 }, true)
    else (s, false)
def St.hand (s : St) (ch i : Int) : St × Int :=
  let c := s.c ch
  if c.cap = 0 then (s, (s.d i).v)
  else (s.withC ch { c with buf := (passR c.buf c.cap (s.d i).v).1 }, (passR c.buf c.cap (s.d i).v).2.1)
def St.recvStep (s : St) (g : Int) : St × Bool :=
  let x := s.g g
  let op := s.op g
  if op.kind ≠ 3 ∧ op.kind ≠ 5 then (s, false)
  else if (s.common g).2 = true then ((s.common g).1, true)
  else if s.made op.ch = false then (s, false)
  else
    let c := s.c op.ch
    if x.place = 1 then (if someC c = true then (s.go g 4, true) else (s.pointAt g x.res 2, true))
    else if x.place = 2 then (if c.closed = true then (s.go g 3, true) else (s.withG g { x with res := { x.res with code := 2 }, place := 18 }, true))
    else if x.place = 3 then (if someC c = true then (s.withG g { x with point := 0, place := 4 }, true) else (s.pointAt g (gotR 0 false) 18, true))
    else if x.place = 5 then (if c.closed = true ∧ c.buf = [] then (s.pointAt g (gotR 0 false) 16, true) else if c.closed = true then (s.go g 9, true) else (s.go g 6, true))
    else if x.place = 6 then (if c.send = [] then (s.go g 9, true) else (s.taken g (ix 0 c.send 0) 7 8, true))
    else if x.place = 7 then (s.win g 6 8, true)
    else if x.place = 8 then
      let n := ((s.drop x.hold).hand op.ch x.hold).1.serve g x.hold true
      (n.withG g { n.g g with res := gotR ((s.drop x.hold).hand op.ch x.hold).2 true, place := 16 }, true)
    else if x.place = 9 then
      if (getR c.buf).2.2 = true then ((s.withC op.ch { c with buf := (getR c.buf).1 }).pointAt g (gotR (getR c.buf).2.1 true) 16, true)
      else if op.kind = 5 then (s.pointAt g (codeR 2) 16, true)
      else (s.go g 10, true)
    else if x.place = 10 then (s.mine' g ⟨true, g, op.ch, -1, false, 0, false⟩, true)
    else if x.place = 11 then ((s.withC op.ch { c with recv := c.recv ++ [x.mine] }).withG g { x with arrive := s.step, place := 12 }, true)
    else if x.place = 14 then (s.withG g { x with res := if (s.d x.param).done = true then gotR (s.d x.param).v true else gotR 0 false, param := -1, place := 15 }, true)
    else (s, false)

/-! ### Closes -/
def St.closedOn (s : St) (g : Int) : St :=
  let i := (s.g g).hold
  let s1 := (s.withG g { s.g g with t := s.step }).drop i
  let d := s1.d i
  (s1.withG d.g { s1.g d.g with point := (s1.g g).t, fire := d.case }).serve g i false
def St.shutStep (s : St) (g : Int) : St × Bool :=
  let x := s.g g
  let op := s.op g
  if op.kind ≠ 6 then (s, false)
  else if (s.common g).2 = true then ((s.common g).1, true)
  else if s.made op.ch = false then (s, false)
  else
    let c := s.c op.ch
    if x.place = 21 then (if c.closed = true then (s.pointAt g (codeR 4) 16, true) else ((s.withC op.ch { c with closed := true }).pointAt g sendDone 22, true))
    else if x.place = 22 then
      if c.recv = [] ∧ c.send = [] then (s.go g 16, true)
      else
        let i := if c.recv = [] then ix 0 c.send 0 else ix 0 c.recv 0
        let s1 := s.withG g { x with hold := i }
        if 0 ≤ (s1.d i).case then (s1.go g 23, true) else (s1.closedOn g, true)
    else if x.place = 23 then
      let p := (s.d x.hold).g
      if (s.g p).picked = true then ((s.drop x.hold).withG g { x with hold := -1, place := 22 }, true)
      else (((s.withG p { s.g p with picked := true }).closedOn g).go g 22, true)
    else (s, false)

/-! ### What begins and ends -/
def drawI (l : List Int) (at_ n : Int) : Int × Int := if n < 1 ∨ (l.length : Int) ≤ at_ then (0, at_) else (ix 0 l at_ % n, at_ + 1)
/-- The draws of a select with so many cases, and how far. -/
def drawsI (l : List Int) (at_ : Int) : Nat → List Int × Int
  | 0 => ([], at_)
  | n + 1 => ((drawsI l at_ n).1 ++ [(drawI l (drawsI l at_ n).2 (n + 1)).1], (drawI l (drawsI l at_ n).2 (n + 1)).2)
def swapI (l : List Int) (i j : Int) : List Int := putI (putI l i (ix 0 l j)) j (ix 0 l i)
def orderRev : List Int → List Int
  | [] => []
  | d :: r => swapI (orderRev r ++ [(r.length : Int)]) (((d % (r.length + 1 : Int)) + (r.length + 1 : Int)) % (r.length + 1 : Int)) r.length
def orderI (draws : List Int) : List Int := orderRev draws.reverse
def insI (x : Int) : List Int → List Int
  | [] => [x]
  | y :: l => if x < y then x :: y :: l else if x = y then y :: l else y :: insI x l
/-- The numbers above 0, each once, rising. -/
def locksI : List Int → List Int
  | [] => []
  | x :: l => if x ≤ 0 then locksI l else insI x (locksI l)
def St.never (s : St) (g : Int) : St := (s.go g 19).park g
def St.selects (s : St) (g : Int) (op : Opr) : St :=
  let dr := drawsI s.draws s.drawn op.cases.length
  let s0 := { s with drawn := dr.2 }
  let ord := (orderI dr.1).filter fun i => s.made (ix cas0 op.cases i).ch
  let ids := ord.map fun i => (ix cas0 op.cases i).ch
  let x := s0.g g
  let s1 := s0.withG g { x with order := x.order ++ ord, locks := locksI ids, place := 24 }
  if ids ≠ [] then s1 else if op.els = true then s1.pointAt g (codeR 2) 18 else s1.never g
def St.begin (s : St) (g : Int) : St :=
  let x := s.g g
  if (x.ops.length : Int) ≤ x.at_ then s.withG g { x with status := 2, token := false }
  else
    let s1 := s.clear g
    let s2 := s1.withG g { s1.g g with call := s1.step }
    let op := s2.op g
    let made := s2.made op.ch
    if op.kind = 1 ∨ op.kind = 7 ∨ op.kind = 8 then s2.go g 20
    else if op.kind = 2 ∨ op.kind = 3 then (if made = true then s2.go g 4 else s2.never g)
    else if op.kind = 4 ∨ op.kind = 5 then (if made = true then s2.go g 1 else s2.pointAt g (codeR 2) 18)
    else if op.kind = 6 then (if made = true then s2.go g 4 else s2.pointAt g (codeR 5) 18)
    else s2.selects g op
def St.doIt (s : St) (g : Int) : St :=
  let op := s.op g
  if op.kind = 1 ∧ 8 ≤ s.chans.length then s.pointAt g (codeR 7) 18
  else if op.kind = 1 then ({ s with chans := s.chans ++ [(⟨op.n, [], false, -1, [], []⟩ : Ch)] }).pointAt g { sendDone with n := (s.chans.length : Int) + 1 } 18
  else if s.made op.ch = true ∧ op.kind = 7 then s.pointAt g { sendDone with n := ((s.c op.ch).buf.length : Int) } 18
  else if s.made op.ch = true then s.pointAt g { sendDone with n := (s.c op.ch).cap } 18
  else s.pointAt g sendDone 18
def St.mark (s : St) (g re : Int) : Mk := ⟨g, (s.g g).at_, (s.g g).call, (s.g g).arrive, (s.g g).point, (s.g g).wth, (s.g g).fire, re, (s.g g).res⟩
def St.answer (s : St) (g : Int) : St :=
  let s1 := { s with done := s.done ++ [s.mark g s.step] }
  (s1.withG g { s1.g g with at_ := (s1.g g).at_ + 1, place := 0 }).clear g
def St.otherStep (s : St) (g : Int) : St × Bool :=
  if (s.g g).place = 0 then (s.begin g, true)
  else if (s.g g).place = 20 then (s.doIt g, true)
  else if (s.g g).place = 18 then (s.answer g, true)
  else (s, false)

/-! ### Selects -/
def chosen (r : Rs) (i : Int) : Rs := { r with case := i }
def St.unlock (s : St) (g place : Int) : St := s.withG g { s.g g with k := ((s.g g).locks.length : Int), place := place }
def St.fires (s : St) (g : Int) (r : Rs) (i : Int) : St :=
  let s1 := s.pointAt g (chosen r i) 30
  (s1.withG g { s1.g g with fire := i }).unlock g 30
def St.lockN (s : St) (g place : Int) : St :=
  let x := s.g g
  if (s.tryL g (ix 0 x.locks x.k)).2 = false then s
  else if x.k + 1 = (x.locks.length : Int) then (s.tryL g (ix 0 x.locks x.k)).1.withG g { x with k := 0, place := place }
  else (s.tryL g (ix 0 x.locks x.k)).1.withG g { x with k := x.k + 1 }
def St.nextC (s : St) (g place : Int) : St :=
  let x := s.g g
  if x.k + 1 = (x.order.length : Int) then s.withG g { x with k := 0, place := place } else s.withG g { x with k := x.k + 1 }
def St.won (s : St) (g : Int) : St :=
  let x := s.g g
  s.withG g (if x.place = 27 then { x with fire := ix 0 x.order x.k } else x)
def St.pollSend (s : St) (g i : Int) (k : Cas) : St × Bool :=
  let c := s.c k.ch
  if c.closed = true then (s.fires g ⟨3, 0, 0, false, 0⟩ i, true)
  else if c.recv ≠ [] then ((s.taken g (ix 0 c.recv 0) 26 27).won g, true)
  else if (putR c.buf c.cap k.v).2 = false then (s, false)
  else ((s.withC k.ch { c with buf := (putR c.buf c.cap k.v).1 }).fires g ⟨1, 0, 0, true, 0⟩ i, true)
def St.pollRecv (s : St) (g i : Int) (k : Cas) : St × Bool :=
  let c := s.c k.ch
  if c.send ≠ [] then ((s.taken g (ix 0 c.send 0) 26 27).won g, true)
  else if (getR c.buf).2.2 = true then ((s.withC k.ch { c with buf := (getR c.buf).1 }).fires g (gotR (getR c.buf).2.1 true) i, true)
  else if c.closed = true then (s.fires g (gotR 0 false) i, true)
  else (s, false)
def St.poll (s : St) (g : Int) (op : Opr) : St :=
  let x := s.g g
  let i := ix 0 x.order x.k
  let k := ix cas0 op.cases i
  let o := if k.send = true then s.pollSend g i k else s.pollRecv g i k
  if o.2 = true then o.1
  else if x.k + 1 < (x.order.length : Int) then s.nextC g 25
  else if op.els = true then s.fires g ⟨2, 0, 0, false, 0⟩ (-1)
  else (s.withG g { x with sgs := List.replicate op.cases.length (-1) }).nextC g 28
def St.handC (s : St) (g : Int) (op : Opr) : St :=
  let x := s.g g
  let i := ix 0 x.order x.k
  let k := ix cas0 op.cases i
  let s1 := s.drop x.hold
  let s2 := if k.send = true then s1.withS x.hold { s1.d x.hold with v := k.v } else (s1.hand k.ch x.hold).1
  let r : Rs := if k.send = true then ⟨1, 0, 0, true, 0⟩ else gotR (s1.hand k.ch x.hold).2 true
  let s3 := s2.serve g x.hold true
  (s3.withG g { s3.g g with res := chosen r i }).unlock g 30
def St.sudogsC (s : St) (g : Int) (op : Opr) : St :=
  let a := (s.sudog g).1
  let x := s.g g
  let i := ix 0 x.order x.k
  if (s.sudog g).2.2 = false then (a.withG g { x with res := { x.res with code := 6 } }).unlock g 30
  else
    let k := ix cas0 op.cases i
    let d := (s.sudog g).2.1
    ((a.withS d ⟨true, g, k.ch, i, k.send, k.v, false⟩).withG g { x with sgs := putI x.sgs i d }).nextC g 29
def St.queuesC (s : St) (g : Int) (op : Opr) : St :=
  let x := s.g g
  let i := ix 0 x.order x.k
  let k := ix cas0 op.cases i
  let c := s.c k.ch
  let s1 := s.withC k.ch (if k.send = true then { c with send := c.send ++ [ix 0 x.sgs i] } else { c with recv := c.recv ++ [ix 0 x.sgs i] })
  if x.k + 1 < (x.order.length : Int) then s1.nextC g 29 else (s1.withG g { x with arrive := s.step }).unlock g 30
def St.freed (s : St) (g : Int) : St × Bool :=
  let x := s.g g
  ((s.free (ix 0 x.locks (x.k - 1))).withG g { x with k := x.k - 1 }, decide (0 < x.k - 1))
def someI (l : List Int) : Bool := l.any fun x => decide (0 ≤ x)
def St.wakeC (s : St) (g : Int) : St :=
  let x := s.g g
  let d := s.d x.param
  let r0 := if d.done = true then chosen (gotR d.v true) d.case else chosen (gotR 0 false) d.case
  let r : Rs := if d.send = true ∧ d.done = true then { r0 with v := 0 } else if d.send = true then ⟨3, d.case, 0, false, 0⟩ else r0
  s.withG g { x with res := r, param := -1, k := 0, place := 31 }
def St.lose (s : St) (g : Int) : St :=
  let x := s.g g
  let s1 := s.drop (ix 0 x.sgs (ix 0 x.order x.k))
  if x.k + 1 < (x.order.length : Int) then s1.nextC g 32 else s1.unlock g 33
def St.frees (s : St) (g : Int) : St :=
  let x := s.g g
  let i := ix 0 x.order x.k
  let s1 := if 0 ≤ ix 0 x.sgs i then s.give g (ix 0 x.sgs i) else s
  let last := decide (x.k + 1 = (x.order.length : Int))
  let s2 := (s1.withG g { x with sgs := if last = true then [] else putI x.sgs i (-1) }).nextC g 34
  if last = true then s2.wake' g else s2
def St.chooseStep (s : St) (g : Int) : St × Bool :=
  let x := s.g g
  let op := s.op g
  if op.kind ≠ 9 then (s, false)
  else if x.place = 24 then (s.lockN g 25, true)
  else if x.place = 25 then (s.poll g op, true)
  else if x.place = 26 then ((s.win g 25 27).won g, true)
  else if x.place = 27 then (s.handC g op, true)
  else if x.place = 28 then (s.sudogsC g op, true)
  else if x.place = 29 then (s.queuesC g op, true)
  else if x.place = 30 then
    if (s.freed g).2 = true then ((s.freed g).1, true)
    else if x.res.code = 0 then ((s.freed g).1.go g 13, true)
    else if someI x.sgs = true then ((s.freed g).1.go g 34, true)
    else ((s.freed g).1.wake' g, true)
  else if x.place = 14 then (s.wakeC g, true)
  else if x.place = 31 then (s.lockN g 32, true)
  else if x.place = 32 then (s.lose g, true)
  else if x.place = 33 then (if (s.freed g).2 = true then ((s.freed g).1, true) else ((s.freed g).1.go g 34, true))
  else if x.place = 34 then (s.frees g, true)
  else if x.place = 13 ∨ x.place = 17 then s.common g
  else (s, false)

/-! ### Steps -/
def runningFrom (i : Nat) : List Gr → List Int
  | [] => []
  | x :: l => if x.status = 0 then (i : Int) :: runningFrom (i + 1) l else runningFrom (i + 1) l
def St.running (s : St) : List Int := runningFrom 0 s.gs
def St.one (s : St) (g : Int) : St × Bool :=
  if g < 0 ∨ (s.gs.length : Int) ≤ g ∨ (s.g g).status ≠ 0 then (s, false)
  else
    let n := { s with step := s.step + 1 }
    if (n.otherStep g).2 = true then ((n.otherStep g).1, true)
    else if (n.sendStep g).2 = true then ((n.sendStep g).1, true)
    else if (n.recvStep g).2 = true then ((n.recvStep g).1, true)
    else if (n.shutStep g).2 = true then ((n.shutStep g).1, true)
    else if (n.chooseStep g).2 = true then ((n.chooseStep g).1, true)
    else (s, false)
def St.pick (s : St) (p : Int) : Int :=
  if s.running = [] then -1
  else ix 0 s.running ((p.tmod s.running.length + s.running.length).tmod s.running.length)
def St.run (s : St) : List Int → St × Nat → St × Nat
  | [], r => r
  | p :: ps, r => if r.1.pick p < 0 then r else St.run s ps ((r.1.one (r.1.pick p)).1, r.2 + 1)
def newS (p : List (List Opr)) (sudogs cache : Int) (draws : List Int) : St :=
  ⟨⟨p.length, sudogs.toNat, cache.toNat, 0, fun _ => []⟩, 0, p.map fun ops => freshG ops 0, [], List.replicate sudogs.toNat sd0, draws, 0, []⟩

end Go.Proofs.Ytenbafkgfdlfpaa
