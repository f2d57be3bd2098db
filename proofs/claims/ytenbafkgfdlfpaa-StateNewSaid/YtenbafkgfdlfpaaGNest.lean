/- Plans in memory: rows of rows of structs that hold rows of structs, read, or of the call's own. General, over any program: eC, eO, eL: the types of a case, of an op, of a list of ops. -/
import Derived.Test.YtenbafkgfdlfpaaGFlat
import Derived.Test.YtenbafkgfdlfpaaSame
namespace Go.Proofs.Ytenbafkgfdlfpaa
open Go.RowKit

/-- A slice's value, by its parts. -/
structure Sl where
  ao : Option Addr
  len : Nat
  cap : Nat
def Sl.val (s : Sl) : Value := .slice s.ao s.len s.cap
/-- A slice of so many things: not nil, unless there is no room. -/
structure Sl.Ok (s : Sl) (n : Nat) : Prop where
  len : s.len = n
  cap : s.len ≤ s.cap
  max : s.cap ≤ maxLen
  nil : s.ao = none → s.cap = 0
/-- The block in which a slice's things lie is one of e's. -/
def Typ (w : World) (e : TypeId) (ao : Option Addr) : Prop := ∀ ad, ao = some ad → ∃ cur, w.heap[ad.block]? = some (.cells cur e (0, 0))
theorem Typ.new {w w' : World} {e : TypeId} {ao : Option Addr} (h : Typ w e ao) (t : Turn (fun _ => False) w w') : Typ w' e ao := fun ad he => (h ad he).imp fun _ hc => t.heap id hc
/-- The blocks of S are of another type. -/
def Apart (w : World) (e : TypeId) (S : Nat → Prop) : Prop := ∀ i, i < w.heap.size → S i → ∃ cur e', e' ≠ e ∧ w.heap[i]? = some (.cells cur e' (0, 0))
theorem Apart.not {w : World} {e : TypeId} {S : Nat → Prop} (h : Apart w e S) {i : Nat} {cur : Array Value} (hi : w.heap[i]? = some (.cells cur e (0, 0))) : ¬ S i := fun hs => by
  obtain ⟨cur', e', hne, hc⟩ := h i (Array.getElem?_eq_some_iff.1 hi).1 hs
  rw [hi] at hc
  injection hc with hc
  injection hc with _ ht
  exact hne ht.symm
theorem Typ.apart {w w' : World} {e : TypeId} {ao : Option Addr} {S : Nat → Prop} (h : Typ w e ao) (t : Turn S w w') (ha : Apart w e S) : Typ w' e ao := fun ad he => by
  obtain ⟨cur, hc⟩ := h ad he
  exact ⟨cur, t.heap (ha.not hc) hc⟩
theorem Has.apart {α : Type} {enc : α → List Value} {size : Nat} {w w' : World} {e : TypeId} {ao : Option Addr} {L : List α} {S : Nat → Prop} (h : Has enc size w ao L) (hT : Typ w e ao) (t : Turn S w w') (ha : Apart w e S) : Has enc size w' ao L :=
  h.turn t fun ad he => by
    obtain ⟨cur, hc⟩ := hT ad he
    exact ha.not hc
theorem Has.new {α : Type} {enc : α → List Value} {size : Nat} {w w' : World} {ao : Option Addr} {L : List α} (h : Has enc size w ao L) (t : Turn (fun _ => False) w w') : Has enc size w' ao L := h.turn t fun _ _ => id

/-! ### The codings -/
def encCV (c : Cas) : List Value := [.bool c.send, .int .i64 c.ch, .int .i64 c.v]
/-- An op as it lies: its cases by their slice. -/
structure OpV where
  kind : Int
  ch : Int
  n : Int
  v : Int
  cs : Sl
  els : Bool
def encOV (r : OpV) : List Value := [.int .i64 r.kind, .int .i64 r.ch, .int .i64 r.n, .int .i64 r.v, r.cs.val, .bool r.els]
def encSV (s : Sl) : List Value := [s.val]
theorem encCV_ok : Enc encCV 3 := ⟨fun _ => rfl, fun x u hu => by simp [encCV] at hu; rcases hu with rfl | rfl | rfl <;> rfl⟩
theorem encOV_ok : Enc encOV 6 := ⟨fun _ => rfl, fun x u hu => by simp [encOV] at hu; rcases hu with rfl | rfl | rfl | rfl | rfl | rfl <;> rfl⟩
theorem encSV_ok : Enc encSV 1 := ⟨fun _ => rfl, fun x u hu => by simp [encSV] at hu; subst hu; rfl⟩

/-! ### What is read -/
/-- The slice s reads as the cases L. -/
structure RCs (w : World) (s : Sl) (L : List Cas) : Prop where
  ok : s.Ok L.length
  has : Has encCV 3 w s.ao L
structure ROp (w : World) (r : OpV) (o : Opr) : Prop where
  kind : r.kind = o.kind
  ch : r.ch = o.ch
  n : r.n = o.n
  v : r.v = o.v
  els : r.els = o.els
  cs : RCs w r.cs o.cases
structure ROps (w : World) (s : Sl) (l : List Opr) : Prop where
  ok : s.Ok l.length
  has : ∃ R : List OpV, R.length = l.length ∧ Has encOV 6 w s.ao R ∧ ∀ (i : Nat) r o, R[i]? = some r → l[i]? = some o → ROp w r o
structure RPlan (w : World) (s : Sl) (p : List (List Opr)) : Prop where
  ok : s.Ok p.length
  has : ∃ V : List Sl, V.length = p.length ∧ Has encSV 1 w s.ao V ∧ ∀ (i : Nat) x l, V[i]? = some x → p[i]? = some l → ROps w x l
section
variable {w w' : World}
theorem RCs.new {s : Sl} {L : List Cas} (h : RCs w s L) (t : Turn (fun _ => False) w w') : RCs w' s L := ⟨h.ok, h.has.new t⟩
theorem ROp.new {r : OpV} {o : Opr} (h : ROp w r o) (t : Turn (fun _ => False) w w') : ROp w' r o := ⟨h.kind, h.ch, h.n, h.v, h.els, h.cs.new t⟩
theorem ROps.new {s : Sl} {l : List Opr} (h : ROps w s l) (t : Turn (fun _ => False) w w') : ROps w' s l := by
  obtain ⟨R, h1, h2, h3⟩ := h.has
  exact ⟨h.ok, R, h1, h2.new t, fun i r o hr ho => (h3 i r o hr ho).new t⟩
theorem RPlan.new {s : Sl} {p : List (List Opr)} (h : RPlan w s p) (t : Turn (fun _ => False) w w') : RPlan w' s p := by
  obtain ⟨V, h1, h2, h3⟩ := h.has
  exact ⟨h.ok, V, h1, h2.new t, fun i r o hr ho => (h3 i r o hr ho).new t⟩

/-- One case of them, where it lies. -/
theorem RCs.at {s : Sl} {L : List Cas} (h : RCs w s L) {i : Nat} {c : Cas} (hc : L[i]? = some c) :
    ∃ a, s.ao = some a ∧ w.cell? (a.add (i * 3)) = some (.bool c.send) ∧ w.cell? ((a.add (i * 3)).add 1) = some (.int .i64 c.ch) ∧ w.cell? ((a.add (i * 3)).add 2) = some (.int .i64 c.v) := by
  obtain ⟨a, ha, hh⟩ := h.has i c hc
  refine ⟨a, ha, ?_, hh 1 _ rfl, hh 2 _ rfl⟩
  have := hh 0 _ rfl
  rwa [add_two, Nat.add_zero] at this
theorem ROps.at {s : Sl} {l : List Opr} (h : ROps w s l) {i : Nat} {o : Opr} (ho : l[i]? = some o) :
    ∃ a r, s.ao = some a ∧ ROp w r o ∧ (∀ j u, (encOV r)[j]? = some u → w.cell? ((a.add (i * 6)).add j) = some u) := by
  obtain ⟨R, h1, h2, h3⟩ := h.has
  have hi := (List.getElem?_eq_some_iff.1 ho).1
  have hr : R[i]? = some (R[i]'(by omega)) := List.getElem?_eq_getElem (by omega)
  obtain ⟨a, ha, hh⟩ := h2 i _ hr
  exact ⟨a, _, ha, h3 i _ o hr ho, hh⟩
theorem RPlan.at {s : Sl} {p : List (List Opr)} (h : RPlan w s p) {i : Nat} {l : List Opr} (hl : p[i]? = some l) :
    ∃ a x, s.ao = some a ∧ ROps w x l ∧ w.cell? (a.add i) = some x.val := by
  obtain ⟨V, h1, h2, h3⟩ := h.has
  have hi := (List.getElem?_eq_some_iff.1 hl).1
  have hr : V[i]? = some (V[i]'(by omega)) := List.getElem?_eq_getElem (by omega)
  obtain ⟨a, ha, hh⟩ := h2 i _ hr
  refine ⟨a, _, ha, h3 i _ l hr hl, ?_⟩
  have := hh 0 _ rfl
  rwa [add_two, Nat.add_zero, Nat.mul_one] at this

/-! ### What the call has made, of types that are told apart -/
structure BCs (w : World) (eC : TypeId) (s : Sl) (L : List Cas) : Prop where
  r : RCs w s L
  typ : Typ w eC s.ao
structure BOp (w : World) (eC : TypeId) (r : OpV) (o : Opr) : Prop where
  rd : ROp w r o
  typ : Typ w eC r.cs.ao
structure BOps (w : World) (eC eO : TypeId) (s : Sl) (l : List Opr) : Prop where
  ok : s.Ok l.length
  typ : Typ w eO s.ao
  has : ∃ R : List OpV, R.length = l.length ∧ Has encOV 6 w s.ao R ∧ ∀ (i : Nat) r o, R[i]? = some r → l[i]? = some o → BOp w eC r o
/-- A row of ops that still grows. -/
structure GOps (w : World) (eC eO : TypeId) (base : Nat) (s : Sl) (l : List Opr) : Prop where
  len : s.len = l.length
  has : ∃ R : List OpV, R.length = l.length ∧ w.ownsRow base eO 6 s.val l.length (flat encOV R) ∧ ∀ (i : Nat) r o, R[i]? = some r → l[i]? = some o → BOp w eC r o
/-- A row of lists of ops that still grows. -/
structure GPlan (w : World) (eC eO eL : TypeId) (base : Nat) (s : Sl) (p : List (List Opr)) : Prop where
  len : s.len = p.length
  has : ∃ V : List Sl, V.length = p.length ∧ w.ownsRow base eL 1 s.val p.length (flat encSV V) ∧ ∀ (i : Nat) x l, V[i]? = some x → p[i]? = some l → BOps w eC eO x l
variable {eC eO eL : TypeId} {base : Nat} {S : Nat → Prop}
theorem BCs.apart {s : Sl} {L : List Cas} (h : BCs w eC s L) (t : Turn S w w') (ha : Apart w eC S) : BCs w' eC s L := ⟨⟨h.r.ok, h.r.has.apart h.typ t ha⟩, h.typ.apart t ha⟩
theorem BCs.new {s : Sl} {L : List Cas} (h : BCs w eC s L) (t : Turn (fun _ => False) w w') : BCs w' eC s L := ⟨h.r.new t, h.typ.new t⟩
theorem BOp.apart {r : OpV} {o : Opr} (h : BOp w eC r o) (t : Turn S w w') (ha : Apart w eC S) : BOp w' eC r o :=
  ⟨⟨h.rd.kind, h.rd.ch, h.rd.n, h.rd.v, h.rd.els, ⟨h.rd.cs.ok, h.rd.cs.has.apart h.typ t ha⟩⟩, h.typ.apart t ha⟩
theorem BOp.new {r : OpV} {o : Opr} (h : BOp w eC r o) (t : Turn (fun _ => False) w w') : BOp w' eC r o := ⟨h.rd.new t, h.typ.new t⟩
theorem BOps.apart {s : Sl} {l : List Opr} (h : BOps w eC eO s l) (t : Turn S w w') (hc : Apart w eC S) (ho : Apart w eO S) : BOps w' eC eO s l := by
  obtain ⟨R, h1, h2, h3⟩ := h.has
  exact ⟨h.ok, h.typ.apart t ho, R, h1, h2.apart h.typ t ho, fun i r o hr ho' => (h3 i r o hr ho').apart t hc⟩
theorem BOps.new {s : Sl} {l : List Opr} (h : BOps w eC eO s l) (t : Turn (fun _ => False) w w') : BOps w' eC eO s l := by
  obtain ⟨R, h1, h2, h3⟩ := h.has
  exact ⟨h.ok, h.typ.new t, R, h1, h2.new t, fun i r o hr ho' => (h3 i r o hr ho').new t⟩
theorem BOps.reads {s : Sl} {l : List Opr} (h : BOps w eC eO s l) : ROps w s l := by
  obtain ⟨R, h1, h2, h3⟩ := h.has
  exact ⟨h.ok, R, h1, h2, fun i r o hr ho => (h3 i r o hr ho).rd⟩
theorem own_sl {e : TypeId} {size n : Nat} {s : Sl} {xs : List Value} (h : w.ownsRow base e size s.val n xs) (hs : s.len = n) : s.Ok n ∧ Typ w e s.ao := by
  obtain ⟨ao, c, hv, h1, h2, h3⟩ := own_slice h
  have hv' : Value.slice s.ao s.len s.cap = Value.slice ao n c := hv
  injection hv' with e1 e2 e3
  refine ⟨⟨hs, by rw [hs, e3]; exact h1, by rw [e3]; exact h2, fun h0 => by rw [e3]; exact h3.1 (e1 ▸ h0)⟩, fun ad he => ?_⟩
  refine own_type h ad.block ?_
  unfold Sl.val
  rw [he]
  rfl
theorem GOps.done {s : Sl} {l : List Opr} (h : GOps w eC eO base s l) : BOps w eC eO s l := by
  obtain ⟨R, h1, h2, h3⟩ := h.has
  obtain ⟨ok, ty⟩ := own_sl h2 h.len
  refine ⟨ok, ty, R, h1, ?_, h3⟩
  have hl := h.len
  have h2' : w.ownsRow base eO 6 (.slice s.ao l.length s.cap) l.length (flat encOV R) := by rw [← hl]; rw [← hl] at h2; exact h2
  exact Has.of_own encOV_ok (by decide) h2'
theorem GPlan.reads {s : Sl} {p : List (List Opr)} (h : GPlan w eC eO eL base s p) : RPlan w s p := by
  obtain ⟨V, h1, h2, h3⟩ := h.has
  obtain ⟨ok, ty⟩ := own_sl h2 h.len
  refine ⟨ok, V, h1, ?_, fun i x l hx hl => (h3 i x l hx hl).reads⟩
  have hl := h.len
  have h2' : w.ownsRow base eL 1 (.slice s.ao p.length s.cap) p.length (flat encSV V) := by rw [← hl]; rw [← hl] at h2; exact h2
  exact Has.of_own encSV_ok (by decide) h2'
theorem GOps.new {s : Sl} {l : List Opr} (h : GOps w eC eO base s l) (t : Turn (fun _ => False) w w') : GOps w' eC eO base s l := by
  obtain ⟨R, h1, h2, h3⟩ := h.has
  exact ⟨h.len, R, h1, own_turn h2 t (fun _ _ => id), fun i r o hr ho => (h3 i r o hr ho).new t⟩
theorem GPlan.new {s : Sl} {p : List (List Opr)} (h : GPlan w eC eO eL base s p) (t : Turn (fun _ => False) w w') : GPlan w' eC eO eL base s p := by
  obtain ⟨V, h1, h2, h3⟩ := h.has
  exact ⟨h.len, V, h1, own_turn h2 t (fun _ _ => id), fun i x l hx hl => (h3 i x l hx hl).new t⟩
theorem GOps.apart {s : Sl} {l : List Opr} (h : GOps w eC eO base s l) (t : Turn S w w') (hc : Apart w eC S) (ho : Apart w eO S) : GOps w' eC eO base s l := by
  obtain ⟨R, h1, h2, h3⟩ := h.has
  refine ⟨h.len, R, h1, own_turn h2 t (fun k hk => ?_), fun i r o hr ho' => (h3 i r o hr ho').apart t hc⟩
  obtain ⟨cur, hcur⟩ := own_type h2 k hk
  exact ho.not hcur
theorem GPlan.apart {s : Sl} {p : List (List Opr)} (h : GPlan w eC eO eL base s p) (t : Turn S w w') (hc : Apart w eC S) (ho : Apart w eO S) (hl : Apart w eL S) : GPlan w' eC eO eL base s p := by
  obtain ⟨V, h1, h2, h3⟩ := h.has
  refine ⟨h.len, V, h1, own_turn h2 t (fun k hk => ?_), fun i x l hx hl' => (h3 i x l hx hl').apart t hc ho⟩
  obtain ⟨cur, hcur⟩ := own_type h2 k hk
  exact hl.not hcur
/-- The block of a row of the call's own is apart from what is of another type. -/
theorem apart_own {e e' : TypeId} {size n : Nat} {v : Value} {xs : List Value} (h : w.ownsRow base e size v n xs) (hne : e ≠ e') : Apart w e' (fun i => v.ownBlock = some i) := fun i _ hi => by
  obtain ⟨cur, hcur⟩ := own_type h i hi
  exact ⟨cur, e, hne, hcur⟩
end

end Go.Proofs.Ytenbafkgfdlfpaa
