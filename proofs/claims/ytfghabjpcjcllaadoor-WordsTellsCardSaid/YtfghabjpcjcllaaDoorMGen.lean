/- Texts put together: GBase, GStep, GTill, GMake, GRest, GAny, GFlat, GNest, GSkip, GGrow, GRow, StepC. -/
import Derived.Test.YtfghabjpcjcllaaDoorRows
import Derived.Test.YtfghabjpcjcllaaDoorMPure
import Derived.WalkKit
import Derived.WalkSpells
import Derived.WalkLawsBesides
import Derived.Deep.Draws
import Derived.Laws.AppendOwnNone
import Derived.OwnWalk
import Derived.Laws.CopyOwn
import Derived.Maps.AppendAt
import Derived.Lib.Hide
import Derived.Deep.RegionHeld3
import Derived.Deep.DrawnRows
import Derived.Deep.AppendLies
import Derived.StillTail
/- General facts, over any program: worlds that differ in some blocks alone; slices of integers, of bools and of slices. -/
namespace Go.Proofs.YtfghabjpcjcllaaDoor
open Go.RowKit

theorem getD_mem {α : Type} {l : List α} {j : Nat} {d : α} (h : j < l.length) : l.getD j d ∈ l := by
  simp [List.getD, h]

theorem block_add (a : Addr) (n : Nat) : (a.add n).block = a.block := by unfold Addr.add; split <;> rfl

/-- w' is w but for new blocks, and for the blocks of S. -/
structure Turn (S : Nat → Prop) (w w' : World) : Prop where
  os : w'.os = w.os
  tape : w'.tape = w.tape
  output : w'.output = w.output
  size : w.heap.size ≤ w'.heap.size
  block : ∀ i, i < w.heap.size → ¬ S i → w'.heap[i]? = w.heap[i]?

theorem Turn.refl (S : Nat → Prop) (w : World) : Turn S w w := ⟨rfl, rfl, rfl, Nat.le_refl _, fun _ _ _ => rfl⟩
theorem Turn.trans {S : Nat → Prop} {a b c : World} (h : Turn S a b) (k : Turn S b c) : Turn S a c :=
  ⟨k.os.trans h.os, k.tape.trans h.tape, k.output.trans h.output, Nat.le_trans h.size k.size, fun i hi hs => (k.block i (Nat.lt_of_lt_of_le hi h.size) hs).trans (h.block i hi hs)⟩
theorem Turn.mono {S S' : Nat → Prop} {a b : World} (h : Turn S a b) (hs : ∀ i, i < a.heap.size → S i → S' i) : Turn S' a b :=
  ⟨h.os, h.tape, h.output, h.size, fun i hi hn => h.block i hi (fun e => hn (hs i hi e))⟩
theorem Turn.drewN {S : Nat → Prop} {a b : World} (h : Turn S a b) (n : Nat) : Turn S a (b.drewN n) := ⟨h.os, h.tape, h.output, h.size, h.block⟩
theorem Turn.drew {S : Nat → Prop} {a b : World} (h : Turn S a b) : Turn S a b.drew := ⟨h.os, h.tape, h.output, h.size, h.block⟩
theorem Turn.alloc {S : Nat → Prop} {a b : World} (h : Turn S a b) (o : Obj) : Turn S a (b.alloc o) :=
  h.trans ⟨rfl, rfl, rfl, by simp, fun i hi _ => Below.heap_alloc _ _ _ hi⟩
theorem Turn.setCell {S : Nat → Prop} {a b : World} (h : Turn S a b) {p : Addr} (hp : S p.block ∨ a.heap.size ≤ p.block) (u : Value) : Turn S a (b.setCell p u) := by
  refine ⟨h.os, h.tape, h.output, by simpa [World.setCell] using h.size, fun i hi hs => ?_⟩
  rw [Below.heap_setCell _ _ _ _ ?_]
  · exact h.block i hi hs
  · intro e; subst e; rcases hp with hp | hp
    · exact hs hp
    · omega
theorem Turn.grown {S : Nat → Prop} {a b c : World} {row : Option Nat} (h : Turn S a b) (hg : b.grownBy c row) (hr : ∀ k, row = some k → S k ∨ a.heap.size ≤ k) : Turn S a c := by
  refine ⟨hg.os.trans h.os, hg.tape.trans h.tape, hg.output.trans h.output, Nat.le_trans h.size hg.size, fun i hi hs => ?_⟩
  rw [hg.block i (Nat.lt_of_lt_of_le hi h.size) ?_]
  · exact h.block i hi hs
  · intro e
    rcases hr i e.symm with hp | hp
    · exact hs hp
    · omega
/-- Two stretches: what the second one turns is of S, or new. -/
theorem Turn.and {S S' : Nat → Prop} {a b c : World} (h : Turn S a b) (k : Turn S' b c) (hs : ∀ i, i < a.heap.size → S' i → S i) : Turn S a c :=
  ⟨k.os.trans h.os, k.tape.trans h.tape, k.output.trans h.output, Nat.le_trans h.size k.size, fun i hi hn => (k.block i (Nat.lt_of_lt_of_le hi h.size) (fun e => hn (hs i hi e))).trans (h.block i hi hn)⟩
theorem Turn.below {S : Nat → Prop} {a b : World} {B : Nat} (h : Turn S a b) (hB : B ≤ a.heap.size) (hs : ∀ i, i < B → ¬ S i) : Below B a b :=
  ⟨h.os, h.tape, h.output, h.size, fun i hi => h.block i (by omega) (hs i hi)⟩
theorem Turn.cell {S : Nat → Prop} {a b : World} (h : Turn S a b) {p : Addr} (hp : ¬ S p.block) {v : Value} (hv : a.cell? p = some v) : b.cell? p = some v :=
  (World.cell?_of_block (h.block _ (World.block_lt_of_cell? a p hv) hp)).trans hv
theorem Turn.heap {S : Nat → Prop} {a b : World} (h : Turn S a b) {i : Nat} (hp : ¬ S i) {o : Obj} (hv : a.heap[i]? = some o) : b.heap[i]? = some o :=
  (h.block _ (Array.getElem?_eq_some_iff.1 hv).1 hp).trans hv

theorem heap_setCell_at {w : World} {b o : Nat} {c : Array Value} {t : TypeId} {f : Nat × Nat} (h : w.heap[b]? = some (.cells c t f)) (v : Value) :
    (w.setCell ⟨b, o, none⟩ v).heap[b]? = some (.cells (c.setIfInBounds o v) t f) := by
  simp [World.setCell, Array.getElem?_modify, h]

/-- The slice at ao reads as the numbers L. -/
def Ints (k : IntKind) (w : World) (ao : Option Addr) (L : List Int) : Prop :=
  ∀ j, j < L.length → ∃ a, ao = some a ∧ w.cell? (a.add j) = some (.int k (L.getD j 0))
theorem Ints.turn {k : IntKind} {S : Nat → Prop} {a b : World} {ao : Option Addr} {L : List Int} (h : Ints k a ao L) (t : Turn S a b) (hs : ∀ ad, ao = some ad → ¬ S ad.block) : Ints k b ao L := by
  intro j hj
  obtain ⟨ad, e, hc⟩ := h j hj
  refine ⟨ad, e, t.cell ?_ hc⟩
  rw [block_add]
  exact hs ad e


/-- A slice of integers that came in, as the frame tells it: its elements. -/
theorem row_ints {k : IntKind} {w : World} {a : Option Addr} {len cap : Nat} {zs : List Int}
    (h : (a = none ∧ len = 0 ∧ cap = 0 ∧ zs = []) ∨ ∃ x, a = some x ∧ len ≤ cap ∧ cap ≤ maxLen ∧ zs.length = cap ∧ (∀ i, i < zs.length → w.cell? (x.add i) = some (.int k (zs.getD i 0))) ∧ ∀ n ∈ zs, (Lit.int k n).wf = true) :
    ∃ L : List Int, L.length = len ∧ Ints k w a L ∧ (∀ n ∈ L, (Lit.int k n).wf = true) ∧ L.length ≤ maxLen := by
  rcases h with ⟨rfl, rfl, rfl, rfl⟩ | ⟨x, rfl, hl, hm, hz, hc, hw⟩
  · exact ⟨[], rfl, fun j hj => by simp at hj, by simp, by simp⟩
  · refine ⟨zs.take len, by simp; omega, fun j hj => ⟨x, rfl, ?_⟩, fun n hn => hw n (List.mem_of_mem_take hn), by simp; omega⟩
    have hj' : j < len := by simp at hj; omega
    rw [hc j (by omega)]
    simp [List.getD, hj']

/-- 'append(out, src...)', out the call's own row, src any slice of integers that is read: nil or not. -/
theorem wpList_append_ints {P : Program} {w : World} {ops : Array Oper} {rest : List Oper} {o : Oper} {a : Act} {Q : Exit → Act → World → Prop} (hgd : o.guard = none) (s x : Operand) (t : TypeId)
    (ho : o.op = .call { callee := .builtin .append, args := #[s, x], argTypes := #[t, t] })
    (base : Nat) (e : TypeId) (i : TypeInfo) (z : Value) (bytes : Nat) (ht : P.underlying t = some (.slice e)) (hi : P.info? e = some i) (hz : i.zero = some z) (hsize : i.size = 1) (hby : i.bytes = bytes) (hzs : z.cells.size = 1)
    (v : Value) (n : Nat) (xs : List Value) (hs : a.eval s = v) (hown : w.ownsRow base e 1 v n xs)
    (k : IntKind) (ao : Option Addr) (c : Nat) (L : List Int) (hx : a.eval x = .slice ao L.length c) (hnil : ao = none → c = 0) (hr : Ints k w ao L)
    (h63 : n + L.length ≤ maxLen) (hbytes : (n + L.length) * bytes ≤ 140737488355328) (hbase : base ≤ w.heap.size)
    (h : ∀ v' w', w'.ownsRow base e 1 v' (n + L.length) (xs ++ L.map (Value.int k)) → w.grownBy w' v.ownBlock → wpList P ops Q rest (a.put o.dst v') w') : wpList P ops Q (o :: rest) a w := by
  cases ao with
  | none =>
    have hL : L = [] := by
      cases L with
      | nil => rfl
      | cons y r => obtain ⟨ad, e, _⟩ := hr 0 (by simp); cases e
    subst hL
    have hc := hnil rfl
    subst hc
    exact wpList_append_own_none hgd s x t ho base e i 1 ht hi v n xs hs hown hx (h v w (by simpa using hown) (World.grownBy.refl _ _))
  | some ad =>
    refine wpList_append_own w hgd s x t ho base e i z 1 bytes ht hi hz hsize hby hzs (by decide) v n xs hs hown ad L.length c (L.map (Value.int k)) hx (by simp) ?_ ?_ h63 hbytes hbase (fun v' w' h1 h2 _ => h v' w' h1 h2)
    · intro j u hu
      rw [List.getElem?_map] at hu
      obtain ⟨y, hy, rfl⟩ := Option.map_eq_some_iff.1 hu
      obtain ⟨hj, hy'⟩ := List.getElem?_eq_some_iff.1 hy
      obtain ⟨ad', e', hc⟩ := hr j hj
      cases e'
      rw [hc]
      simp [List.getD, hy]
    · intro u hu
      obtain ⟨y, _, rfl⟩ := List.mem_map.1 hu
      rfl

/-- What such a row is good for: it reads as its numbers, and each of its cells may be written. -/
theorem ints_of_own {w : World} {base : Nat} {e : TypeId} {k : IntKind} {v : Value} {L : List Int} (h : w.ownsRow base e 1 v L.length (L.map (Value.int k))) :
    ∃ ao c, v = .slice ao L.length c ∧ Ints k w ao L ∧ L.length ≤ c ∧ c ≤ maxLen ∧ (0 < L.length → ∃ g, ao = some ⟨g, 0, none⟩ ∧ base ≤ g ∧ ∃ cur, w.heap[g]? = some (.cells cur e (0, 0)) ∧ ∀ j, j < L.length → cur[j]? = some (.int k (L.getD j 0))) := by
  rcases h.2 with ⟨rfl, h0⟩ | ⟨g, cap, cur, rfl, hb, hh, hc, hm, hs, ht⟩
  · have hL : L = [] := List.eq_nil_of_length_eq_zero h0
    subst hL
    exact ⟨none, 0, rfl, fun j hj => by simp at hj, by simp, by simp, fun h => by simp at h⟩
  · have hcur : ∀ j, j < L.length → cur[j]? = some (.int k (L.getD j 0)) := by
      intro j hj
      have := congrArg (fun l : List Value => l[j]?) ht
      simp only [Nat.mul_one, List.getElem?_take, hj, if_true, List.getElem?_map] at this
      rw [Array.getElem?_toList] at this
      rw [this]
      simp [List.getD, hj]
    refine ⟨some ⟨g, 0, none⟩, cap, rfl, fun j hj => ⟨_, rfl, ?_⟩, hc, hm, fun _ => ⟨g, rfl, hb, cur, hh, hcur⟩⟩
    rw [Addr.add_lit]
    simp [World.cell?, hh, hcur j hj]

theorem wf_u16 {x : Int} (h : (Lit.int .u16 x).wf = true) : 0 ≤ x ∧ x ≤ 65535 := by
  simpa [Lit.wf, IntKind.min, IntKind.max, IntKind.signed, IntKind.bits] using h
theorem wf_i64 {x : Int} (h : (Lit.int .i64 x).wf = true) : -9223372036854775808 ≤ x ∧ x ≤ 9223372036854775807 := by
  simpa [Lit.wf, IntKind.min, IntKind.max, IntKind.signed, IntKind.bits] using h

theorem ret_int {k : IntKind} {a b : Int} (h : a = b) : Ending.returned (.int k a) = .returned (.int k b) := by rw [h]
theorem ret_bool {a b : Bool} (h : a = b) : Ending.returned (.bool a) = .returned (.bool b) := by rw [h]
theorem ret_pair {k : IntKind} {a b : Int} {c d : Bool} (h : a = b) (h' : c = d) : Ending.returned (.tuple #[.int k a, .bool c]) = .returned (.tuple #[.int k b, .bool d]) := by rw [h, h']

/-- Block g is just the numbers L, of kind k and type e. -/
def Row (k : IntKind) (e : TypeId) (w : World) (g : Nat) (L : List Int) : Prop := w.heap[g]? = some (.cells (L.map (Value.int k)).toArray e (0, 0))
section
variable {k : IntKind} {e : TypeId} {w w' : World} {g : Nat} {L : List Int}
theorem Row.cell (h : Row k e w g L) {i : Nat} (hi : i < L.length) : w.cell? ⟨g, i, none⟩ = some (.int k (L.getD i 0)) := by
  unfold Row at h
  simp [World.cell?, h, hi]
theorem Row.frozen (h : Row k e w g L) (i : Nat) : w.frozen? ⟨g, i, none⟩ = false := by
  unfold Row at h
  simp [World.frozen?, h]
theorem Row.set (h : Row k e w g L) (i : Nat) (x : Int) : Row k e (w.setCell ⟨g, i, none⟩ (.int k x)) g (L.set i x) := by
  unfold Row at h ⊢
  rw [heap_setCell_at h]
  simp [List.map_set]
theorem Row.far (h : Row k e w g L) {p : Addr} (hp : g ≠ p.block) (v : Value) : Row k e (w.setCell p v) g L := (Below.heap_setCell w p v g hp).trans h
theorem Row.turn {S : Nat → Prop} (h : Row k e w g L) (t : Turn S w w') (hg : ¬ S g) : Row k e w' g L := t.heap hg h
theorem Row.lt (h : Row k e w g L) : g < w.heap.size := (Array.getElem?_eq_some_iff.1 h).1
theorem Row.drewN (h : Row k e w g L) (n : Nat) : Row k e (w.drewN n) g L := h
theorem Row.alloc (h : Row k e w g L) (o : Obj) : Row k e (w.alloc o) g L := (Below.heap_alloc w o g h.lt).trans h
theorem Row.own {base : Nat} (h : Row k e w g L) (hb : base ≤ g) (hm : L.length ≤ maxLen) : w.ownsRow base e 1 (.slice (some ⟨g, 0, none⟩) L.length L.length) L.length (L.map (Value.int k)) :=
  ⟨by simp, .inr ⟨g, L.length, _, rfl, hb, h, Nat.le_refl _, hm, by simp, by rw [Nat.mul_one]; exact List.take_of_length_le (by simp)⟩⟩
theorem Row.ints (h : Row k e w g L) : Ints k w (some ⟨g, 0, none⟩) L := by
  intro j hj
  refine ⟨_, rfl, ?_⟩
  rw [Addr.add_lit]
  simpa using h.cell hj
theorem row_made {base n : Nat} (h : w.ownsRow base e 1 (.slice (some ⟨g, 0, none⟩) n n) n (List.replicate n (.int k 0))) : Row k e w g (List.replicate n 0) := by
  rcases h.2 with ⟨h1, _⟩ | ⟨g', cap, cur, h1, _, hh, _, _, hs, ht⟩
  · cases h1
  · cases h1
    have e : cur = ((List.replicate n (0 : Int)).map (Value.int k)).toArray := by
      apply Array.toList_inj.1
      have hn : n * 1 = cur.toList.length := by simpa using hs.symm
      rw [hn, List.take_length] at ht
      rw [ht]; simp
    unfold Row
    rw [hh, e]
end

/-- A fresh slice of integers: of nobody else's memory, all that was stands as it stood. -/
def Fresh (k : IntKind) (e : TypeId) (w w' : World) (v : Value) (L : List Int) : Prop := w'.ownsRow w.heap.size e 1 v L.length (L.map (Value.int k)) ∧ Turn (fun _ => False) w w'
theorem Fresh.ints {k : IntKind} {e : TypeId} {w w' : World} {v : Value} {L : List Int} (h : Fresh k e w w' v L) : ∃ ao c, v = .slice ao L.length c ∧ Ints k w' ao L ∧ (∀ ad, ao = some ad → w.heap.size ≤ ad.block) ∧ L.length ≤ c ∧ c ≤ maxLen ∧ (ao = none → c = 0) := by
  rcases h.1.2 with ⟨rfl, h0⟩ | ⟨g, cap, cur, rfl, hb, hh, hc, hm, hs, ht⟩
  · have hL : L = [] := List.eq_nil_of_length_eq_zero h0
    subst hL
    exact ⟨none, 0, rfl, fun j hj => by simp at hj, by simp, by simp, by simp, by simp⟩
  · obtain ⟨ao, c, e, hi, h1, h2, _⟩ := ints_of_own h.1
    cases e
    exact ⟨_, _, rfl, hi, fun ad e => by cases e; exact hb, h1, h2, by simp⟩
theorem fresh_empty (k : IntKind) (e : TypeId) (w : World) : Fresh k e w (w.alloc (.cells #[] e)) (.slice (some ⟨w.heap.size, 0, none⟩) 0 0) [] :=
  ⟨World.ownsRow_made w #[] 0 (Nat.le_refl _) (Nat.zero_le _) rfl, (Turn.refl _ _).alloc _⟩

theorem made_ints (k : IntKind) (n : Nat) : (madeCells (Value.int k 0).cells (n * 1)).toList = List.replicate n (.int k 0) := by
  apply List.ext_getElem?
  intro i
  rw [Nat.mul_one]
  by_cases h : i < n
  · simp [madeCells, Value.cells, h, Nat.mod_one]
  · simp [madeCells, Value.cells, h]

/-- 'make([]E, n)', E a kind of integers; t the slice's type, e the element's. -/
theorem wpList_make_ints {P : Program} {k : IntKind} {t e : TypeId} {by_ : Nat} (ht : P.underlying t = some (.slice e)) (hinfo : (P.info? e).map (fun i => (i.zero, i.size, i.bytes)) = some (some (.int k 0), 1, by_)) (hby : by_ ≤ 24)
    {w : World} {ops : Array Oper} {rest : List Oper} {o : Oper} {a : Act} {Q : Exit → Act → World → Prop} (hg : o.guard = none) (l c : Operand) (hop : o.op = Op.makeSlice t l c)
    (n : Nat) (hl : a.eval l = .int .i64 n) (hc : a.eval c = .int .i64 n) (hn : n ≤ 1000000)
    (hK : ∀ w', Hid (Row k e w' w.heap.size (List.replicate n 0)) → Hid (Turn (fun _ => False) w w') → w.heap.size < w'.heap.size → wpList P ops Q rest (a.put o.dst (.slice (some ⟨w.heap.size, 0, none⟩) n n)) w') :
    wpList P ops Q (o :: rest) a w := by
  obtain ⟨i0, hi, hz0, hz1, hz2⟩ := info_parts hinfo
  have hb : i0.bytes * n ≤ 24 * 1000000 := Nat.mul_le_mul (by omega) hn
  refine wpList_make_full w hg l c t hop w.heap.size e i0 (.int k 0) 1 ht hi hz0 hz1 .i64 .i64 n n n hl hc rfl rfl (by omega) (by unfold maxLen; omega) (Nat.le_refl _) ?_
  intro w1 hown hgrow
  rw [made_ints] at hown
  have hr := row_made hown
  exact hK w1 hr ((Turn.refl _ _).grown hgrow (by simp)) hr.lt

/-- copy over a row of just as many. -/
theorem wpList_copy_ints {P : Program} {k : IntKind} {t e : TypeId} (ht : P.underlying t = some (.slice e)) (hsz : (P.info? e).map (·.size) = some 1)
    {w : World} {ops : Array Oper} {rest : List Oper} {o : Oper} {a : Act} {Q : Exit → Act → World → Prop} (hgd : o.guard = none) (d s : Operand)
    (ho : o.op = .call { callee := .builtin .copy, args := #[d, s], argTypes := #[t, t] }) (g : Nat) (ao : Option Addr) (cap dc : Nat) (C L : List Int) (hd : a.eval d = .slice (some ⟨g, 0, none⟩) L.length dc) (hs : a.eval s = .slice ao L.length cap)
    (hrow : Row k e w g C) (hlen : C.length = L.length) (hr : Ints k w ao L) (S : Nat → Prop) (w0 : World) (tn : Turn S w0 w) (hS : S g ∨ w0.heap.size ≤ g)
    (h : ∀ w', Hid (Row k e w' g L) → Hid (Turn (fun i => i = g) w w') → Hid (Turn S w0 w') → wpList P ops Q rest (a.put o.dst (goInt L.length)) w') : wpList P ops Q (o :: rest) a w := by
  by_cases h0 : L.length = 0
  · have hL : L = [] := List.eq_nil_of_length_eq_zero h0
    have hC : C = [] := List.eq_nil_of_length_eq_zero (by omega)
    subst hL
    subst hC
    refine wpList_copy_nothing hgd d s t t ho e ht hsz _ _ 0 _ 0 _ hd hs (by simp) ?_
    exact h w hrow (Turn.refl _ _) tn
  · obtain ⟨ad, e1, _⟩ := hr 0 (by omega)
    subst e1
    refine wpList_copy_own hgd d s t t ho e ht hsz g 0 _ _ ad _ _ hd hs (C.map (Value.int k)).toArray e hrow (L.map (Value.int k)) (by simp) ?_ (by simp [hlen]) (by simp [Value.oneCell']) ?_
    · intro j v hv
      rw [List.getElem?_map] at hv
      obtain ⟨x, hx, rfl⟩ := Option.map_eq_some_iff.1 hv
      obtain ⟨hj, hx'⟩ := List.getElem?_eq_some_iff.1 hx
      obtain ⟨a', e', hc⟩ := hr j hj
      cases e'
      rw [hc]
      simp [List.getD, hx]
    · have e1 : (((C.map (Value.int k)).toArray.toList.take 0) ++ (L.map (Value.int k) ++ (C.map (Value.int k)).toArray.toList.drop (0 + (L.map (Value.int k)).length))) = L.map (Value.int k) := by
        simp [← hlen]
      rw [e1, List.length_map]
      have t2 : Turn (fun i => i = g) w (w.setRow g (L.map (Value.int k)).toArray) := ⟨rfl, rfl, rfl, by simp [World.setRow], fun k hk hn => setRow_other w g k _ hn⟩
      exact h _ (setRow_heap w g _ _ e _ hrow) t2 (tn.and t2 (fun i hi e => by
        subst e
        rcases hS with h | h
        · exact h
        · omega))

/-! Rows of the call's own. -/
theorem own_turn {w w' : World} {base n size : Nat} {e : TypeId} {v : Value} {xs : List Value} {S : Nat → Prop} (h : w.ownsRow base e size v n xs) (t : Turn S w w') (hv : ∀ k, v.ownBlock = some k → ¬ S k) : w'.ownsRow base e size v n xs := by
  refine ⟨h.1, ?_⟩
  rcases h.2 with h1 | ⟨g, cap, cur, rfl, h2, h3, h4⟩
  · exact .inl h1
  · exact .inr ⟨g, cap, cur, rfl, h2, t.heap (hv g rfl) h3, h4⟩
theorem own_type {w : World} {base n size : Nat} {e : TypeId} {v : Value} {xs : List Value} (h : w.ownsRow base e size v n xs) : ∀ k, v.ownBlock = some k → ∃ cur, w.heap[k]? = some (.cells cur e (0, 0)) := by
  intro k hk
  rcases h.2 with ⟨rfl, _⟩ | ⟨g, cap, cur, rfl, h2, h3, h4⟩
  · simp [Value.ownBlock] at hk
  · simp [Value.ownBlock] at hk
    subst hk
    exact ⟨cur, h3⟩
theorem own_less {w : World} {base base' n size : Nat} {e : TypeId} {v : Value} {xs : List Value} (h : w.ownsRow base e size v n xs) (hb : base' ≤ base) : w.ownsRow base' e size v n xs := by
  refine ⟨h.1, ?_⟩
  rcases h.2 with h1 | ⟨g, cap, cur, h1, h2, h3⟩
  · exact .inl h1
  · exact .inr ⟨g, cap, cur, h1, Nat.le_trans hb h2, h3⟩
theorem own_form {w : World} {base n size : Nat} {e : TypeId} {v : Value} {xs : List Value} (h : w.ownsRow base e size v n xs) (hn : 0 < n) : ∃ g c, v = .slice (some ⟨g, 0, none⟩) n c ∧ base ≤ g ∧ n ≤ c ∧ c ≤ maxLen := by
  rcases h.2 with ⟨_, h1⟩ | ⟨g, cap, cur, h1, h2, _, h3, h4, _⟩
  · omega
  · exact ⟨g, cap, h1, h2, h3, h4⟩
theorem own_slice {w : World} {base n size : Nat} {e : TypeId} {v : Value} {xs : List Value} (h : w.ownsRow base e size v n xs) : ∃ ao c, v = .slice ao n c ∧ n ≤ c ∧ c ≤ maxLen ∧ (ao = none → c = 0) ∧ ∀ a, ao = some a → ∃ g, a = ⟨g, 0, none⟩ ∧ base ≤ g ∧ g < w.heap.size := by
  rcases h.2 with ⟨rfl, rfl⟩ | ⟨g, cap, cur, rfl, h2, h3, h4, h5, _⟩
  · exact ⟨none, 0, rfl, Nat.le_refl _, Nat.zero_le _, fun _ => rfl, by simp⟩
  · exact ⟨_, cap, rfl, h4, h5, by simp, fun a e => by cases e; exact ⟨g, rfl, h2, (Array.getElem?_eq_some_iff.1 h3).1⟩⟩
theorem own_cells {k : IntKind} {w : World} {base g n c : Nat} {e : TypeId} {L : List Int} (h : w.ownsRow base e 1 (.slice (some ⟨g, 0, none⟩) n c) n (L.map (Value.int k))) {j : Nat} (hj : j < n) :
    w.cell? ⟨g, j, none⟩ = some (.int k (L.getD j 0)) ∧ w.frozen? ⟨g, j, none⟩ = false := by
  have hl : L.length = n := by have := h.1; simpa using this
  subst hl
  obtain ⟨ao, c', e, hi, _, _, hb⟩ := ints_of_own h
  cases e
  obtain ⟨g', e, hg, cur, hh, hc⟩ := hb (by omega)
  cases e
  exact ⟨by simp [World.cell?, hh, hc j hj], by simp [World.frozen?, hh]⟩
theorem own_reads {k : IntKind} {w : World} {base n d : Nat} {e : TypeId} {bo : Option Addr} {l : List Int} (h : w.ownsRow base e 1 (.slice bo n d) n (l.map (Value.int k))) : l.length = n ∧ Ints k w bo l ∧ n ≤ d ∧ (bo = none → d = 0) := by
  have hl : l.length = n := by have := h.1; simpa using this
  subst hl
  refine ⟨rfl, ?_⟩
  obtain ⟨ao, c, e, hi, h1, _⟩ := ints_of_own h
  cases e
  refine ⟨hi, h1, fun e => ?_⟩
  subst e
  rcases h.2 with ⟨h2, _⟩ | ⟨g, cap, cur, h2, _⟩
  · injection h2
  · injection h2 with h3; cases h3
theorem own_put {k : IntKind} {w : World} {base g n c : Nat} {e : TypeId} {L M : List Int} (h : w.ownsRow base e 1 (.slice (some ⟨g, 0, none⟩) n c) n (L.map (Value.int k))) (j : Nat) (x : Int) (eM : L.set j x = M) :
    (w.setCell ⟨g, j, none⟩ (.int k x)).ownsRow base e 1 (.slice (some ⟨g, 0, none⟩) n c) n (M.map (Value.int k)) := by
  have := (h.stored j (.int k x)).1
  rwa [← List.map_set, eM] at this

/-- 'append(v, y)' onto a row of the call's own; the one-cell block of y is made just ahead. -/
theorem wpList_append_one {P : Program} {k : IntKind} {t e : TypeId} {by_ : Nat} (ht : P.underlying t = some (.slice e)) (hinfo : (P.info? e).map (fun i => (i.zero, i.size, i.bytes)) = some (some (.int k 0), 1, by_)) (hby : by_ ≤ 24)
    {w0 : World} {ops : Array Oper} {rest : List Oper} {o : Oper} {a : Act} {Q : Exit → Act → World → Prop} (hgd : o.guard = none) (s x : Operand)
    (ho : o.op = .call { callee := .builtin .append, args := #[s, x], argTypes := #[t, t] }) (base : Nat) (v : Value) (L : List Int) (n : Nat) (y : Int) (hs : a.eval s = v) (hown : w0.ownsRow base e 1 v L.length (L.map (Value.int k))) (hln : L.length = n)
    (hx : a.eval x = .slice (some ⟨w0.heap.size, 0, none⟩) 1 1) (hl : n ≤ 1000000) (hb : base ≤ w0.heap.size)
    (h : ∀ g c w', base ≤ g → Hid (w'.ownsRow base e 1 (.slice (some ⟨g, 0, none⟩) (n + 1) c) (n + 1) ((L ++ [y]).map (Value.int k))) → Hid (Turn (fun i => v.ownBlock = some i) w0 w') → Hid (v.ownBlock = some g ∨ g = w0.heap.size + 1) → wpList P ops Q rest (a.put o.dst (.slice (some ⟨g, 0, none⟩) (n + 1) c)) w') :
    wpList P ops Q (o :: rest) a (w0.alloc (.cells #[.int k y] e)) := by
  obtain ⟨i0, hi, hz0, hz1, hz2⟩ := info_parts hinfo
  subst hln
  have hbb : (L.length + 1) * by_ ≤ 1000001 * 24 := Nat.mul_le_mul (by omega) hby
  refine wpList_append_own_at _ hgd s x t ho base e i0 (.int k 0) 1 by_ ht hi hz0 hz1 hz2 rfl (by decide) v L.length (L.map (Value.int k)) hs (hown.alloc _) ⟨w0.heap.size, 0, none⟩ 1 1 [.int k y] hx rfl (cell_one_new w0 _ e) (by simp [Value.oneCell']) (by unfold maxLen; omega) (by omega) (by simp; omega) ?_
  intro v' w' h1 h2 _ h5
  have tn : Turn (fun i => v.ownBlock = some i) w0 w' := ((Turn.refl _ w0).alloc _).grown h2 (fun k hk => .inl hk)
  have hm : L.map (Value.int k) ++ [.int k y] = (L ++ [y]).map (Value.int k) := by simp
  rw [hm] at h1
  rcases h1.2 with ⟨_, h0⟩ | ⟨g, cap, cur, rfl, hb', _⟩
  · omega
  · refine h g cap w' hb' h1 tn ?_
    rcases h5 with h5 | h5
    · exact .inl h5.symm
    · right
      simp [Value.ownBlock] at h5
      exact h5

/-! Slices of slices of the call's own: elements of type e and kind k, slices of them of type t. -/
def Items (k : IntKind) (e : TypeId) (w : World) (base : Nat) (xs : List Value) (LL : List (List Int)) : Prop :=
  xs.length = LL.length ∧ ∀ j, j < LL.length → ∃ u, xs[j]? = some u ∧ w.ownsRow base e 1 u (LL.getD j []).length ((LL.getD j []).map (Value.int k))
def Lists (k : IntKind) (e t : TypeId) (w : World) (base : Nat) (v : Value) (LL : List (List Int)) : Prop := ∃ xs, w.ownsRow base t 1 v LL.length xs ∧ Items k e w base xs LL
section
variable {k : IntKind} {e t : TypeId} {w w' : World} {base : Nat} {xs : List Value} {LL : List (List Int)} {S : Nat → Prop} {v : Value}
theorem Items.turn (hne : e ≠ t) (h : Items k e w base xs LL) (tn : Turn S w w') (hs : ∀ i, i < w.heap.size → S i → ∃ cur, w.heap[i]? = some (.cells cur t (0, 0))) : Items k e w' base xs LL := by
  refine ⟨h.1, fun j hj => ?_⟩
  obtain ⟨u, hu, ho⟩ := h.2 j hj
  refine ⟨u, hu, own_turn ho tn (fun k hk hS => ?_)⟩
  obtain ⟨cur, hc⟩ := own_type ho k hk
  obtain ⟨cur', hc'⟩ := hs k (ho.lt k hk).2 hS
  rw [hc] at hc'
  injection hc' with hc'
  injection hc' with _ h3
  exact hne h3
theorem Items.snoc (h : Items k e w base xs LL) {u : Value} {l : List Int} (ho : w.ownsRow base e 1 u l.length (l.map (Value.int k))) : Items k e w base (xs ++ [u]) (LL ++ [l]) := by
  refine ⟨by simp [h.1], fun j hj => ?_⟩
  by_cases hj' : j < LL.length
  · obtain ⟨u', hu, ho'⟩ := h.2 j hj'
    have e : (LL ++ [l]).getD j [] = LL.getD j [] := by simp [List.getD_eq_getElem?_getD, List.getElem?_append_left hj']
    rw [e]
    exact ⟨u', by rw [List.getElem?_append_left (by rw [h.1]; exact hj')]; exact hu, ho'⟩
  · have hj2 : j = LL.length := by simp at hj; omega
    subst hj2
    have e : (LL ++ [l]).getD LL.length [] = l := by simp [List.getD_eq_getElem?_getD]
    rw [e]
    exact ⟨u, by rw [← h.1]; simp, ho⟩
theorem Items.less {base' : Nat} (h : Items k e w base xs LL) (hb : base' ≤ base) : Items k e w base' xs LL := by
  refine ⟨h.1, fun j hj => ?_⟩
  obtain ⟨u, hu, ho⟩ := h.2 j hj
  exact ⟨u, hu, own_less ho hb⟩
theorem Lists.turn (hne : e ≠ t) (h : Lists k e t w base v LL) (tn : Turn S w w') (hv : ∀ k, v.ownBlock = some k → ¬ S k) (hs : ∀ i, i < w.heap.size → S i → ∃ cur, w.heap[i]? = some (.cells cur t (0, 0))) : Lists k e t w' base v LL := by
  obtain ⟨xs, h1, h2⟩ := h
  exact ⟨xs, own_turn h1 tn hv, h2.turn hne tn hs⟩
/-- Nothing that was is turned. -/
theorem Lists.new (h : Lists k e t w base v LL) (tn : Turn (fun _ => False) w w') : Lists k e t w' base v LL := by
  obtain ⟨xs, h1, h2⟩ := h
  refine ⟨xs, own_turn h1 tn (fun _ _ => id), h2.1, fun j hj => ?_⟩
  obtain ⟨u, hu, ho⟩ := h2.2 j hj
  exact ⟨u, hu, own_turn ho tn (fun _ _ => id)⟩
/-- What is turned lies below. -/
theorem Lists.low (h : Lists k e t w base v LL) (tn : Turn S w w') (hs : ∀ i, S i → i < base) : Lists k e t w' base v LL := by
  obtain ⟨xs, h1, h2⟩ := h
  refine ⟨xs, own_turn h1 tn (fun k hk hS => ?_), h2.1, fun j hj => ?_⟩
  · have := (h1.lt k hk).1; have := hs k hS; omega
  · obtain ⟨u, hu, ho⟩ := h2.2 j hj
    exact ⟨u, hu, own_turn ho tn (fun k hk hS => by have := (ho.lt k hk).1; have := hs k hS; omega)⟩
theorem Lists.less {base' : Nat} (h : Lists k e t w base v LL) (hb : base' ≤ base) : Lists k e t w base' v LL := by
  obtain ⟨xs, h1, h2⟩ := h
  exact ⟨xs, own_less h1 hb, h2.less hb⟩
theorem Lists.lt (h : Lists k e t w base v LL) : ∀ k, v.ownBlock = some k → base ≤ k ∧ k < w.heap.size := by
  obtain ⟨xs, h1, _⟩ := h
  exact h1.lt
theorem Lists.type (h : Lists k e t w base v LL) : ∀ k, v.ownBlock = some k → ∃ cur, w.heap[k]? = some (.cells cur t (0, 0)) := by
  obtain ⟨xs, h1, _⟩ := h
  exact own_type h1
theorem Lists.slice (h : Lists k e t w base v LL) : ∃ ao c, v = .slice ao LL.length c ∧ LL.length ≤ c ∧ c ≤ maxLen ∧ (ao = none → c = 0) := by
  obtain ⟨xs, h1, _⟩ := h
  obtain ⟨ao, c, h2, h3, h4, h5, _⟩ := own_slice h1
  exact ⟨ao, c, h2, h3, h4, h5⟩
theorem Lists.form (h : Lists k e t w base v LL) (hl : 0 < LL.length) : ∃ g c, v = .slice (some ⟨g, 0, none⟩) LL.length c := by
  obtain ⟨xs, h1, _⟩ := h
  obtain ⟨g, c, h2, _⟩ := own_form h1 hl
  exact ⟨g, c, h2⟩
theorem Lists.some_ {n c : Nat} {ao : Option Addr} (h : Lists k e t w base (.slice ao n c) LL) (hl : 0 < LL.length) : ∃ g, ao = some ⟨g, 0, none⟩ := by
  obtain ⟨g, c, e⟩ := h.form hl
  cases e
  exact ⟨g, rfl⟩
theorem Lists.at_ {g n c : Nat} (h : Lists k e t w base (.slice (some ⟨g, 0, none⟩) n c) LL) {j : Nat} (hj : j < LL.length) :
    ∃ bo d, w.cell? ⟨g, j, none⟩ = some (.slice bo (LL.getD j []).length d) ∧ w.ownsRow base e 1 (.slice bo (LL.getD j []).length d) (LL.getD j []).length ((LL.getD j []).map (Value.int k)) := by
  obtain ⟨xs, h1, h2⟩ := h
  obtain ⟨u, hu, ho⟩ := h2.2 j hj
  have hc := h1.cells (g := g) rfl j u hu
  rw [Addr.add_lit] at hc
  have hc' : w.cell? ⟨g, j, none⟩ = some u := by simpa using hc
  rcases ho.2 with ⟨rfl, h0⟩ | ⟨g', cap, cur, rfl, _⟩
  · rw [h0] at ho ⊢
    exact ⟨none, 0, hc', ho⟩
  · exact ⟨_, _, hc', ho⟩
theorem Lists.made (w : World) : Lists k e t (w.alloc (.cells #[] t)) w.heap.size (.slice (some ⟨w.heap.size, 0, none⟩) 0 0) [] :=
  ⟨[], World.ownsRow_made w #[] 0 (Nat.le_refl _) (Nat.zero_le _) rfl, rfl, fun j hj => by simp at hj⟩
end
theorem own_block (a : Option Addr) (n c : Nat) : (Value.slice a n c).ownBlock = a.map Addr.block := by cases a <;> rfl

/-- 'append(out, l)', out a slice of slices of the call's own. -/
theorem wpList_append_list {P : Program} {k : IntKind} {e t t2 : TypeId} (hne : e ≠ t) (ht : P.underlying t2 = some (.slice t)) (hinfo : (P.info? t).map (fun i => (i.zero, i.size, i.bytes)) = some (some (.slice none 0 0), 1, 24))
    {w0 : World} {ops : Array Oper} {rest : List Oper} {o : Oper} {a : Act} {Q : Exit → Act → World → Prop} (hgd : o.guard = none) (s x : Operand)
    (ho : o.op = .call { callee := .builtin .append, args := #[s, x], argTypes := #[t2, t2] }) (base : Nat) (v u : Value) (LL : List (List Int)) (l : List Int) (hs : a.eval s = v) (hown : Lists k e t w0 base v LL) (hu : w0.ownsRow base e 1 u l.length (l.map (Value.int k)))
    (hx : a.eval x = .slice (some ⟨w0.heap.size, 0, none⟩) 1 1) (hl : LL.length ≤ 1000000) (hb : base ≤ w0.heap.size)
    (h : ∀ v' w', Hid (Lists k e t w' base v' (LL ++ [l])) → Hid (Turn (fun i => v.ownBlock = some i) w0 w') → Hid (v'.ownBlock = v.ownBlock ∨ v'.ownBlock = some (w0.heap.size + 1)) → wpList P ops Q rest (a.put o.dst v') w') :
    wpList P ops Q (o :: rest) a (w0.alloc (.cells #[u] t)) := by
  obtain ⟨i0, hi, hz0, hz1, hz2⟩ := info_parts hinfo
  obtain ⟨xs, h1, h2⟩ := hown
  have hcell : u.oneCell' = true := by
    rcases hu.2 with ⟨rfl, _⟩ | ⟨g, cap, cur, rfl, _⟩ <;> rfl
  refine wpList_append_own_at _ hgd s x t2 ho base t i0 (.slice none 0 0) 1 24 ht hi hz0 hz1 hz2 rfl (by decide) v LL.length xs hs (h1.alloc _) ⟨w0.heap.size, 0, none⟩ 1 1 [u] hx rfl (cell_one_new w0 u t) (by simpa using hcell) (by unfold maxLen; omega) (by omega) (by simp; omega) ?_
  intro v' w' h3 h4 _ h5
  have t1 : Turn (fun i => v.ownBlock = some i) w0 (w0.alloc (.cells #[u] t)) := (Turn.refl _ w0).alloc _
  have tn : Turn (fun i => v.ownBlock = some i) w0 w' := t1.grown h4 (fun k hk => .inl hk)
  refine h v' w' ⟨xs ++ [u], by simpa using h3, ?_⟩ tn (by simpa [Hid] using h5)
  refine (h2.snoc hu).turn hne tn (fun i _ e => own_type h1 i e)

/-- A slice of integers that is read, each of 64 bits. -/
def Wf (L : List Int) : Prop := ∀ x ∈ L, -9223372036854775808 ≤ x ∧ x ≤ 9223372036854775807
theorem Wf.at_ {L : List Int} (h : Wf L) {i : Nat} (hi : i < L.length) : -9223372036854775808 ≤ L.getD i 0 ∧ L.getD i 0 ≤ 9223372036854775807 := h _ (getD_mem hi)
theorem Ints.take {k : IntKind} {w : World} {ao : Option Addr} {L : List Int} (h : Ints k w ao L) (m : Nat) : Ints k w ao (L.take m) := by
  intro j hj
  have hj' : j < m ∧ j < L.length := by simp at hj; omega
  obtain ⟨a, e, hc⟩ := h j hj'.2
  refine ⟨a, e, ?_⟩
  rw [hc]
  simp [List.getD, hj'.1]

theorem Wf.take {L : List Int} (h : Wf L) (m : Nat) : Wf (L.take m) := fun x hx => h x (List.mem_of_mem_take hx)
/-- The slice at ao reads as the bools L. -/
def Bools (w : World) (ao : Option Addr) (L : List Bool) : Prop :=
  ∀ j, j < L.length → ∃ a, ao = some a ∧ w.cell? (a.add j) = some (.bool (L.getD j false))
theorem Bools.turn {S : Nat → Prop} {a b : World} {ao : Option Addr} {L : List Bool} (h : Bools a ao L) (t : Turn S a b) (hs : ∀ ad, ao = some ad → ¬ S ad.block) : Bools b ao L := by
  intro j hj
  obtain ⟨ad, e, hc⟩ := h j hj
  refine ⟨ad, e, t.cell ?_ hc⟩
  rw [block_add]
  exact hs ad e
theorem row_cap {k : IntKind} {w : World} {a : Option Addr} {len cap : Nat} {zs : List Int}
    (h : (a = none ∧ len = 0 ∧ cap = 0 ∧ zs = []) ∨ ∃ x, a = some x ∧ len ≤ cap ∧ cap ≤ maxLen ∧ zs.length = cap ∧ (∀ i, i < zs.length → w.cell? (x.add i) = some (.int k (zs.getD i 0))) ∧ ∀ n ∈ zs, (Lit.int k n).wf = true) : len ≤ cap := by
  rcases h with ⟨_, rfl, rfl, _⟩ | ⟨_, _, h, _⟩
  · exact Nat.le_refl _
  · exact h
/-- A slice of bools that came in: its elements. -/
theorem row_bools {w : World} {a : Option Addr} {len cap : Nat} {B : Nat → Bool}
    (h : (a = none ∧ len = 0 ∧ cap = 0) ∨ ∃ x, a = some x ∧ len ≤ cap ∧ cap ≤ maxLen ∧ ∀ i, i < cap → w.cell? (x.add i) = some (.bool (B i))) :
    ∃ L : List Bool, L.length = len ∧ Bools w a L ∧ L.length ≤ maxLen := by
  rcases h with ⟨rfl, rfl, rfl⟩ | ⟨x, rfl, hl, hm, hc⟩
  · exact ⟨[], rfl, fun j hj => by simp at hj, by simp⟩
  · refine ⟨(List.range len).map B, by simp, fun j hj => ⟨x, rfl, ?_⟩, by simp; omega⟩
    have hj' : j < len := by simpa using hj
    rw [hc j (by omega)]
    simp [List.getD, hj']

/-! Stage 3's additions. -/
theorem ints_drop {k : IntKind} {w : World} {g : Nat} {O : List Int} (h : Ints k w (some ⟨g, 0, none⟩) O) (j : Nat) : Ints k w (some ⟨g, j, none⟩) (O.drop j) := by
  intro i hi
  have hi' : j + i < O.length := by simp at hi; omega
  obtain ⟨a, e, hc⟩ := h (j + i) hi'
  cases e
  refine ⟨_, rfl, ?_⟩
  rw [Addr.add_lit] at hc ⊢
  rw [Nat.zero_add] at hc
  rw [hc]
  simp [List.getD]
theorem Row.drew {k : IntKind} {e : TypeId} {w : World} {g : Nat} {L : List Int} (h : Row k e w g L) : Row k e w.drew g L := h
/-- A slice of n integers S that is new: what a contract's caller needs of a function that makes a slice. -/
def Reads (k : IntKind) (n : Nat) (S : List Int) (w : World) (e : Ending) (w' : World) : Prop :=
  ∃ bo bc, e = .returned (.slice bo n bc) ∧ S.length = n ∧ Ints k w' bo S ∧ (∀ ad, bo = some ad → w.heap.size ≤ ad.block ∧ ad.block < w'.heap.size) ∧ n ≤ bc ∧ (bo = none → bc = 0) ∧ Turn (fun _ => False) w w'
theorem reads_of {k : IntKind} {t : TypeId} {n : Nat} {S : List Int} {w w' : World} {e : Ending} (hn : S.length = n) (h : ∃ v, e = .returned v ∧ Fresh k t w w' v S) : Reads k n S w e w' := by
  obtain ⟨v, rfl, f⟩ := h
  subst hn
  obtain ⟨bo, bc, rfl, hi, hb, hc, _, h0⟩ := f.ints
  refine ⟨bo, bc, rfl, rfl, hi, fun ad e => ⟨hb ad e, ?_⟩, hc, h0, f.2⟩
  subst e
  exact (f.1.lt ad.block (by rw [own_block]; rfl)).2
theorem row_nil {k : IntKind} {w : World} {a : Option Addr} {len cap : Nat} {zs : List Int}
    (h : (a = none ∧ len = 0 ∧ cap = 0 ∧ zs = []) ∨ ∃ x, a = some x ∧ len ≤ cap ∧ cap ≤ maxLen ∧ zs.length = cap ∧ (∀ i, i < zs.length → w.cell? (x.add i) = some (.int k (zs.getD i 0))) ∧ ∀ n ∈ zs, (Lit.int k n).wf = true) : a = none → cap = 0 := by
  intro e
  rcases h with ⟨_, _, h, _⟩ | ⟨_, h, _⟩
  · exact h
  · rw [e] at h; cases h

end Go.Proofs.YtfghabjpcjcllaaDoor
/- Appends at a step of a region that draws its order: slices of integers. General, over any program. -/
namespace Go.Proofs.YtfghabjpcjcllaaDoor
open Go.RowKit

theorem new2 (w : World) (o o' : Obj) : ((w.alloc o).alloc o').heap[w.heap.size]? = some o := (Below.heap_alloc (w.alloc o) o' w.heap.size (by simp)).trans (heap_alloc_new w o)
theorem new2' (w : World) (o o' : Obj) : ((w.alloc o).alloc o').heap[w.heap.size + 1]? = some o' := by
  have := heap_alloc_new (w.alloc o) o'
  simpa using this
theorem size1 (w : World) (o : Obj) : w.heap.size ≤ (w.alloc o).heap.size := by simp
theorem size2 (w : World) (o o' : Obj) : w.heap.size ≤ ((w.alloc o).alloc o').heap.size := Nat.le_trans (size1 w o) (size1 _ o')
theorem own_empty {w : World} {base g : Nat} {e : TypeId} (h : w.heap[g]? = some (.cells #[] e (0, 0))) (hb : base ≤ g) : w.ownsRow base e 1 (.slice (some ⟨g, 0, none⟩) 0 0) 0 [] :=
  ⟨rfl, .inr ⟨g, 0, #[], rfl, hb, h, Nat.le_refl _, Nat.zero_le _, rfl, by simp⟩⟩

/-- 'append(v, src...)', src not nil; the row v the call's own. -/
theorem wp_append_ints {P : Program} {k : IntKind} {t e : TypeId} {by_ : Nat} (ht : P.underlying t = some (.slice e)) (hinfo : (P.info? e).map (fun i => (i.zero, i.size, i.bytes)) = some (some (.int k 0), 1, by_)) (hby : by_ ≤ 24)
    {w : World} {o : Oper} {a : Act} {K : Act → World → Prop} {Q : Exit → Act → World → Prop} (s x : Operand)
    (ho : o.op = .call { callee := .builtin .append, args := #[s, x], argTypes := #[t, t] }) (base : Nat) (v : Value) (L : List Int) (n : Nat) (hs : a.eval s = v) (hown : w.ownsRow base e 1 v n (L.map (Value.int k))) (ad : Addr) (M : List Int) (m c : Nat) (hm : M.length = m)
    (hx : a.eval x = .slice (some ad) m c) (hr : Ints k w (some ad) M) (hl : n + m ≤ 1000000) (hb : base ≤ w.heap.size)
    (h : ∀ v' w', Hid (w'.ownsRow base e 1 v' (n + m) ((L ++ M).map (Value.int k))) → Hid (Turn (fun i => v.ownBlock = some i) w w') → Hid (v'.ownBlock = v.ownBlock ∨ v'.ownBlock = some w.heap.size) → K (a.put o.dst v') w') : o.wp P a w K Q := by
  obtain ⟨i0, hi, hz0, hz1, hz2⟩ := info_parts hinfo
  have hbb : (n + m) * by_ ≤ 1000000 * 24 := Nat.mul_le_mul hl hby
  subst hm
  have hnews : ∀ (j : Nat) (u : Value), (M.map (Value.int k))[j]? = some u → w.cell? (ad.add j) = some u := by
    intro j u hu
    rw [List.getElem?_map] at hu
    obtain ⟨y, hy, rfl⟩ := Option.map_eq_some_iff.1 hu
    obtain ⟨hj, hy'⟩ := List.getElem?_eq_some_iff.1 hy
    obtain ⟨ad', e', hc⟩ := hr j hj
    cases e'
    rw [hc]
    simp [List.getD, hy]
  obtain ⟨v', w', hrun, h1, h2, _, h3⟩ := run_append_own_at (P := P) w base t o.type e i0 (.int k 0) 1 by_ ht hi hz0 hz1 hz2 rfl (by decide) v n (L.map (Value.int k)) hown ad M.length c (M.map (Value.int k)) (by simp) hnews
    (by intro u hu; obtain ⟨y, _, rfl⟩ := List.mem_map.1 hu; rfl) (by unfold maxLen; omega) (by omega) hb
  unfold Oper.wp execOp
  simp only [ho, resolve, invoke, builtin, Sem.run_bind, Sem.run_pure, Result.andThen_ok, List.map_toArray, List.map_cons, List.map_nil, hs, hx, hrun]
  rw [← List.map_append] at h1
  exact h v' w' h1 ((Turn.refl _ w).grown h2 (fun i hi => .inl hi)) h3

theorem step_append_ints {P : Program} {k : IntKind} {t e : TypeId} {by_ : Nat} (ht : P.underlying t = some (.slice e)) (hinfo : (P.info? e).map (fun i => (i.zero, i.size, i.bytes)) = some (some (.int k 0), 1, by_)) (hby : by_ ≤ 24)
    {w : World} {ops : Array Oper} {o : Oper} {a : Act} {K : Act → World → Prop} {Q : Exit → Act → World → Prop} {E : Prop} (hgd : o.guard = none) (s x : Operand)
    (ho : o.op = .call { callee := .builtin .append, args := #[s, x], argTypes := #[t, t] }) (base : Nat) (v : Value) (L : List Int) (n : Nat) (hs : a.eval s = v) (hown : w.ownsRow base e 1 v n (L.map (Value.int k))) (ad : Addr) (M : List Int) (m c : Nat) (hm : M.length = m)
    (hx : a.eval x = .slice (some ad) m c) (hr : Ints k w (some ad) M) (hl : n + m ≤ 1000000) (hb : base ≤ w.heap.size)
    (h : ∀ v' w', Hid (w'.ownsRow base e 1 v' (n + m) ((L ++ M).map (Value.int k))) → Hid (Turn (fun i => v.ownBlock = some i) w w') → Hid (v'.ownBlock = v.ownBlock ∨ v'.ownBlock = some w.heap.size) → K (a.put o.dst v') w') :
    if Region.wanted o (yielded ops a.tmps) = true then Oper.wp P o a w K Q else E := by
  have hw : Region.wanted o (yielded ops a.tmps) = true := by simp [Region.wanted, hgd]
  rw [if_pos hw]
  exact wp_append_ints ht hinfo hby s x ho base v L n hs hown ad M m c hm hx hr hl hb h

/-- 'append(v, y)'; the one-cell block of y is b. -/
theorem step_append_one {P : Program} {k : IntKind} {t e : TypeId} {by_ : Nat} (ht : P.underlying t = some (.slice e)) (hinfo : (P.info? e).map (fun i => (i.zero, i.size, i.bytes)) = some (some (.int k 0), 1, by_)) (hby : by_ ≤ 24)
    {w : World} {ops : Array Oper} {o : Oper} {a : Act} {K : Act → World → Prop} {Q : Exit → Act → World → Prop} {E : Prop} (hgd : o.guard = none) (s x : Operand)
    (ho : o.op = .call { callee := .builtin .append, args := #[s, x], argTypes := #[t, t] }) (base : Nat) (v : Value) (L : List Int) (n : Nat) (hs : a.eval s = v) (hown : w.ownsRow base e 1 v n (L.map (Value.int k))) (b : Nat) (y : Int)
    (hx : a.eval x = .slice (some ⟨b, 0, none⟩) 1 1) (hr : w.heap[b]? = some (.cells #[.int k y] e (0, 0))) (hl : n + 1 ≤ 1000000) (hb : base ≤ w.heap.size)
    (h : ∀ g c w', base ≤ g → Hid (w'.ownsRow base e 1 (.slice (some ⟨g, 0, none⟩) (n + 1) c) (n + 1) ((L ++ [y]).map (Value.int k))) → Hid (Turn (fun i => v.ownBlock = some i) w w') → Hid (v.ownBlock = some g ∨ g = w.heap.size) → K (a.put o.dst (.slice (some ⟨g, 0, none⟩) (n + 1) c)) w') :
    if Region.wanted o (yielded ops a.tmps) = true then Oper.wp P o a w K Q else E := by
  refine step_append_ints ht hinfo hby hgd s x ho base v L n hs hown ⟨b, 0, none⟩ [y] 1 1 rfl hx ?_ hl hb ?_
  · intro j hj
    have hj0 : j = 0 := by simpa using hj
    subst hj0
    refine ⟨_, rfl, ?_⟩
    rw [Addr.add_lit]
    simp [World.cell?, hr]
  · intro v' w' h1 h2 h3
    have h1' := h1.out
    rcases h1'.2 with ⟨_, h0⟩ | ⟨g, cap, cur, rfl, hb', _⟩
    · omega
    · refine h g cap w' hb' h1 h2 ?_
      rcases h3.out with h4 | h4
      · exact Or.inl h4.symm
      · right; simp [Value.ownBlock] at h4; exact h4

/-- 'append(v, src...)', src any slice of integers that is read, nil or not; where the new row lies is told. -/
theorem wpList_append_ints_at {P : Program} {k : IntKind} {t e : TypeId} {by_ : Nat} (ht : P.underlying t = some (.slice e)) (hinfo : (P.info? e).map (fun i => (i.zero, i.size, i.bytes)) = some (some (.int k 0), 1, by_)) (hby : by_ ≤ 24)
    {w : World} {ops : Array Oper} {rest : List Oper} {o : Oper} {a : Act} {Q : Exit → Act → World → Prop} (hgd : o.guard = none) (s x : Operand)
    (ho : o.op = .call { callee := .builtin .append, args := #[s, x], argTypes := #[t, t] }) (base : Nat) (v : Value) (L : List Int) (n : Nat) (hs : a.eval s = v) (hown : w.ownsRow base e 1 v n (L.map (Value.int k))) (ao : Option Addr) (M : List Int) (m c : Nat) (hm : M.length = m)
    (hx : a.eval x = .slice ao m c) (hnil : ao = none → c = 0) (hr : Ints k w ao M) (hl : n + m ≤ 1000000) (hb : base ≤ w.heap.size)
    (h : ∀ v' w', Hid (w'.ownsRow base e 1 v' (n + m) ((L ++ M).map (Value.int k))) → Hid (Turn (fun i => v.ownBlock = some i) w w') → Hid (v'.ownBlock = v.ownBlock ∨ v'.ownBlock = some w.heap.size) → wpList P ops Q rest (a.put o.dst v') w') : wpList P ops Q (o :: rest) a w := by
  cases ao with
  | none =>
    have hM : M = [] := by
      cases M with
      | nil => rfl
      | cons y r => obtain ⟨ad, e, _⟩ := hr 0 (by simp); cases e
    subst hM
    subst hm
    have hc := hnil rfl
    subst hc
    obtain ⟨i0, hi, hz0, hz1, hz2⟩ := info_parts hinfo
    exact wpList_append_own_none hgd s x t ho base e i0 1 ht hi v n (L.map (Value.int k)) hs hown hx (h v w (by simpa [Hid] using hown) (Turn.refl _ _) (Or.inl rfl))
  | some ad =>
    exact wpList_plain hgd fun K hK => wp_append_ints ht hinfo hby s x ho base v L n hs hown ad M m c hm hx hr hl hb fun v' w' h1 h2 h3 => hK _ _ (h v' w' h1 h2 h3)

/-- 'wpList_append_one' with the new length under a name of its own. -/
theorem wpList_append_one_n {P : Program} {k : IntKind} {t e : TypeId} {by_ : Nat} (ht : P.underlying t = some (.slice e)) (hinfo : (P.info? e).map (fun i => (i.zero, i.size, i.bytes)) = some (some (.int k 0), 1, by_)) (hby : by_ ≤ 24)
    {w0 : World} {ops : Array Oper} {rest : List Oper} {o : Oper} {a : Act} {Q : Exit → Act → World → Prop} (hgd : o.guard = none) (s x : Operand)
    (ho : o.op = .call { callee := .builtin .append, args := #[s, x], argTypes := #[t, t] }) (base : Nat) (v : Value) (L : List Int) (n : Nat) (y : Int) (hs : a.eval s = v) (hown : w0.ownsRow base e 1 v n (L.map (Value.int k))) (n' : Nat) (hn' : n + 1 = n')
    (hx : a.eval x = .slice (some ⟨w0.heap.size, 0, none⟩) 1 1) (hl : n ≤ 1000000) (hb : base ≤ w0.heap.size)
    (h : ∀ g c w', base ≤ g → Hid (w'.ownsRow base e 1 (.slice (some ⟨g, 0, none⟩) n' c) n' ((L ++ [y]).map (Value.int k))) → Hid (Turn (fun i => v.ownBlock = some i) w0 w') → Hid (v.ownBlock = some g ∨ w0.heap.size ≤ g) → wpList P ops Q rest (a.put o.dst (.slice (some ⟨g, 0, none⟩) n' c)) w') :
    wpList P ops Q (o :: rest) a (w0.alloc (.cells #[.int k y] e)) := by
  subst hn'
  have hl' : L.length = n := by have := hown.1; simpa using this
  refine wpList_append_one ht hinfo hby hgd s x ho base v L n y hs (by rw [hl']; exact hown) hl' hx hl hb ?_
  intro g c w' h1 h2 h3 h4
  exact h g c w' h1 h2 h3 (h4.out.imp id (fun e => by omega))

end Go.Proofs.YtfghabjpcjcllaaDoor
/- A region that draws its order, of which some operations are walked first: a load too, if its cell holds until an operation comes up that waits for it. What is told of a world holds till such an operation (its mark) has come up. General, over any program. -/
namespace Go.Proofs.YtfghabjpcjcllaaDoor
open Go.RowKit

section
variable {P : Program} {ops : Array Oper} {Q : Exit → Act → World → Prop} {md : Region.Mode} {m1 m2 : Nat} {A1 A2 : World → Prop}

/-- A1 till number m1 has come up, A2 till number m2 has. -/
def Till (m1 : Nat) (A1 : World → Prop) (m2 : Nat) (A2 : World → Prop) (l : Array Bool) (w : World) : Prop := (l.getD m1 false = false → A1 w) ∧ (l.getD m2 false = false → A2 w)
/-- Whatever has come up, so has all that it waits for. -/
def Ripe (md : Region.Mode) (ops : Array Oper) (l : Array Bool) : Prop := l.size = ops.size ∧ ∀ j oj, ops[j]? = some oj → l.getD j false = true → ∀ e ∈ oj.after, Region.binds md e = true → l.getD e.on false = true
/-- m comes up behind i alone. -/
def behind (md : Region.Mode) (ops : Array Oper) : Nat → Nat → Nat → Bool
  | 0, m, i => m == i
  | fuel + 1, m, i => m == i || match ops[m]? with | none => false | some o => o.after.any fun e => Region.binds md e && behind md ops fuel e.on i
theorem behind_spec {l : Array Bool} (h : Ripe md ops l) (i : Nat) : ∀ (fuel m : Nat), behind md ops fuel m i = true → l.getD m false = true → l.getD i false = true := by
  intro fuel
  induction fuel with
  | zero =>
    intro m hb hm
    have e : m = i := by simpa [behind] using hb
    exact e ▸ hm
  | succ fuel ih =>
    intro m hb hm
    unfold behind at hb
    rcases Bool.or_eq_true_iff.1 hb with e | e
    · have e : m = i := by simpa using e
      exact e ▸ hm
    · cases ho : ops[m]? with
      | none => rw [ho] at e; cases e
      | some o =>
        rw [ho] at e
        obtain ⟨x, hx, hxb⟩ := Array.any_eq_true'.1 e
        obtain ⟨h1, h2⟩ := Bool.and_eq_true_iff.1 hxb
        exact ih x.on h2 (h.2 m o ho hm x hx h1)
theorem Ripe.set {l : Array Bool} (h : Ripe md ops l) {i : Nat} (hi : i ∈ Region.ready md ops l) : Ripe md ops (l.setIfInBounds i true) := by
  obtain ⟨_, oi, hoi, hall⟩ := mem_ready.1 hi
  refine ⟨by simp [h.1], fun j oj hj hl e he hb => ?_⟩
  by_cases hij : i = j
  · subst hij
    obtain rfl : oj = oi := Option.some.inj (hj.symm.trans hoi)
    exact getD_set_true (hall e he hb)
  · rw [getD_set_ne false hij] at hl
    exact getD_set_true (h.2 j oj hj hl e he hb)
theorem Till.set {l : Array Bool} {w : World} (h : Till m1 A1 m2 A2 l w) {i : Nat} (h1 : i ≠ m1) (h2 : i ≠ m2) : Till m1 A1 m2 A2 (l.setIfInBounds i true) w := by
  unfold Till at h ⊢
  rw [getD_set_ne false h1, getD_set_ne false h2]
  exact h
theorem Till.unset {l : Array Bool} {w : World} {i j : Nat} (h : Till m1 A1 m2 A2 ((l.setIfInBounds i true).setIfInBounds j true) w) (hij : j ≠ i) (h1 : i ≠ m1) (h2 : i ≠ m2) : Till m1 A1 m2 A2 (l.setIfInBounds j true) w := by
  rw [Array.setIfInBounds_comm _ _ (Ne.symm hij)] at h
  unfold Till at h ⊢
  rw [getD_set_ne false h1, getD_set_ne false h2] at h
  exact h

/-- Whichever order comes from here on; behind each operation what is told holds till its mark. -/
def wpTill (P : Program) (md : Region.Mode) (ops : Array Oper) (Q : Exit → Act → World → Prop) (m1 : Nat) (A1 : World → Prop) (m2 : Nat) (A2 : World → Prop) : Nat → Array Bool → Act → World → Prop
  | 0, l, a, w => Region.ready md ops l = [] ∧ Q .normal a w
  | n + 1, l, a, w => (Region.ready md ops l = [] → Q .normal a w) ∧ ∀ i ∈ Region.ready md ops l, wpOp P ops Q i (fun a' w' => Till m1 A1 m2 A2 (l.setIfInBounds i true) w' ∧ wpTill P md ops Q m1 A1 m2 A2 n (l.setIfInBounds i true) a' w') a w
theorem wpAny_of_till : ∀ (n : Nat) (l : Array Bool) (a : Act) (w : World), wpTill P md ops Q m1 A1 m2 A2 n l a w → wpAny P md ops Q n l a w
  | 0, _, _, _, h => h
  | n + 1, _, _, _, h => ⟨h.1, fun i hi => wpOp_mono (fun a' w' k => wpAny_of_till n _ a' w' k.2) (h.2 i hi)⟩

/-- Number i, which only reads what B tells, may be walked first, if B holds wherever i may yet come up. -/
theorem till_first {i : Nat} {oi : Oper} {v : Value} {B : World → Prop} (hi : ops[i]? = some oi) (hsel : Region.noSelect ops = true) (hQ : ∀ c a w, Q (.panic c) (a.put oi.dst v) w → Q (.panic c) a w) (h1 : i ≠ m1) (h2 : i ≠ m2)
    (hB : ∀ l w, Ripe md ops l → l.getD i false = false → Till m1 A1 m2 A2 l w → B w) :
    ∀ (n : Nat) (l : Array Bool) (a : Act) (w : World), Ripe md ops l → Till m1 A1 m2 A2 l w →
      (∀ j oj, ops[j]? = some oj → j ≠ i → l.getD j true = false → (∀ e ∈ oj.after, Region.binds md e = true → e.on ≠ i) → oi.apart ops oj = true) →
      i ∈ Region.ready md ops l → YieldsIf P ops B oi v a → wpTill P md ops Q m1 A1 m2 A2 n (l.setIfInBounds i true) (a.put oi.dst v) w → wpTill P md ops Q m1 A1 m2 A2 (n + 1) l a w := by
  have sel := Region.noSelect_spec hsel
  intro n
  induction n with
  | zero =>
    intro l a w hr ht hfree hrd hy H
    refine ⟨fun e => (by rw [e] at hrd; cases hrd), fun j hj => ?_⟩
    by_cases hji : j = i
    · subst hji
      exact hy.wpOp hi (hB l w hr (getD_both (mem_ready.1 hrd).1) ht) ⟨ht.set h1 h2, H⟩
    · have h3 := ready_mono hj hji
      rw [H.1] at h3
      cases h3
  | succ n ih =>
    intro l a w hr ht hfree hrd hy H
    have hun := getD_both (mem_ready.1 hrd).1
    have hBw := hB l w hr hun ht
    refine ⟨fun e => (by rw [e] at hrd; cases hrd), fun j hj => ?_⟩
    by_cases hji : j = i
    · subst hji
      exact hy.wpOp hi hBw ⟨ht.set h1 h2, H⟩
    · obtain ⟨hjun, oj, hoj, hall⟩ := mem_ready.1 hj
      have hnot : ∀ e ∈ oj.after, Region.binds md e = true → e.on ≠ i := fun e he hb heq => by
        have h5 := hall e he hb
        rw [heq, hun] at h5
        cases h5
      have h4 := wpOp_putIf hoj (hfree j oj hoj hji hjun hnot) (fun cs b => sel i oi cs b hi) (fun cs b => sel j oj cs b hoj) hQ hy (H.2 j (ready_mono hj hji))
      have hfree' : ∀ k ok, ops[k]? = some ok → k ≠ i → (l.setIfInBounds j true).getD k true = false → (∀ e ∈ ok.after, Region.binds md e = true → e.on ≠ i) → oi.apart ops ok = true := fun k ok hk hki hu hno => by
        by_cases hjk : j = k
        · subst hjk; exact hfree j ok hk hki hjun hno
        · rw [getD_set_ne true hjk] at hu
          exact hfree k ok hk hki hu hno
      refine wpOp_mono (fun a' w' k => ⟨k.2.1.unset hji h1 h2, ih _ a' w' (hr.set hj) (k.2.1.unset hji h1 h2) hfree' (ready_mono hrd (Ne.symm hji)) k.1 ?_⟩) h4
      rw [Array.setIfInBounds_comm _ _ hji]
      exact k.2.2

/-- Where the walk stands: all that has come up, and the state. -/
def Stand (P : Program) (md : Region.Mode) (ops : Array Oper) (Q : Exit → Act → World → Prop) (m1 : Nat) (A1 : World → Prop) (m2 : Nat) (A2 : World → Prop) (n : Nat) (l : Array Bool) (a : Act) (w : World) : Prop :=
  Ripe md ops l → Till m1 A1 m2 A2 l w → wpTill P md ops Q m1 A1 m2 A2 n l a w

theorem nth_of {i : Nat} {oi : Oper} {r : List Oper} (h : ops.toList.drop i = oi :: r) : ops[i]? = some oi := by
  have h1 : (ops.toList.drop i)[0]? = some oi := by rw [h]; rfl
  rw [List.getElem?_drop] at h1
  simpa using h1
theorem stand_start {id : Nat} {a : Act} {w : World} (hm : P.follows .mixedOrders = true) (m1 : Nat) (A1 : World → Prop) (m2 : Nat) (A2 : World → Prop) (h1 : A1 w.drew) (h2 : A2 w.drew)
    (h : Stand P .any ops Q m1 A1 m2 A2 ops.size (Array.replicate ops.size false) a w.drew) : (Code.region id ops true).wp P Q a w :=
  wp_region_any hm (wpAny_of_till _ _ _ _ (h ⟨by simp, fun j oj _ hl => by rw [getD_replicate_false] at hl; cases hl⟩ ⟨fun _ => h1, fun _ => h2⟩))
theorem put_laid (L : List Value) (ds) (d : Nat) (v : Value) : Act.put ⟨L.toArray, ds⟩ (some d) v = ⟨(L.set d v).toArray, ds⟩ := by simp [Act.put]
/-- An operation that yields in whatever world. -/
theorem stand_take {i : Nat} {oi : Oper} {rs : List Oper} {v : Value} {n d : Nat} {l : Array Bool} {L : List Value} {ds} {w : World} (hi' : ops.toList.drop i = oi :: rs) (hs : Region.noSelect ops = true) (hf : Region.free md ops l i = true) (hr : (Region.ready md ops l).contains i = true)
    (hd : oi.dst = some d) (hQ : ∀ c a w, Q (.panic c) (a.put (some d) v) w → Q (.panic c) a w) (h1 : i ≠ m1) (h2 : i ≠ m2) (hw : Region.wanted oi (yielded ops L.toArray) = true) (hy : ∀ w, (execOp (Act.eval ⟨L.toArray, ds⟩) oi).run P w = .ok (.value v) w)
    (h : Stand P md ops Q m1 A1 m2 A2 n (l.setIfInBounds i true) ⟨(L.set d v).toArray, ds⟩ w) : Stand P md ops Q m1 A1 m2 A2 (n + 1) l ⟨L.toArray, ds⟩ w := fun k t => by
  have hi := nth_of hi'
  rw [← put_laid, ← hd] at h
  rw [← hd] at hQ
  have hr' : i ∈ Region.ready md ops l := by simpa using hr
  exact till_first (B := fun _ => True) hi hs hQ h1 h2 (fun _ _ _ _ _ => trivial) n l _ w k t (Region.free_spec hi hf) hr' (Or.inl ⟨hw, fun w _ => hy w⟩) (h (k.set hr') (t.set h1 h2))
/-- A load of what A1 tells. -/
theorem stand_load1 {i : Nat} {oi : Oper} {rs : List Oper} {v : Value} {n d : Nat} {l : Array Bool} {L : List Value} {ds} {w : World} (hi' : ops.toList.drop i = oi :: rs) (hs : Region.noSelect ops = true) (hf : Region.free md ops l i = true) (hr : (Region.ready md ops l).contains i = true)
    (hd : oi.dst = some d) (hQ : ∀ c a w, Q (.panic c) (a.put (some d) v) w → Q (.panic c) a w) (h1 : i ≠ m1) (h2 : i ≠ m2) (hb : behind md ops ops.size m1 i = true) (hw : Region.wanted oi (yielded ops L.toArray) = true) (hy : ∀ w, A1 w → (execOp (Act.eval ⟨L.toArray, ds⟩) oi).run P w = .ok (.value v) w)
    (h : Stand P md ops Q m1 A1 m2 A2 n (l.setIfInBounds i true) ⟨(L.set d v).toArray, ds⟩ w) : Stand P md ops Q m1 A1 m2 A2 (n + 1) l ⟨L.toArray, ds⟩ w := fun k t => by
  have hi := nth_of hi'
  rw [← put_laid, ← hd] at h
  rw [← hd] at hQ
  have hr' : i ∈ Region.ready md ops l := by simpa using hr
  refine till_first (B := A1) hi hs hQ h1 h2 (fun l w r hl t => t.1 ?_) n l _ w k t (Region.free_spec hi hf) hr' (Or.inl ⟨hw, hy⟩) (h (k.set hr') (t.set h1 h2))
  cases hm : l.getD m1 false with
  | false => rfl
  | true => rw [behind_spec r i _ _ hb hm] at hl; cases hl
/-- A load of what A2 tells. -/
theorem stand_load2 {i : Nat} {oi : Oper} {rs : List Oper} {v : Value} {n d : Nat} {l : Array Bool} {L : List Value} {ds} {w : World} (hi' : ops.toList.drop i = oi :: rs) (hs : Region.noSelect ops = true) (hf : Region.free md ops l i = true) (hr : (Region.ready md ops l).contains i = true)
    (hd : oi.dst = some d) (hQ : ∀ c a w, Q (.panic c) (a.put (some d) v) w → Q (.panic c) a w) (h1 : i ≠ m1) (h2 : i ≠ m2) (hb : behind md ops ops.size m2 i = true) (hw : Region.wanted oi (yielded ops L.toArray) = true) (hy : ∀ w, A2 w → (execOp (Act.eval ⟨L.toArray, ds⟩) oi).run P w = .ok (.value v) w)
    (h : Stand P md ops Q m1 A1 m2 A2 n (l.setIfInBounds i true) ⟨(L.set d v).toArray, ds⟩ w) : Stand P md ops Q m1 A1 m2 A2 (n + 1) l ⟨L.toArray, ds⟩ w := fun k t => by
  have hi := nth_of hi'
  rw [← put_laid, ← hd] at h
  rw [← hd] at hQ
  have hr' : i ∈ Region.ready md ops l := by simpa using hr
  refine till_first (B := A2) hi hs hQ h1 h2 (fun l w r hl t => t.2 ?_) n l _ w k t (Region.free_spec hi hf) hr' (Or.inl ⟨hw, hy⟩) (h (k.set hr') (t.set h1 h2))
  cases hm : l.getD m2 false with
  | false => rfl
  | true => rw [behind_spec r i _ _ hb hm] at hl; cases hl
/-- A fact that no tactic looks into. -/
def Shut' (p : Prop) : Prop := p
theorem Shut'.out {p : Prop} (h : Shut' p) : p := h
/-- One operation alone may come up: it is carried out, and what is told is shown anew till its mark. -/
theorem stand_step {i : Nat} {o : Oper} {rs : List Oper} {n : Nat} {l : Array Bool} {a : Act} {w : World} (hr : Region.ready md ops l = [i]) (ho : ops.toList.drop i = o :: rs)
    (h : ∀ K : Act → World → Prop, Shut' (∀ a w, ((l.setIfInBounds i true).getD m1 false = false → A1 w) → ((l.setIfInBounds i true).getD m2 false = false → A2 w) → Stand P md ops Q m1 A1 m2 A2 n (l.setIfInBounds i true) a w → K a w) →
      if Region.wanted o (yielded ops a.tmps) = true then Oper.wp P o a w K Q else K (a.put o.dst undef) w) : Stand P md ops Q m1 A1 m2 A2 (n + 1) l a w := fun k t => by
  refine ⟨fun e => (by rw [hr] at e; cases e), fun j hj => ?_⟩
  have hj0 := hj
  rw [hr] at hj
  have e : j = i := by simpa using hj
  subst e
  exact wpOp_step (nth_of ho) fun K' hK => h K' fun a w x y hS => hK a w ⟨⟨x, y⟩, hS (k.set hj0) ⟨x, y⟩⟩
/-- One of two operations may come up. -/
theorem stand_two {i j : Nat} {o o' : Oper} {rs rs' : List Oper} {n : Nat} {l : Array Bool} {a : Act} {w : World} (hr : Region.ready md ops l = [i, j]) (ho : ops.toList.drop i = o :: rs) (ho' : ops.toList.drop j = o' :: rs')
    (h : ∀ K : Act → World → Prop, Shut' (∀ a w, ((l.setIfInBounds i true).getD m1 false = false → A1 w) → ((l.setIfInBounds i true).getD m2 false = false → A2 w) → Stand P md ops Q m1 A1 m2 A2 n (l.setIfInBounds i true) a w → K a w) →
      if Region.wanted o (yielded ops a.tmps) = true then Oper.wp P o a w K Q else K (a.put o.dst undef) w)
    (h' : ∀ K : Act → World → Prop, Shut' (∀ a w, ((l.setIfInBounds j true).getD m1 false = false → A1 w) → ((l.setIfInBounds j true).getD m2 false = false → A2 w) → Stand P md ops Q m1 A1 m2 A2 n (l.setIfInBounds j true) a w → K a w) →
      if Region.wanted o' (yielded ops a.tmps) = true then Oper.wp P o' a w K Q else K (a.put o'.dst undef) w) : Stand P md ops Q m1 A1 m2 A2 (n + 1) l a w := fun k t => by
  refine ⟨fun e => (by rw [hr] at e; cases e), fun x hx => ?_⟩
  have hx0 := hx
  rw [hr] at hx
  have e : x = i ∨ x = j := by simpa using hx
  rcases e with e | e
  · subst e
    exact wpOp_step (nth_of ho) fun K' hK => h K' fun a w x y hS => hK a w ⟨⟨x, y⟩, hS (k.set hx0) ⟨x, y⟩⟩
  · subst e
    exact wpOp_step (nth_of ho') fun K' hK => h' K' fun a w x y hS => hK a w ⟨⟨x, y⟩, hS (k.set hx0) ⟨x, y⟩⟩
theorem stand_done {n : Nat} {l : Array Bool} {a : Act} {w : World} (hr : Region.ready md ops l = []) (h : Q .normal a w) : Stand P md ops Q m1 A1 m2 A2 n l a w := fun _ _ => by
  cases n with
  | zero => exact ⟨hr, h⟩
  | succ n => exact ⟨fun _ => h, by rw [hr]; simp⟩
theorem past {b : Bool} {p : Prop} (e : b = true) : b = false → p := fun h => by rw [e] at h; cases h
end

end Go.Proofs.YtfghabjpcjcllaaDoor
/- 'make' of zero values of one cell each, in a plain list of operations and at a step of a region that draws. General, over any program. -/
namespace Go.Proofs.YtfghabjpcjcllaaDoor
open Go.RowKit

/-- Block g is n times z, of type e. -/
def Zeros (w : World) (g n : Nat) (z : Value) (e : TypeId) : Prop := w.heap[g]? = some (.cells (List.replicate n z).toArray e (0, 0))
theorem made_zeros {z : Value} (hz : z.cells = #[z]) (n : Nat) : (madeCells z.cells (n * 1)).toList = List.replicate n z := by
  apply List.ext_getElem?
  intro i
  rw [Nat.mul_one, hz]
  by_cases h : i < n
  · simp [madeCells, h, Nat.mod_one]
  · simp [madeCells, h]
theorem zeros_made {w : World} {g base n : Nat} {z : Value} {e : TypeId} (h : w.ownsRow base e 1 (.slice (some ⟨g, 0, none⟩) n n) n (List.replicate n z)) : Zeros w g n z e := by
  rcases h.2 with ⟨h1, _⟩ | ⟨g', cap, cur, h1, _, hh, _, _, hs, ht⟩
  · cases h1
  · cases h1
    have e : cur = (List.replicate n z).toArray := by
      apply Array.toList_inj.1
      have hn : n * 1 = cur.toList.length := by simpa using hs.symm
      rw [hn, List.take_length] at ht
      rw [ht]
    unfold Zeros
    rw [hh, e]
theorem wp_make_zeros {P : Program} {z : Value} {t e : TypeId} {by_ : Nat} (hz : z.cells = #[z]) (ht : P.underlying t = some (.slice e)) (hinfo : (P.info? e).map (fun i => (i.zero, i.size, i.bytes)) = some (some z, 1, by_)) (hby : by_ ≤ 24)
    {w : World} {o : Oper} {a : Act} {K : Act → World → Prop} {Q : Exit → Act → World → Prop} (l c : Operand) (hop : o.op = Op.makeSlice t l c) (n : Nat) (hl : a.eval l = .int .i64 n) (hc : a.eval c = .int .i64 n) (hn : n ≤ 1000000)
    (hK : ∀ w', Hid (Zeros w' w.heap.size n z e) → Hid (Turn (fun _ => False) w w') → K (a.put o.dst (.slice (some ⟨w.heap.size, 0, none⟩) n n)) w') : o.wp P a w K Q := by
  obtain ⟨i0, hi, hz0, hz1, hz2⟩ := info_parts hinfo
  have hb : i0.bytes * n ≤ 24 * 1000000 := Nat.mul_le_mul (by omega) hn
  obtain ⟨w', hrun, r1, r2⟩ := run_make_full (P := P) w w.heap.size t e i0 z 1 ht hi hz0 hz1 .i64 .i64 n (by omega) (by unfold maxLen; omega) (Nat.le_refl _)
  rw [made_zeros hz] at r1
  unfold Oper.wp
  simp [execOp, hop, hl, hc, hrun, Result.andThen]
  exact hK w' (zeros_made r1) ((Turn.refl _ _).grown r2 (by simp))
theorem wpList_make_zeros {P : Program} {z : Value} {t e : TypeId} {by_ : Nat} (hz : z.cells = #[z]) (ht : P.underlying t = some (.slice e)) (hinfo : (P.info? e).map (fun i => (i.zero, i.size, i.bytes)) = some (some z, 1, by_)) (hby : by_ ≤ 24)
    {w : World} {ops : Array Oper} {rest : List Oper} {o : Oper} {a : Act} {Q : Exit → Act → World → Prop} (hg : o.guard = none) (l c : Operand) (hop : o.op = Op.makeSlice t l c) (n : Nat) (hl : a.eval l = .int .i64 n) (hc : a.eval c = .int .i64 n) (hn : n ≤ 1000000)
    (hK : ∀ w', Hid (Zeros w' w.heap.size n z e) → Hid (Turn (fun _ => False) w w') → wpList P ops Q rest (a.put o.dst (.slice (some ⟨w.heap.size, 0, none⟩) n n)) w') : wpList P ops Q (o :: rest) a w :=
  wpList_plain hg fun _ hK' => wp_make_zeros hz ht hinfo hby l c hop n hl hc hn fun w' h1 h2 => hK' _ _ (hK w' h1 h2)
theorem step_make_zeros {P : Program} {z : Value} {t e : TypeId} {by_ : Nat} (hz : z.cells = #[z]) (ht : P.underlying t = some (.slice e)) (hinfo : (P.info? e).map (fun i => (i.zero, i.size, i.bytes)) = some (some z, 1, by_)) (hby : by_ ≤ 24)
    {w : World} {ops : Array Oper} {o : Oper} {a : Act} {K : Act → World → Prop} {Q : Exit → Act → World → Prop} {E : Prop} (hgd : o.guard = none) (l c : Operand) (hop : o.op = Op.makeSlice t l c) (n : Nat) (hl : a.eval l = .int .i64 n) (hc : a.eval c = .int .i64 n) (hn : n ≤ 1000000)
    (hK : ∀ w', Hid (Zeros w' w.heap.size n z e) → Hid (Turn (fun _ => False) w w') → K (a.put o.dst (.slice (some ⟨w.heap.size, 0, none⟩) n n)) w') :
    if Region.wanted o (yielded ops a.tmps) = true then Oper.wp P o a w K Q else E := by
  have hw : Region.wanted o (yielded ops a.tmps) = true := by simp [Region.wanted, hgd]
  rw [if_pos hw]
  exact wp_make_zeros hz ht hinfo hby l c hop n hl hc hn hK
theorem Zeros.turn {w w' : World} {S : Nat → Prop} {g n : Nat} {z : Value} {e : TypeId} (h : Zeros w g n z e) (t : Turn S w w') (hg : ¬ S g) : Zeros w' g n z e := t.heap hg h
theorem Zeros.lt {w : World} {g n : Nat} {z : Value} {e : TypeId} (h : Zeros w g n z e) : g < w.heap.size := (Array.getElem?_eq_some_iff.1 h).1
theorem Zeros.at_ {n i : Nat} {z : Value} (hi : i < n) : (List.replicate n z).toArray[i]? = some z := by simp [hi]

end Go.Proofs.YtfghabjpcjcllaaDoor
/- A load whose cell holds throughout a region that draws; an append of whatever one-cell values. General, over any program. -/
namespace Go.Proofs.YtfghabjpcjcllaaDoor
open Go.RowKit

section
variable {P : Program} {ops : Array Oper} {Q : Exit → Act → World → Prop} {md : Region.Mode} {m1 m2 : Nat} {A1 A2 : World → Prop}
/-- A load of what A1 tells, where A1 holds throughout (its mark is no operation's number). -/
theorem stand_load3 {i : Nat} {oi : Oper} {rs : List Oper} {v : Value} {n d : Nat} {l : Array Bool} {L : List Value} {ds} {w : World} (hi' : ops.toList.drop i = oi :: rs) (hs : Region.noSelect ops = true) (hf : Region.free md ops l i = true) (hr : (Region.ready md ops l).contains i = true)
    (hd : oi.dst = some d) (hQ : ∀ c a w, Q (.panic c) (a.put (some d) v) w → Q (.panic c) a w) (h1 : i ≠ m1) (h2 : i ≠ m2) (hb : decide (ops.size ≤ m1) = true) (hw : Region.wanted oi (yielded ops L.toArray) = true) (hy : ∀ w, A1 w → (execOp (Act.eval ⟨L.toArray, ds⟩) oi).run P w = .ok (.value v) w)
    (h : Stand P md ops Q m1 A1 m2 A2 n (l.setIfInBounds i true) ⟨(L.set d v).toArray, ds⟩ w) : Stand P md ops Q m1 A1 m2 A2 (n + 1) l ⟨L.toArray, ds⟩ w := fun k t => by
  have hi := nth_of hi'
  rw [← put_laid, ← hd] at h
  rw [← hd] at hQ
  have hr' : i ∈ Region.ready md ops l := by simpa using hr
  refine till_first (B := A1) hi hs hQ h1 h2 (fun l w r _ t => t.1 ?_) n l _ w k t (Region.free_spec hi hf) hr' (Or.inl ⟨hw, hy⟩) (h (k.set hr') (t.set h1 h2))
  have h3 := of_decide_eq_true hb
  have h4 := r.1
  simp [Array.getElem?_eq_none (show l.size ≤ m1 by omega)]
end

/-- 'append(v, src...)' of values of one cell each, src nil or not, onto a row of the call's own. -/
theorem wpList_append_vals {P : Program} {z : Value} {t e : TypeId} {by_ : Nat} (ht : P.underlying t = some (.slice e)) (hinfo : (P.info? e).map (fun i => (i.zero, i.size, i.bytes)) = some (some z, 1, by_)) (hzs : z.cells.size = 1) (hby : by_ ≤ 24)
    {w : World} {ops : Array Oper} {rest : List Oper} {o : Oper} {a : Act} {Q : Exit → Act → World → Prop} (hgd : o.guard = none) (s x : Operand)
    (ho : o.op = .call { callee := .builtin .append, args := #[s, x], argTypes := #[t, t] }) (base : Nat) (v : Value) (xs : List Value) (n : Nat) (hs : a.eval s = v) (hown : w.ownsRow base e 1 v n xs) (ao : Option Addr) (V : List Value) (m c : Nat) (hm : V.length = m)
    (hx : a.eval x = .slice ao m c) (hnil : ao = none → c = 0 ∧ m = 0) (hr : ∀ ad, ao = some ad → ∀ j u, V[j]? = some u → w.cell? (ad.add j) = some u) (hone : ∀ u ∈ V, u.oneCell' = true) (hl : n + m ≤ 1000000) (hb : base ≤ w.heap.size)
    (h : ∀ v' w', Hid (w'.ownsRow base e 1 v' (n + m) (xs ++ V)) → Hid (Turn (fun i => v.ownBlock = some i) w w') → Hid (v'.ownBlock = v.ownBlock ∨ v'.ownBlock = some w.heap.size) → wpList P ops Q rest (a.put o.dst v') w') : wpList P ops Q (o :: rest) a w := by
  obtain ⟨i0, hi, hz0, hz1, hz2⟩ := info_parts hinfo
  have hbb : (n + m) * by_ ≤ 1000000 * 24 := Nat.mul_le_mul hl hby
  cases ao with
  | none =>
    obtain ⟨hc, hm0⟩ := hnil rfl
    subst hc
    subst hm0
    have hV : V = [] := List.eq_nil_of_length_eq_zero hm
    subst hV
    exact wpList_append_own_none hgd s x t ho base e i0 1 ht hi v n xs hs hown hx (h v w (by simpa [Hid] using hown) (Turn.refl _ _) (Or.inl rfl))
  | some ad =>
    subst hm
    refine wpList_append_own_at w hgd s x t ho base e i0 z 1 by_ ht hi hz0 hz1 hz2 hzs (by decide) v n xs hs hown ad V.length c V hx (by simp) (fun j u hu => hr ad rfl j u hu) hone (by unfold maxLen; omega) (by omega) hb ?_
    intro v' w' h1 h2 _ h3
    exact h v' w' h1 ((Turn.refl _ w).grown h2 (fun i hi => .inl hi)) h3

end Go.Proofs.YtfghabjpcjcllaaDoor
/- An append of integers at a step of a region that draws: the source nil or not. General, over any program. -/
namespace Go.Proofs.YtfghabjpcjcllaaDoor
open Go.RowKit

theorem step_append_any {P : Program} {k : IntKind} {t e : TypeId} {by_ : Nat} (ht : P.underlying t = some (.slice e)) (hinfo : (P.info? e).map (fun i => (i.zero, i.size, i.bytes)) = some (some (.int k 0), 1, by_)) (hby : by_ ≤ 24)
    {w : World} {ops : Array Oper} {o : Oper} {a : Act} {K : Act → World → Prop} {Q : Exit → Act → World → Prop} {E : Prop} (hgd : o.guard = none) (s x : Operand)
    (ho : o.op = .call { callee := .builtin .append, args := #[s, x], argTypes := #[t, t] }) (base : Nat) (v : Value) (L : List Int) (n : Nat) (hs : a.eval s = v) (hown : w.ownsRow base e 1 v n (L.map (Value.int k))) (ao : Option Addr) (M : List Int) (m c : Nat) (hm : M.length = m)
    (hx : a.eval x = .slice ao m c) (hnil : ao = none → c = 0) (hr : Ints k w ao M) (hl : n + m ≤ 1000000) (hb : base ≤ w.heap.size)
    (h : ∀ v' w', Hid (w'.ownsRow base e 1 v' (n + m) ((L ++ M).map (Value.int k))) → Hid (Turn (fun i => v.ownBlock = some i) w w') → Hid (v'.ownBlock = v.ownBlock ∨ v'.ownBlock = some w.heap.size) → K (a.put o.dst v') w') :
    if Region.wanted o (yielded ops a.tmps) = true then Oper.wp P o a w K Q else E := by
  cases ao with
  | none =>
    have hw : Region.wanted o (yielded ops a.tmps) = true := by simp [Region.wanted, hgd]
    rw [if_pos hw]
    have hM : M = [] := by
      cases M with
      | nil => rfl
      | cons y r => obtain ⟨ad, e, _⟩ := hr 0 (by simp); cases e
    subst hM
    subst hm
    have hc := hnil rfl
    subst hc
    obtain ⟨i0, hi, hz0, hz1, hz2⟩ := info_parts hinfo
    have hrun := run_append_owned_none (P := P) (w := w) base t o.type e i0 1 ht hi v n (L.map (Value.int k)) hown
    have hx' : a.eval x = .slice none 0 0 := hx
    have key := h v w (by simpa [Hid] using hown) (Turn.refl _ _) (Or.inl rfl)
    unfold Oper.wp
    simp [execOp, ho, resolve, invoke, builtin, hs, hx', hrun, Result.andThen]
    exact key
  | some ad => exact step_append_ints ht hinfo hby hgd s x ho base v L n hs hown ad M m c hm hx hr hl hb h

end Go.Proofs.YtfghabjpcjcllaaDoor
/- Rows of things that take some cells each (structs), of the call's own or read: cells, stores, appends. General, over any program and any coding. -/
namespace Go.Proofs.YtfghabjpcjcllaaDoor
open Go.RowKit

section
variable {α : Type} {enc : α → List Value} {size : Nat}
/-- Each thing takes so many cells, and each cell holds one value. -/
structure Enc (enc : α → List Value) (size : Nat) : Prop where
  len : ∀ x, (enc x).length = size
  one : ∀ x, ∀ u ∈ enc x, u.oneCell' = true
def flat (enc : α → List Value) (L : List α) : List Value := L.flatMap enc
theorem flat_nil : flat enc [] = [] := rfl
theorem flat_cons (x : α) (L : List α) : flat enc (x :: L) = enc x ++ flat enc L := by simp [flat]
theorem flat_append (L M : List α) : flat enc (L ++ M) = flat enc L ++ flat enc M := by simp [flat]
theorem flat_one (x : α) : flat enc [x] = enc x := by simp [flat]
theorem flat_length (he : Enc enc size) (L : List α) : (flat enc L).length = L.length * size := by
  induction L with
  | nil => simp [flat]
  | cons x L ih => rw [flat_cons, List.length_append, he.len, ih, List.length_cons, Nat.succ_mul, Nat.add_comm]
theorem flat_get (he : Enc enc size) {L : List α} {j i : Nat} {x : α} (hx : L[j]? = some x) (hi : i < size) : (flat enc L)[j * size + i]? = (enc x)[i]? := by
  induction L generalizing j with
  | nil => simp at hx
  | cons y L ih =>
    rw [flat_cons]
    cases j with
    | zero =>
      obtain rfl : y = x := by simpa using hx
      rw [Nat.zero_mul, Nat.zero_add, List.getElem?_append_left (by rw [he.len]; exact hi)]
    | succ j =>
      have hx' : L[j]? = some x := by simpa using hx
      have e : (j + 1) * size + i = size + (j * size + i) := by rw [Nat.succ_mul]; omega
      rw [List.getElem?_append_right (by rw [he.len, e]; omega), he.len, e, Nat.add_sub_cancel_left]
      exact ih hx'
theorem flat_set (he : Enc enc size) {L : List α} {j i : Nat} {x y : α} {u : Value} (hx : L[j]? = some x) (hi : i < size) (hy : enc y = (enc x).set i u) : (flat enc L).set (j * size + i) u = flat enc (L.set j y) := by
  induction L generalizing j with
  | nil => simp at hx
  | cons z L ih =>
    cases j with
    | zero =>
      obtain rfl : z = x := by simpa using hx
      rw [flat_cons, List.set_cons_zero, flat_cons, Nat.zero_mul, Nat.zero_add, List.set_append_left _ _ (by rw [he.len]; exact hi), hy]
    | succ j =>
      have hx' : L[j]? = some x := by simpa using hx
      have e : (j + 1) * size + i = size + (j * size + i) := by rw [Nat.succ_mul]; omega
      rw [flat_cons, List.set_cons_succ, flat_cons, List.set_append_right _ _ (by rw [he.len, e]; omega), he.len, e, Nat.add_sub_cancel_left, ih hx']
theorem flat_one' (he : Enc enc size) {L : List α} {u : Value} (hu : u ∈ flat enc L) : u.oneCell' = true := by
  obtain ⟨x, _, hx⟩ := List.mem_flatMap.1 hu
  exact he.one x u hx

/-- A row of the call's own: a cell of it. -/
theorem own_at {w : World} {base g n c : Nat} {e : TypeId} {L : List α} (he : Enc enc size) (h : w.ownsRow base e size (.slice (some ⟨g, 0, none⟩) n c) n (flat enc L)) {j : Nat} {x : α} (hx : L[j]? = some x) {i : Nat} {u : Value} (hu : (enc x)[i]? = some u) :
    w.cell? ⟨g, j * size + i, none⟩ = some u ∧ w.frozen? ⟨g, j * size + i, none⟩ = false := by
  have hi : i < size := by have := (List.getElem?_eq_some_iff.1 hu).1; rwa [he.len] at this
  have h1 := h.cells (g := g) rfl (j * size + i) u (by rw [flat_get he hx hi]; exact hu)
  rw [Addr.add_lit, Nat.zero_add] at h1
  refine ⟨h1, ?_⟩
  rcases h.2 with ⟨h2, _⟩ | ⟨g', cap, cur, h2, _, hh, _⟩
  · cases h2
  · cases h2
    simp [World.frozen?, hh]
/-- One cell of it is written. -/
theorem own_set {w : World} {base g n c : Nat} {e : TypeId} {L M : List α} (he : Enc enc size) (h : w.ownsRow base e size (.slice (some ⟨g, 0, none⟩) n c) n (flat enc L)) {j : Nat} {x y : α} (hx : L[j]? = some x) {i : Nat} (hi : i < size) {u : Value} (hy : enc y = (enc x).set i u) (hM : L.set j y = M) :
    (w.setCell ⟨g, j * size + i, none⟩ u).ownsRow base e size (.slice (some ⟨g, 0, none⟩) n c) n (flat enc M) := by
  have := (h.stored (j * size + i) u).1
  rwa [flat_set he hx hi hy, hM] at this
theorem own_len {w : World} {base n : Nat} {e : TypeId} {v : Value} {L : List α} (he : Enc enc size) (hs : 0 < size) (h : w.ownsRow base e size v n (flat enc L)) : L.length = n := by
  have := h.1
  rw [flat_length he] at this
  exact Nat.eq_of_mul_eq_mul_right hs this
theorem own_n {w : World} {base n m : Nat} {e : TypeId} {bo : Option Addr} {c : Nat} {xs : List Value} (h : w.ownsRow base e size (.slice bo n c) m xs) : w.ownsRow base e size (.slice bo n c) n xs := by
  rcases h.2 with ⟨h1, h2⟩ | ⟨g, cap, cur, h1, _⟩
  · cases h1
    exact ⟨by rw [h.1, h2], .inl ⟨rfl, rfl⟩⟩
  · cases h1
    exact h
theorem own_made {w : World} {base g : Nat} {e : TypeId} (h : w.heap[g]? = some (.cells #[] e (0, 0))) (hb : base ≤ g) : w.ownsRow base e size (.slice (some ⟨g, 0, none⟩) 0 0) 0 (flat enc []) :=
  ⟨by simp [flat], .inr ⟨g, 0, #[], rfl, hb, h, Nat.le_refl _, Nat.zero_le _, by simp, by simp [flat]⟩⟩

/-- The slice at ao reads as the things L. -/
def Has (enc : α → List Value) (size : Nat) (w : World) (ao : Option Addr) (L : List α) : Prop :=
  ∀ j x, L[j]? = some x → ∃ a, ao = some a ∧ ∀ i u, (enc x)[i]? = some u → w.cell? ((a.add (j * size)).add i) = some u
theorem add_two (a : Addr) (n m : Nat) : (a.add n).add m = a.add (n + m) := by
  unfold Addr.add
  split <;> split <;> simp_all [Nat.add_assoc]
theorem Has.turn {w w' : World} {S : Nat → Prop} {ao : Option Addr} {L : List α} (h : Has enc size w ao L) (t : Turn S w w') (hs : ∀ ad, ao = some ad → ¬ S ad.block) : Has enc size w' ao L := by
  intro j x hx
  obtain ⟨ad, e, hc⟩ := h j x hx
  exact ⟨ad, e, fun i u hu => t.cell (by rw [block_add, block_add]; exact hs ad e) (hc i u hu)⟩
theorem Has.of_own {w : World} {base n c : Nat} {e : TypeId} {bo : Option Addr} {L : List α} (he : Enc enc size) (hs : 0 < size) (h : w.ownsRow base e size (.slice bo n c) n (flat enc L)) : Has enc size w bo L := by
  intro j x hx
  have hj := (List.getElem?_eq_some_iff.1 hx).1
  have hn := own_len he hs h
  obtain ⟨g, c', e', _⟩ := own_form h (by omega)
  cases e'
  refine ⟨_, rfl, fun i u hu => ?_⟩
  rw [Addr.add_lit, Addr.add_lit, Nat.zero_add]
  exact (own_at he h hx hu).1

/-- 'append(v, src...)' of such things onto a row of the call's own; src not nil. -/
theorem wpList_append_flat {P : Program} {z : Value} {t e : TypeId} {by_ : Nat} (he : Enc enc size) (hsz : 0 < size) (ht : P.underlying t = some (.slice e)) (hinfo : (P.info? e).map (fun i => (i.zero, i.size, i.bytes)) = some (some z, size, by_)) (hzs : z.cells.size = size) (hby : by_ ≤ 100)
    {w : World} {ops : Array Oper} {rest : List Oper} {o : Oper} {a : Act} {Q : Exit → Act → World → Prop} (hgd : o.guard = none) (s x : Operand)
    (ho : o.op = .call { callee := .builtin .append, args := #[s, x], argTypes := #[t, t] }) (base : Nat) (v : Value) (L : List α) (n : Nat) (hs : a.eval s = v) (hown : w.ownsRow base e size v n (flat enc L)) (ad : Addr) (M : List α) (m c : Nat) (hm : M.length = m)
    (hx : a.eval x = .slice (some ad) m c) (hr : Has enc size w (some ad) M) (n' : Nat) (hn' : n + m = n') (hl : n' ≤ 1000000) (hb : base ≤ w.heap.size)
    (h : ∀ v' w', Hid (w'.ownsRow base e size v' n' (flat enc (L ++ M))) → Hid (Turn (fun i => v.ownBlock = some i) w w') → Hid (v'.ownBlock = v.ownBlock ∨ v'.ownBlock = some w.heap.size) → wpList P ops Q rest (a.put o.dst v') w') : wpList P ops Q (o :: rest) a w := by
  obtain ⟨i0, hi, hz0, hz1, hz2⟩ := info_parts hinfo
  subst hm
  subst hn'
  have hbb : (n + M.length) * by_ ≤ 1000000 * 100 := Nat.mul_le_mul hl hby
  have hnews : ∀ (j : Nat) (u : Value), (flat enc M)[j]? = some u → w.cell? (ad.add j) = some u := by
    intro j u hu
    have hj := (List.getElem?_eq_some_iff.1 hu).1
    rw [flat_length he] at hj
    have hq : j / size < M.length := (Nat.div_lt_iff_lt_mul hsz).2 hj
    have hr0 : j % size < size := Nat.mod_lt _ hsz
    have ej : j / size * size + j % size = j := by have := Nat.div_add_mod j size; rw [Nat.mul_comm] at this; exact this
    obtain ⟨y, hy⟩ : ∃ y, M[j / size]? = some y := ⟨_, List.getElem?_eq_getElem hq⟩
    obtain ⟨ad', e', hc⟩ := hr _ y hy
    cases e'
    have hg := flat_get he hy hr0
    rw [ej, hu] at hg
    have := hc _ u hg.symm
    rwa [add_two, ej] at this
  refine wpList_append_own_at w hgd s x t ho base e i0 z size by_ ht hi hz0 hz1 hz2 hzs hsz v n (flat enc L) hs hown ad M.length c (flat enc M) hx (flat_length he M) hnews (fun u hu => flat_one' he hu) (by unfold maxLen; omega) (by omega) hb ?_
  intro v' w' h1 h2 _ h3
  rw [← flat_append] at h1
  exact h v' w' h1 ((Turn.refl _ w).grown h2 (fun i hi => .inl hi)) h3

/-- 'append(v, y)'; the block of y is made just ahead. -/
theorem wpList_append_flat_one {P : Program} {z : Value} {t e : TypeId} {by_ : Nat} (he : Enc enc size) (hsz : 0 < size) (ht : P.underlying t = some (.slice e)) (hinfo : (P.info? e).map (fun i => (i.zero, i.size, i.bytes)) = some (some z, size, by_)) (hzs : z.cells.size = size) (hby : by_ ≤ 100)
    {w0 : World} {ops : Array Oper} {rest : List Oper} {o : Oper} {a : Act} {Q : Exit → Act → World → Prop} (hgd : o.guard = none) (s x : Operand)
    (ho : o.op = .call { callee := .builtin .append, args := #[s, x], argTypes := #[t, t] }) (base : Nat) (v : Value) (L : List α) (n : Nat) (y : α) {Y : Array Value} (hY : Y = (enc y).toArray) (hs : a.eval s = v) (hown : w0.ownsRow base e size v n (flat enc L))
    (hx : a.eval x = .slice (some ⟨w0.heap.size, 0, none⟩) 1 1) (n' : Nat) (hn' : n + 1 = n') (hl : n' ≤ 1000000) (hb : base ≤ w0.heap.size)
    (h : ∀ g c w', base ≤ g → Hid (w'.ownsRow base e size (.slice (some ⟨g, 0, none⟩) n' c) n' (flat enc (L ++ [y]))) → Hid (Turn (fun i => v.ownBlock = some i) w0 w') → Hid (v.ownBlock = some g ∨ w0.heap.size ≤ g) → wpList P ops Q rest (a.put o.dst (.slice (some ⟨g, 0, none⟩) n' c)) w') :
    wpList P ops Q (o :: rest) a (w0.alloc (.cells Y e)) := by
  subst hY
  have t0 : Turn (fun i => v.ownBlock = some i) w0 (w0.alloc (.cells (enc y).toArray e)) := (Turn.refl _ w0).alloc _
  refine wpList_append_flat he hsz ht hinfo hzs hby hgd s x ho base v L n hs (hown.alloc _) ⟨w0.heap.size, 0, none⟩ [y] 1 1 rfl hx ?_ n' hn' hl (Nat.le_trans hb t0.size) ?_
  · intro j x hj
    have hj0 : j = 0 := by
      cases j with
      | zero => rfl
      | succ j => simp at hj
    subst hj0
    obtain rfl : y = x := by simpa using hj
    refine ⟨_, rfl, fun i u hu => ?_⟩
    rw [Nat.zero_mul, Addr.add_lit, Addr.add_lit, Nat.zero_add]
    have h0 := heap_alloc_new w0 (.cells (enc y).toArray e)
    unfold World.cell?
    rw [h0]
    simpa using hu
  · intro v' w' h1 h2 h3
    have h1' := h1.out
    rcases h1'.2 with ⟨_, h0⟩ | ⟨g, cap, cur, rfl, hb', _⟩
    · omega
    · refine h g cap w' hb' h1 (t0.trans h2.out) ?_
      rcases h3.out with h4 | h4
      · exact Or.inl h4.symm
      · right
        have h5 : g = (w0.alloc (.cells (enc y).toArray e)).heap.size := by simpa [Value.ownBlock] using h4
        have := t0.size
        omega
end

end Go.Proofs.YtfghabjpcjcllaaDoor
/- Plans in memory: rows of rows of structs that hold rows of structs, read, or of the call's own. General, over any program: eC, eO, eL: the types of a case, of an op, of a list of ops. -/
namespace Go.Proofs.YtfghabjpcjcllaaDoor
open Go.RowKit

/-- A slice's value, by its parts. -/
structure Sl where
  ao : Option Addr
  len : Nat
  cap : Nat
def Sl.val (s : Sl) : Value := .slice s.ao s.len s.cap
/-- A slice of so many things: not nil, unless there is no room. -/
structure Sl.Ok (s : Sl) (n : Nat) : Prop where
  len : s.len = n
  cap : s.len ≤ s.cap
  max : s.cap ≤ maxLen
  nil : s.ao = none → s.cap = 0
/-- The block in which a slice's things lie is one of e's. -/
def Typ (w : World) (e : TypeId) (ao : Option Addr) : Prop := ∀ ad, ao = some ad → ∃ cur, w.heap[ad.block]? = some (.cells cur e (0, 0))
theorem Typ.new {w w' : World} {e : TypeId} {ao : Option Addr} (h : Typ w e ao) (t : Turn (fun _ => False) w w') : Typ w' e ao := fun ad he => (h ad he).imp fun _ hc => t.heap id hc
/-- The blocks of S are of another type. -/
def Apart (w : World) (e : TypeId) (S : Nat → Prop) : Prop := ∀ i, i < w.heap.size → S i → ∃ cur e', e' ≠ e ∧ w.heap[i]? = some (.cells cur e' (0, 0))
theorem Apart.not {w : World} {e : TypeId} {S : Nat → Prop} (h : Apart w e S) {i : Nat} {cur : Array Value} (hi : w.heap[i]? = some (.cells cur e (0, 0))) : ¬ S i := fun hs => by
  obtain ⟨cur', e', hne, hc⟩ := h i (Array.getElem?_eq_some_iff.1 hi).1 hs
  rw [hi] at hc
  injection hc with hc
  injection hc with _ ht
  exact hne ht.symm
theorem Typ.apart {w w' : World} {e : TypeId} {ao : Option Addr} {S : Nat → Prop} (h : Typ w e ao) (t : Turn S w w') (ha : Apart w e S) : Typ w' e ao := fun ad he => by
  obtain ⟨cur, hc⟩ := h ad he
  exact ⟨cur, t.heap (ha.not hc) hc⟩
theorem Has.apart {α : Type} {enc : α → List Value} {size : Nat} {w w' : World} {e : TypeId} {ao : Option Addr} {L : List α} {S : Nat → Prop} (h : Has enc size w ao L) (hT : Typ w e ao) (t : Turn S w w') (ha : Apart w e S) : Has enc size w' ao L :=
  h.turn t fun ad he => by
    obtain ⟨cur, hc⟩ := hT ad he
    exact ha.not hc
theorem Has.new {α : Type} {enc : α → List Value} {size : Nat} {w w' : World} {ao : Option Addr} {L : List α} (h : Has enc size w ao L) (t : Turn (fun _ => False) w w') : Has enc size w' ao L := h.turn t fun _ _ => id

/-! ### The codings -/
def encCV (c : Cas) : List Value := [.bool c.send, .int .i64 c.ch, .int .i64 c.v]
/-- An op as it lies: its cases by their slice. -/
structure OpV where
  kind : Int
  ch : Int
  n : Int
  v : Int
  cs : Sl
  els : Bool
def encOV (r : OpV) : List Value := [.int .i64 r.kind, .int .i64 r.ch, .int .i64 r.n, .int .i64 r.v, r.cs.val, .bool r.els]
def encSV (s : Sl) : List Value := [s.val]
theorem encCV_ok : Enc encCV 3 := ⟨fun _ => rfl, fun x u hu => by simp [encCV] at hu; rcases hu with rfl | rfl | rfl <;> rfl⟩
theorem encOV_ok : Enc encOV 6 := ⟨fun _ => rfl, fun x u hu => by simp [encOV] at hu; rcases hu with rfl | rfl | rfl | rfl | rfl | rfl <;> rfl⟩
theorem encSV_ok : Enc encSV 1 := ⟨fun _ => rfl, fun x u hu => by simp [encSV] at hu; subst hu; rfl⟩

/-! ### What is read -/
/-- The slice s reads as the cases L. -/
structure RCs (w : World) (s : Sl) (L : List Cas) : Prop where
  ok : s.Ok L.length
  has : Has encCV 3 w s.ao L
structure ROp (w : World) (r : OpV) (o : Opr) : Prop where
  kind : r.kind = o.kind
  ch : r.ch = o.ch
  n : r.n = o.n
  v : r.v = o.v
  els : r.els = o.els
  cs : RCs w r.cs o.cases
structure ROps (w : World) (s : Sl) (l : List Opr) : Prop where
  ok : s.Ok l.length
  has : ∃ R : List OpV, R.length = l.length ∧ Has encOV 6 w s.ao R ∧ ∀ (i : Nat) r o, R[i]? = some r → l[i]? = some o → ROp w r o
structure RPlan (w : World) (s : Sl) (p : List (List Opr)) : Prop where
  ok : s.Ok p.length
  has : ∃ V : List Sl, V.length = p.length ∧ Has encSV 1 w s.ao V ∧ ∀ (i : Nat) x l, V[i]? = some x → p[i]? = some l → ROps w x l
section
variable {w w' : World}
theorem RCs.new {s : Sl} {L : List Cas} (h : RCs w s L) (t : Turn (fun _ => False) w w') : RCs w' s L := ⟨h.ok, h.has.new t⟩
theorem ROp.new {r : OpV} {o : Opr} (h : ROp w r o) (t : Turn (fun _ => False) w w') : ROp w' r o := ⟨h.kind, h.ch, h.n, h.v, h.els, h.cs.new t⟩
theorem ROps.new {s : Sl} {l : List Opr} (h : ROps w s l) (t : Turn (fun _ => False) w w') : ROps w' s l := by
  obtain ⟨R, h1, h2, h3⟩ := h.has
  exact ⟨h.ok, R, h1, h2.new t, fun i r o hr ho => (h3 i r o hr ho).new t⟩
theorem RPlan.new {s : Sl} {p : List (List Opr)} (h : RPlan w s p) (t : Turn (fun _ => False) w w') : RPlan w' s p := by
  obtain ⟨V, h1, h2, h3⟩ := h.has
  exact ⟨h.ok, V, h1, h2.new t, fun i r o hr ho => (h3 i r o hr ho).new t⟩

/-- One case of them, where it lies. -/
theorem RCs.at {s : Sl} {L : List Cas} (h : RCs w s L) {i : Nat} {c : Cas} (hc : L[i]? = some c) :
    ∃ a, s.ao = some a ∧ w.cell? (a.add (i * 3)) = some (.bool c.send) ∧ w.cell? ((a.add (i * 3)).add 1) = some (.int .i64 c.ch) ∧ w.cell? ((a.add (i * 3)).add 2) = some (.int .i64 c.v) := by
  obtain ⟨a, ha, hh⟩ := h.has i c hc
  refine ⟨a, ha, ?_, hh 1 _ rfl, hh 2 _ rfl⟩
  have := hh 0 _ rfl
  rwa [add_two, Nat.add_zero] at this
theorem ROps.at {s : Sl} {l : List Opr} (h : ROps w s l) {i : Nat} {o : Opr} (ho : l[i]? = some o) :
    ∃ a r, s.ao = some a ∧ ROp w r o ∧ (∀ j u, (encOV r)[j]? = some u → w.cell? ((a.add (i * 6)).add j) = some u) := by
  obtain ⟨R, h1, h2, h3⟩ := h.has
  have hi := (List.getElem?_eq_some_iff.1 ho).1
  have hr : R[i]? = some (R[i]'(by omega)) := List.getElem?_eq_getElem (by omega)
  obtain ⟨a, ha, hh⟩ := h2 i _ hr
  exact ⟨a, _, ha, h3 i _ o hr ho, hh⟩
theorem RPlan.at {s : Sl} {p : List (List Opr)} (h : RPlan w s p) {i : Nat} {l : List Opr} (hl : p[i]? = some l) :
    ∃ a x, s.ao = some a ∧ ROps w x l ∧ w.cell? (a.add i) = some x.val := by
  obtain ⟨V, h1, h2, h3⟩ := h.has
  have hi := (List.getElem?_eq_some_iff.1 hl).1
  have hr : V[i]? = some (V[i]'(by omega)) := List.getElem?_eq_getElem (by omega)
  obtain ⟨a, ha, hh⟩ := h2 i _ hr
  refine ⟨a, _, ha, h3 i _ l hr hl, ?_⟩
  have := hh 0 _ rfl
  rwa [add_two, Nat.add_zero, Nat.mul_one] at this

/-! ### What the call has made, of types that are told apart -/
structure BCs (w : World) (eC : TypeId) (s : Sl) (L : List Cas) : Prop where
  r : RCs w s L
  typ : Typ w eC s.ao
structure BOp (w : World) (eC : TypeId) (r : OpV) (o : Opr) : Prop where
  rd : ROp w r o
  typ : Typ w eC r.cs.ao
structure BOps (w : World) (eC eO : TypeId) (s : Sl) (l : List Opr) : Prop where
  ok : s.Ok l.length
  typ : Typ w eO s.ao
  has : ∃ R : List OpV, R.length = l.length ∧ Has encOV 6 w s.ao R ∧ ∀ (i : Nat) r o, R[i]? = some r → l[i]? = some o → BOp w eC r o
/-- A row of ops that still grows. -/
structure GOps (w : World) (eC eO : TypeId) (base : Nat) (s : Sl) (l : List Opr) : Prop where
  len : s.len = l.length
  has : ∃ R : List OpV, R.length = l.length ∧ w.ownsRow base eO 6 s.val l.length (flat encOV R) ∧ ∀ (i : Nat) r o, R[i]? = some r → l[i]? = some o → BOp w eC r o
/-- A row of lists of ops that still grows. -/
structure GPlan (w : World) (eC eO eL : TypeId) (base : Nat) (s : Sl) (p : List (List Opr)) : Prop where
  len : s.len = p.length
  has : ∃ V : List Sl, V.length = p.length ∧ w.ownsRow base eL 1 s.val p.length (flat encSV V) ∧ ∀ (i : Nat) x l, V[i]? = some x → p[i]? = some l → BOps w eC eO x l
variable {eC eO eL : TypeId} {base : Nat} {S : Nat → Prop}
theorem BCs.apart {s : Sl} {L : List Cas} (h : BCs w eC s L) (t : Turn S w w') (ha : Apart w eC S) : BCs w' eC s L := ⟨⟨h.r.ok, h.r.has.apart h.typ t ha⟩, h.typ.apart t ha⟩
theorem BCs.new {s : Sl} {L : List Cas} (h : BCs w eC s L) (t : Turn (fun _ => False) w w') : BCs w' eC s L := ⟨h.r.new t, h.typ.new t⟩
theorem BOp.apart {r : OpV} {o : Opr} (h : BOp w eC r o) (t : Turn S w w') (ha : Apart w eC S) : BOp w' eC r o :=
  ⟨⟨h.rd.kind, h.rd.ch, h.rd.n, h.rd.v, h.rd.els, ⟨h.rd.cs.ok, h.rd.cs.has.apart h.typ t ha⟩⟩, h.typ.apart t ha⟩
theorem BOp.new {r : OpV} {o : Opr} (h : BOp w eC r o) (t : Turn (fun _ => False) w w') : BOp w' eC r o := ⟨h.rd.new t, h.typ.new t⟩
theorem BOps.apart {s : Sl} {l : List Opr} (h : BOps w eC eO s l) (t : Turn S w w') (hc : Apart w eC S) (ho : Apart w eO S) : BOps w' eC eO s l := by
  obtain ⟨R, h1, h2, h3⟩ := h.has
  exact ⟨h.ok, h.typ.apart t ho, R, h1, h2.apart h.typ t ho, fun i r o hr ho' => (h3 i r o hr ho').apart t hc⟩
theorem BOps.new {s : Sl} {l : List Opr} (h : BOps w eC eO s l) (t : Turn (fun _ => False) w w') : BOps w' eC eO s l := by
  obtain ⟨R, h1, h2, h3⟩ := h.has
  exact ⟨h.ok, h.typ.new t, R, h1, h2.new t, fun i r o hr ho' => (h3 i r o hr ho').new t⟩
theorem BOps.reads {s : Sl} {l : List Opr} (h : BOps w eC eO s l) : ROps w s l := by
  obtain ⟨R, h1, h2, h3⟩ := h.has
  exact ⟨h.ok, R, h1, h2, fun i r o hr ho => (h3 i r o hr ho).rd⟩
theorem own_sl {e : TypeId} {size n : Nat} {s : Sl} {xs : List Value} (h : w.ownsRow base e size s.val n xs) (hs : s.len = n) : s.Ok n ∧ Typ w e s.ao := by
  obtain ⟨ao, c, hv, h1, h2, h3⟩ := own_slice h
  have hv' : Value.slice s.ao s.len s.cap = Value.slice ao n c := hv
  injection hv' with e1 e2 e3
  refine ⟨⟨hs, by rw [hs, e3]; exact h1, by rw [e3]; exact h2, fun h0 => by rw [e3]; exact h3.1 (e1 ▸ h0)⟩, fun ad he => ?_⟩
  refine own_type h ad.block ?_
  unfold Sl.val
  rw [he]
  rfl
theorem GOps.done {s : Sl} {l : List Opr} (h : GOps w eC eO base s l) : BOps w eC eO s l := by
  obtain ⟨R, h1, h2, h3⟩ := h.has
  obtain ⟨ok, ty⟩ := own_sl h2 h.len
  refine ⟨ok, ty, R, h1, ?_, h3⟩
  have hl := h.len
  have h2' : w.ownsRow base eO 6 (.slice s.ao l.length s.cap) l.length (flat encOV R) := by rw [← hl]; rw [← hl] at h2; exact h2
  exact Has.of_own encOV_ok (by decide) h2'
theorem GPlan.reads {s : Sl} {p : List (List Opr)} (h : GPlan w eC eO eL base s p) : RPlan w s p := by
  obtain ⟨V, h1, h2, h3⟩ := h.has
  obtain ⟨ok, ty⟩ := own_sl h2 h.len
  refine ⟨ok, V, h1, ?_, fun i x l hx hl => (h3 i x l hx hl).reads⟩
  have hl := h.len
  have h2' : w.ownsRow base eL 1 (.slice s.ao p.length s.cap) p.length (flat encSV V) := by rw [← hl]; rw [← hl] at h2; exact h2
  exact Has.of_own encSV_ok (by decide) h2'
theorem GOps.new {s : Sl} {l : List Opr} (h : GOps w eC eO base s l) (t : Turn (fun _ => False) w w') : GOps w' eC eO base s l := by
  obtain ⟨R, h1, h2, h3⟩ := h.has
  exact ⟨h.len, R, h1, own_turn h2 t (fun _ _ => id), fun i r o hr ho => (h3 i r o hr ho).new t⟩
theorem GPlan.new {s : Sl} {p : List (List Opr)} (h : GPlan w eC eO eL base s p) (t : Turn (fun _ => False) w w') : GPlan w' eC eO eL base s p := by
  obtain ⟨V, h1, h2, h3⟩ := h.has
  exact ⟨h.len, V, h1, own_turn h2 t (fun _ _ => id), fun i x l hx hl => (h3 i x l hx hl).new t⟩
theorem GOps.apart {s : Sl} {l : List Opr} (h : GOps w eC eO base s l) (t : Turn S w w') (hc : Apart w eC S) (ho : Apart w eO S) : GOps w' eC eO base s l := by
  obtain ⟨R, h1, h2, h3⟩ := h.has
  refine ⟨h.len, R, h1, own_turn h2 t (fun k hk => ?_), fun i r o hr ho' => (h3 i r o hr ho').apart t hc⟩
  obtain ⟨cur, hcur⟩ := own_type h2 k hk
  exact ho.not hcur
theorem GPlan.apart {s : Sl} {p : List (List Opr)} (h : GPlan w eC eO eL base s p) (t : Turn S w w') (hc : Apart w eC S) (ho : Apart w eO S) (hl : Apart w eL S) : GPlan w' eC eO eL base s p := by
  obtain ⟨V, h1, h2, h3⟩ := h.has
  refine ⟨h.len, V, h1, own_turn h2 t (fun k hk => ?_), fun i x l hx hl' => (h3 i x l hx hl').apart t hc ho⟩
  obtain ⟨cur, hcur⟩ := own_type h2 k hk
  exact hl.not hcur
/-- The block of a row of the call's own is apart from what is of another type. -/
theorem apart_own {e e' : TypeId} {size n : Nat} {v : Value} {xs : List Value} (h : w.ownsRow base e size v n xs) (hne : e ≠ e') : Apart w e' (fun i => v.ownBlock = some i) := fun i _ hi => by
  obtain ⟨cur, hcur⟩ := own_type h i hi
  exact ⟨cur, e, hne, hcur⟩
end

end Go.Proofs.YtfghabjpcjcllaaDoor
/- A region that draws, walked by GTill: an operation whose guard says no. General, over any program. -/
namespace Go.Proofs.YtfghabjpcjcllaaDoor
open Go.RowKit

section
variable {P : Program} {ops : Array Oper} {Q : Exit → Act → World → Prop} {md : Region.Mode} {m1 m2 : Nat} {A1 A2 : World → Prop}
/-- An operation that isn't wanted: of whatever kind, a call too. -/
theorem stand_skip {i : Nat} {oi : Oper} {rs : List Oper} {n d : Nat} {l : Array Bool} {L : List Value} {ds} {w : World} (hi' : ops.toList.drop i = oi :: rs) (hs : Region.noSelect ops = true) (hf : Region.free md ops l i = true) (hr : (Region.ready md ops l).contains i = true)
    (hd : oi.dst = some d) (hQ : ∀ c a w, Q (.panic c) (a.put (some d) undef) w → Q (.panic c) a w) (h1 : i ≠ m1) (h2 : i ≠ m2) (hw : Region.wanted oi (yielded ops L.toArray) = false)
    (h : Stand P md ops Q m1 A1 m2 A2 n (l.setIfInBounds i true) ⟨(L.set d undef).toArray, ds⟩ w) : Stand P md ops Q m1 A1 m2 A2 (n + 1) l ⟨L.toArray, ds⟩ w := fun k t => by
  have hi := nth_of hi'
  rw [← put_laid, ← hd] at h
  rw [← hd] at hQ
  have hr' : i ∈ Region.ready md ops l := by simpa using hr
  exact till_first (B := fun _ => True) hi hs hQ h1 h2 (fun _ _ _ _ _ => trivial) n l _ w k t (Region.free_spec hi hf) hr' (Or.inr ⟨hw, rfl⟩) (h (k.set hr') (t.set h1 h2))
end

end Go.Proofs.YtfghabjpcjcllaaDoor
/- Rows of cases, of ops and of lists of ops that grow by one. General, over any program. -/
namespace Go.Proofs.YtfghabjpcjcllaaDoor
open Go.RowKit

/-- A row of cases of the call's own. -/
structure GCs (w : World) (eC : TypeId) (base : Nat) (s : Sl) (L : List Cas) : Prop where
  len : s.len = L.length
  own : w.ownsRow base eC 3 s.val L.length (flat encCV L)
section
variable {w w' : World} {eC eO eL : TypeId} {base : Nat} {S : Nat → Prop}
theorem GCs.done {s : Sl} {L : List Cas} (h : GCs w eC base s L) : BCs w eC s L := by
  obtain ⟨ok, ty⟩ := own_sl h.own h.len
  have h2 : w.ownsRow base eC 3 (.slice s.ao L.length s.cap) L.length (flat encCV L) := by
    have h1 := h.own
    rw [← h.len] at h1 ⊢
    exact h1
  exact ⟨⟨ok, Has.of_own encCV_ok (by decide) h2⟩, ty⟩
theorem GCs.new {s : Sl} {L : List Cas} (h : GCs w eC base s L) (t : Turn (fun _ => False) w w') : GCs w' eC base s L := ⟨h.len, own_turn h.own t (fun _ _ => id)⟩
theorem GCs.apart {s : Sl} {L : List Cas} (h : GCs w eC base s L) (t : Turn S w w') (ha : Apart w eC S) : GCs w' eC base s L :=
  ⟨h.len, own_turn h.own t (fun k hk => by obtain ⟨cur, hcur⟩ := own_type h.own k hk; exact ha.not hcur)⟩
theorem GCs.nil (w : World) (eC : TypeId) (base : Nat) : GCs w eC base ⟨none, 0, 0⟩ [] := ⟨rfl, ⟨rfl, .inl ⟨rfl, rfl⟩⟩⟩
theorem GOps.nil (w : World) (eC eO : TypeId) (base : Nat) : GOps w eC eO base ⟨none, 0, 0⟩ [] := ⟨rfl, [], rfl, ⟨rfl, .inl ⟨rfl, rfl⟩⟩, fun i r o hr _ => by simp at hr⟩
theorem GPlan.nil (w : World) (eC eO eL : TypeId) (base : Nat) : GPlan w eC eO eL base ⟨none, 0, 0⟩ [] := ⟨rfl, [], rfl, ⟨rfl, .inl ⟨rfl, rfl⟩⟩, fun i r o hr _ => by simp at hr⟩
/-- '[]T{}': an empty row in a block of its own. -/
theorem GCs.made {g : Nat} (h : w.heap[g]? = some (.cells #[] eC (0, 0))) (hb : base ≤ g) : GCs w eC base ⟨some ⟨g, 0, none⟩, 0, 0⟩ [] := ⟨rfl, own_made h hb⟩
theorem GOps.made {g : Nat} (h : w.heap[g]? = some (.cells #[] eO (0, 0))) (hb : base ≤ g) : GOps w eC eO base ⟨some ⟨g, 0, none⟩, 0, 0⟩ [] := ⟨rfl, [], rfl, own_made h hb, fun i r o hr _ => by simp at hr⟩
theorem GPlan.made {g : Nat} (h : w.heap[g]? = some (.cells #[] eL (0, 0))) (hb : base ≤ g) : GPlan w eC eO eL base ⟨some ⟨g, 0, none⟩, 0, 0⟩ [] := ⟨rfl, [], rfl, own_made h hb, fun i r o hr _ => by simp at hr⟩
theorem GOps.less {base' : Nat} {s : Sl} {l : List Opr} (h : GOps w eC eO base s l) (hb : base' ≤ base) : GOps w eC eO base' s l := by
  obtain ⟨R, h1, h2, h3⟩ := h.has
  exact ⟨h.len, R, h1, own_less h2 hb, h3⟩
theorem GPlan.less {base' : Nat} {s : Sl} {p : List (List Opr)} (h : GPlan w eC eO eL base s p) (hb : base' ≤ base) : GPlan w eC eO eL base' s p := by
  obtain ⟨R, h1, h2, h3⟩ := h.has
  exact ⟨h.len, R, h1, own_less h2 hb, h3⟩
theorem GCs.less {base' : Nat} {s : Sl} {L : List Cas} (h : GCs w eC base s L) (hb : base' ≤ base) : GCs w eC base' s L := ⟨h.len, own_less h.own hb⟩

theorem snoc_each {α β : Type} {R : List α} {l : List β} {x : α} {y : β} {φ : α → β → Prop} (hl : R.length = l.length) (h : ∀ (i : Nat) r o, R[i]? = some r → l[i]? = some o → φ r o) (hxy : φ x y) : ∀ (i : Nat) r o, (R ++ [x])[i]? = some r → (l ++ [y])[i]? = some o → φ r o := by
  intro i r o hr ho
  rcases Nat.lt_or_ge i R.length with hi | hi
  · rw [List.getElem?_append_left hi] at hr
    rw [List.getElem?_append_left (by omega)] at ho
    exact h i r o hr ho
  · rw [List.getElem?_append_right hi] at hr
    rw [List.getElem?_append_right (by omega)] at ho
    have e : i - R.length = 0 := by
      rcases Nat.eq_zero_or_pos (i - R.length) with h0 | h0
      · exact h0
      · rw [List.getElem?_eq_none (by simp only [List.length_singleton]; omega)] at hr; cases hr
    rw [e] at hr
    rw [show i - l.length = 0 by omega] at ho
    obtain rfl : x = r := by simpa using hr
    obtain rfl : y = o := by simpa using ho
    exact hxy

variable {P : Program} {z : Value} {t : TypeId} {by_ : Nat} {w0 : World} {ops : Array Oper} {rest : List Oper} {o : Oper} {a : Act} {Q : Exit → Act → World → Prop}
/-- 'append(s, c)'; the block of c is made just ahead. -/
theorem wpList_append_case (ht : P.underlying t = some (.slice eC)) (hinfo : (P.info? eC).map (fun i => (i.zero, i.size, i.bytes)) = some (some z, 3, by_)) (hzs : z.cells.size = 3) (hby : by_ ≤ 100)
    (hgd : o.guard = none) (s x : Operand) (ho : o.op = .call { callee := .builtin .append, args := #[s, x], argTypes := #[t, t] }) (v : Sl) (L : List Cas) (c : Cas) {Y : Array Value} (hY : Y = (encCV c).toArray) (hs : a.eval s = v.val) (G : GCs w0 eC base v L)
    (hx : a.eval x = .slice (some ⟨w0.heap.size, 0, none⟩) 1 1) (n' : Nat) (hn' : L.length + 1 = n') (hl : n' ≤ 1000000) (hb : base ≤ w0.heap.size)
    (h : ∀ g cap w', base ≤ g → Hid (GCs w' eC base ⟨some ⟨g, 0, none⟩, n', cap⟩ (L ++ [c])) → Hid (Turn (fun i => v.val.ownBlock = some i) w0 w') → Hid (v.val.ownBlock = some g ∨ w0.heap.size ≤ g) → wpList P ops Q rest (a.put o.dst (.slice (some ⟨g, 0, none⟩) n' cap)) w') :
    wpList P ops Q (o :: rest) a (w0.alloc (.cells Y eC)) := by
  refine wpList_append_flat_one encCV_ok (by decide) ht hinfo hzs hby hgd s x ho base v.val L L.length c hY hs G.own hx n' hn' hl hb fun g cap w' hg h1 h2 h3 => h g cap w' hg (Lib.hid ⟨?_, ?_⟩) h2 h3
  · show n' = (L ++ [c]).length
    rw [List.length_append]; exact hn'.symm
  · have e : (L ++ [c]).length = n' := by rw [List.length_append]; exact hn'
    rw [e]
    exact h1.out
/-- 'append(s, y)' of an op; its block is made just ahead. -/
theorem wpList_append_op (hne : eO ≠ eC) (ht : P.underlying t = some (.slice eO)) (hinfo : (P.info? eO).map (fun i => (i.zero, i.size, i.bytes)) = some (some z, 6, by_)) (hzs : z.cells.size = 6) (hby : by_ ≤ 100)
    (hgd : o.guard = none) (s x : Operand) (ho : o.op = .call { callee := .builtin .append, args := #[s, x], argTypes := #[t, t] }) (v : Sl) (l : List Opr) (y : OpV) (p : Opr) {Y : Array Value} (hY : Y = (encOV y).toArray) (hs : a.eval s = v.val) (G : GOps w0 eC eO base v l) (B : BOp w0 eC y p)
    (hx : a.eval x = .slice (some ⟨w0.heap.size, 0, none⟩) 1 1) (n' : Nat) (hn' : l.length + 1 = n') (hl : n' ≤ 1000000) (hb : base ≤ w0.heap.size)
    (h : ∀ g cap w', base ≤ g → Hid (GOps w' eC eO base ⟨some ⟨g, 0, none⟩, n', cap⟩ (l ++ [p])) → Hid (Turn (fun i => v.val.ownBlock = some i) w0 w') → Hid (Apart w0 eC (fun i => v.val.ownBlock = some i)) → wpList P ops Q rest (a.put o.dst (.slice (some ⟨g, 0, none⟩) n' cap)) w') :
    wpList P ops Q (o :: rest) a (w0.alloc (.cells Y eO)) := by
  obtain ⟨R, h1, h2, h3⟩ := G.has
  have hap : Apart w0 eC (fun i => v.val.ownBlock = some i) := apart_own h2 hne
  refine wpList_append_flat_one encOV_ok (by decide) ht hinfo hzs hby hgd s x ho base v.val R l.length y hY hs h2 hx n' hn' hl hb fun g cap w' hg k1 k2 _ => h g cap w' hg (Lib.hid ⟨?_, R ++ [y], ?_, ?_, ?_⟩) k2 (Lib.hid hap)
  · show n' = (l ++ [p]).length
    rw [List.length_append]; exact hn'.symm
  · rw [List.length_append, List.length_append, h1]; rfl
  · have e : (l ++ [p]).length = n' := by rw [List.length_append]; exact hn'
    rw [e]
    exact k1.out
  · exact snoc_each h1 (fun i r o hr ho => (h3 i r o hr ho).apart k2.out hap) (B.apart k2.out hap)
/-- 'append(s, l)' of a list of ops; the block of its slice is made just ahead. -/
theorem wpList_append_ops (hneC : eL ≠ eC) (hneO : eL ≠ eO) (ht : P.underlying t = some (.slice eL)) (hinfo : (P.info? eL).map (fun i => (i.zero, i.size, i.bytes)) = some (some z, 1, by_)) (hzs : z.cells.size = 1) (hby : by_ ≤ 100)
    (hgd : o.guard = none) (s x : Operand) (ho : o.op = .call { callee := .builtin .append, args := #[s, x], argTypes := #[t, t] }) (v : Sl) (p : List (List Opr)) (y : Sl) (l : List Opr) {Y : Array Value} (hY : Y = (encSV y).toArray) (hs : a.eval s = v.val) (G : GPlan w0 eC eO eL base v p) (B : BOps w0 eC eO y l)
    (hx : a.eval x = .slice (some ⟨w0.heap.size, 0, none⟩) 1 1) (n' : Nat) (hn' : p.length + 1 = n') (hl : n' ≤ 1000000) (hb : base ≤ w0.heap.size)
    (h : ∀ g cap w', base ≤ g → Hid (GPlan w' eC eO eL base ⟨some ⟨g, 0, none⟩, n', cap⟩ (p ++ [l])) → Hid (Turn (fun i => v.val.ownBlock = some i) w0 w') → Hid (Apart w0 eC (fun i => v.val.ownBlock = some i) ∧ Apart w0 eO (fun i => v.val.ownBlock = some i)) → wpList P ops Q rest (a.put o.dst (.slice (some ⟨g, 0, none⟩) n' cap)) w') :
    wpList P ops Q (o :: rest) a (w0.alloc (.cells Y eL)) := by
  obtain ⟨R, h1, h2, h3⟩ := G.has
  have hapC : Apart w0 eC (fun i => v.val.ownBlock = some i) := apart_own h2 hneC
  have hapO : Apart w0 eO (fun i => v.val.ownBlock = some i) := apart_own h2 hneO
  refine wpList_append_flat_one encSV_ok (by decide) ht hinfo hzs hby hgd s x ho base v.val R p.length y hY hs h2 hx n' hn' hl hb fun g cap w' hg k1 k2 _ => h g cap w' hg (Lib.hid ⟨?_, R ++ [y], ?_, ?_, ?_⟩) k2 (Lib.hid ⟨hapC, hapO⟩)
  · show n' = (p ++ [l]).length
    rw [List.length_append]; exact hn'.symm
  · rw [List.length_append, List.length_append, h1]; rfl
  · have e : (p ++ [l]).length = n' := by rw [List.length_append]; exact hn'
    rw [e]
    exact k1.out
  · exact snoc_each h1 (fun i r o hr ho => (h3 i r o hr ho).apart k2.out hapC hapO) (B.apart k2.out hapC hapO)
end

end Go.Proofs.YtfghabjpcjcllaaDoor
/- A plan that grows: rows are appended to it, and ops to its last row, in place. General, over any program. -/
namespace Go.Proofs.YtfghabjpcjcllaaDoor
open Go.RowKit
set_option linter.unusedVariables false

section
variable {w w' : World} {eC eO eL : TypeId} {base : Nat} {S : Nat → Prop}
theorem GOps.keep {s : Sl} {l : List Opr} (h : GOps w eC eO base s l) (t : Turn S w w') (hs : ∀ b, s.val.ownBlock = some b → ¬ S b) (hc : Apart w eC S) : GOps w' eC eO base s l := by
  obtain ⟨R, h1, h2, h3⟩ := h.has
  exact ⟨h.len, R, h1, own_turn h2 t hs, fun i r o hr ho => (h3 i r o hr ho).apart t hc⟩
theorem GOps.low {s : Sl} {l : List Opr} (h : GOps w eC eO base s l) : ∀ b, s.val.ownBlock = some b → base ≤ b ∧ b < w.heap.size := by
  obtain ⟨R, _, h2, _⟩ := h.has
  exact fun b hb => h2.lt b hb
theorem GOps.type {s : Sl} {l : List Opr} (h : GOps w eC eO base s l) : ∀ b, s.val.ownBlock = some b → ∃ cur, w.heap[b]? = some (.cells cur eO (0, 0)) := by
  obtain ⟨R, _, h2, _⟩ := h.has
  exact own_type h2

/-- A plan, each row of the call's own, no two in one block. -/
structure PG (w : World) (eC eO eL : TypeId) (base : Nat) (s : Sl) (V : List Sl) (p : List (List Opr)) : Prop where
  len : s.len = p.length
  many : V.length = p.length
  own : w.ownsRow base eL 1 s.val p.length (flat encSV V)
  rows : ∀ (i : Nat) x l, V[i]? = some x → p[i]? = some l → GOps w eC eO base x l
  far : ∀ (i j : Nat) x y b, i ≠ j → V[i]? = some x → V[j]? = some y → x.val.ownBlock = some b → y.val.ownBlock ≠ some b
theorem PG.nil (w : World) (eC eO eL : TypeId) (base : Nat) : PG w eC eO eL base ⟨none, 0, 0⟩ [] [] := ⟨rfl, rfl, ⟨rfl, .inl ⟨rfl, rfl⟩⟩, fun i x l h => by simp at h, fun i j x y b _ h => by simp at h⟩
theorem PG.made {g : Nat} (h : w.heap[g]? = some (.cells #[] eL (0, 0))) (hb : base ≤ g) : PG w eC eO eL base ⟨some ⟨g, 0, none⟩, 0, 0⟩ [] [] := ⟨rfl, rfl, own_made h hb, fun i x l h => by simp at h, fun i j x y b _ h => by simp at h⟩
theorem PG.keep {s : Sl} {V : List Sl} {p : List (List Opr)} (h : PG w eC eO eL base s V p) (t : Turn S w w') (h1 : Apart w eC S) (h2 : Apart w eO S) (h3 : Apart w eL S) : PG w' eC eO eL base s V p :=
  ⟨h.len, h.many, own_turn h.own t (fun k hk => by obtain ⟨cur, hcur⟩ := own_type h.own k hk; exact h3.not hcur), fun i x l hx hl => (h.rows i x l hx hl).keep t (fun b hb => by obtain ⟨cur, hcur⟩ := (h.rows i x l hx hl).type b hb; exact h2.not hcur) h1, h.far⟩
theorem PG.new {s : Sl} {V : List Sl} {p : List (List Opr)} (h : PG w eC eO eL base s V p) (t : Turn (fun _ => False) w w') : PG w' eC eO eL base s V p :=
  h.keep t (fun i _ e => e.elim) (fun i _ e => e.elim) (fun i _ e => e.elim)
theorem not_aside (hS : ∀ b, S b → ∃ o : Obj, w.heap[b]? = some o ∧ ∀ cs t f, o ≠ .cells cs t f) {b : Nat} {cur : Array Value} {e : TypeId} (hb : w.heap[b]? = some (.cells cur e (0, 0))) : ¬ S b := fun h => by
  obtain ⟨o, ho, hc⟩ := hS b h
  rw [hb] at ho
  cases ho
  exact hc _ _ _ rfl
/-- What is no cells turns. -/
theorem PG.aside {s : Sl} {V : List Sl} {p : List (List Opr)} (h : PG w eC eO eL base s V p) (t : Turn S w w') (hS : ∀ b, S b → ∃ o : Obj, w.heap[b]? = some o ∧ ∀ cs t f, o ≠ .cells cs t f) : PG w' eC eO eL base s V p := by
  have bop : ∀ {r : OpV} {o : Opr}, BOp w eC r o → BOp w' eC r o := fun {r o} b =>
    ⟨⟨b.rd.kind, b.rd.ch, b.rd.n, b.rd.v, b.rd.els, ⟨b.rd.cs.ok, b.rd.cs.has.turn t fun ad he => by
      obtain ⟨cur, hc⟩ := b.typ ad he
      exact not_aside hS hc⟩⟩, fun ad he => by
      obtain ⟨cur, hc⟩ := b.typ ad he
      exact ⟨cur, t.heap (not_aside hS hc) hc⟩⟩
  refine ⟨h.len, h.many, own_turn h.own t (fun k hk => by obtain ⟨cur, hc⟩ := own_type h.own k hk; exact not_aside hS hc), fun i x l hx hl => ?_, h.far⟩
  have g := h.rows i x l hx hl
  obtain ⟨R, h1, h2, h3⟩ := g.has
  exact ⟨g.len, R, h1, own_turn h2 t (fun k hk => by obtain ⟨cur, hc⟩ := own_type h2 k hk; exact not_aside hS hc), fun i r o hr ho => bop (h3 i r o hr ho)⟩
theorem PG.plan {s : Sl} {V : List Sl} {p : List (List Opr)} (h : PG w eC eO eL base s V p) : GPlan w eC eO eL base s p := ⟨h.len, V, h.many, h.own, fun i x l hx hl => (h.rows i x l hx hl).done⟩
theorem PG.low {s : Sl} {V : List Sl} {p : List (List Opr)} (h : PG w eC eO eL base s V p) : ∀ i, s.val.ownBlock = some i → base ≤ i := fun i e => (h.own.lt i e).1
/-- The blocks of a plan's own rows. -/
def Mine (s : Sl) (V : List Sl) (b : Nat) : Prop := s.val.ownBlock = some b ∨ ∃ (i : Nat) (x : Sl), V[i]? = some x ∧ x.val.ownBlock = some b
theorem PG.mine {s : Sl} {V : List Sl} {p : List (List Opr)} (h : PG w eC eO eL base s V p) {b : Nat} (hb : Mine s V b) : base ≤ b ∧ ∃ cur e, w.heap[b]? = some (.cells cur e (0, 0)) := by
  rcases hb with hb | ⟨i, x, hx, hb⟩
  · obtain ⟨cur, hc⟩ := own_type h.own b hb
    exact ⟨(h.own.lt b hb).1, cur, eL, hc⟩
  · have hi : i < p.length := by rw [← h.many]; exact (List.getElem?_eq_some_iff.1 hx).1
    have hr := h.rows i x _ hx (List.getElem?_eq_getElem hi)
    obtain ⟨cur, hc⟩ := hr.type b hb
    exact ⟨(hr.low b hb).1, cur, eO, hc⟩
/-- Where a row lies. -/
theorem PG.at {s : Sl} {V : List Sl} {p : List (List Opr)} (h : PG w eC eO eL base s V p) {i : Nat} {x : Sl} (hx : V[i]? = some x) : ∃ g, s.ao = some ⟨g, 0, none⟩ ∧ base ≤ g ∧ w.cell? ⟨g, i, none⟩ = some x.val ∧ w.frozen? ⟨g, i, none⟩ = false ∧ ∃ cur, w.heap[g]? = some (.cells cur eL (0, 0)) := by
  obtain ⟨ao, c, hv, _, _, h5, h6⟩ := own_slice h.own
  have hi := (List.getElem?_eq_some_iff.1 hx).1
  rw [h.many] at hi
  have hao : s.ao = ao := by unfold Sl.val at hv; simp at hv; exact hv.1
  have hn : ao ≠ none := fun e => by
    have := h5 e
    have hh := h.own
    rw [hv] at hh
    rcases hh.2 with ⟨e1, e2⟩ | ⟨g, cap, cur, e1, _⟩
    · omega
    · rw [e] at e1; cases e1
  obtain ⟨a, ha⟩ := Option.ne_none_iff_exists'.1 hn
  obtain ⟨g, rfl, hg, _⟩ := h6 a ha
  have ho := h.own
  rw [hv, ha] at ho
  have h7 := own_at encSV_ok ho hx (i := 0) rfl
  refine ⟨g, by rw [hao, ha], hg, by simpa using h7.1, by simpa using h7.2, own_type ho g rfl⟩

/-- Behind an append of an op to the last row, and the store of what came of it. -/
theorem PG.grown {s : Sl} {V : List Sl} {p : List (List Opr)} {x y : Sl} {l : List Opr} {o : Opr} {g i : Nat} (hCO : eC ≠ eO) (hCL : eC ≠ eL) (hOL : eO ≠ eL) (h : PG w eC eO eL base s V p) (hx : V[i]? = some x) (hl : p[i]? = some l) (hs : s.ao = some ⟨g, 0, none⟩)
    (t : Turn (fun b => x.val.ownBlock = some b) w w') (hy : GOps w' eC eO base y (l ++ [o])) (hg : ∀ b, y.val.ownBlock = some b → x.val.ownBlock = some b ∨ w.heap.size ≤ b) :
    PG (w'.setCell ⟨g, i, none⟩ y.val) eC eO eL base s (V.set i y) (p.set i (l ++ [o])) ∧ Turn (Mine s V) w (w'.setCell ⟨g, i, none⟩ y.val) := by
  have hi := (List.getElem?_eq_some_iff.1 hx).1
  have hip := (List.getElem?_eq_some_iff.1 hl).1
  obtain ⟨ao, c, hv, _, _, _, h6⟩ := own_slice h.own
  have hao : ao = some ⟨g, 0, none⟩ := by unfold Sl.val at hv; simp at hv; rw [← hv.1, hs]
  have hsv : s.val = .slice (some ⟨g, 0, none⟩) p.length c := by rw [hv, hao]
  have hgo : s.val.ownBlock = some g := by rw [hsv]; rfl
  obtain ⟨gcur, hgt⟩ := own_type h.own g hgo
  have hgl := h.own.lt g hgo
  have hX := h.rows i x l hx hl
  -- the row's blocks aren't the plan's
  have hne : ∀ (b : Nat), x.val.ownBlock = some b → b ≠ g := fun b hb e => by
    obtain ⟨cur, hc⟩ := hX.type b hb
    rw [e, hgt] at hc
    have := (Option.some.inj hc)
    simp at this
    exact hOL this.2.symm
  have own1 := own_turn h.own t (fun k hk e => by rw [hgo] at hk; cases hk; exact hne _ e rfl)
  have apC : Apart w eC (fun b => x.val.ownBlock = some b) := fun b _ hb => by
    obtain ⟨cur, hc⟩ := hX.type b hb
    exact ⟨cur, eO, fun e => hCO e.symm, hc⟩
  have gt1 : w'.heap[g]? = some (.cells gcur eL (0, 0)) := t.heap (fun e => hne g e rfl) hgt
  have t2 : Turn (fun b => b = g) w' (w'.setCell ⟨g, i, none⟩ y.val) := (Turn.refl (fun b => b = g) w').setCell (p := ⟨g, i, none⟩) (Or.inl rfl) _
  have ap2 : ∀ e, e ≠ eL → Apart w' e (fun b => b = g) := fun e he b _ hb => by subst hb; exact ⟨gcur, eL, fun h => he h.symm, gt1⟩
  have hyg : ∀ b, y.val.ownBlock = some b → b ≠ g := fun b hb e => by
    obtain ⟨cur, hc⟩ := hy.type b hb
    rw [e, gt1] at hc
    have := (Option.some.inj hc)
    simp at this
    exact hOL this.2.symm
  refine ⟨⟨by rw [List.length_set]; exact h.len, by rw [List.length_set, List.length_set]; exact h.many, ?_, ?_, ?_⟩, ?_⟩
  · rw [List.length_set]
    rw [hsv] at own1 ⊢
    have := own_set encSV_ok own1 hx (y := y) (i := 0) (by decide) (u := y.val) rfl rfl
    simpa using this
  · intro j z m hz hm
    by_cases hj : i = j
    · subst hj
      rw [List.getElem?_set_self hi] at hz
      rw [List.getElem?_set_self hip] at hm
      cases hz
      cases hm
      exact hy.keep t2 hyg (ap2 eC hCL)
    · rw [List.getElem?_set_ne hj] at hz hm
      have hz1 := (h.rows j z m hz hm).keep t (fun b hb e => h.far i j x z b hj hx hz e hb) apC
      refine hz1.keep t2 (fun b hb e => ?_) (ap2 eC hCL)
      obtain ⟨cur, hc⟩ := hz1.type b hb
      rw [e, gt1] at hc
      have := (Option.some.inj hc)
      simp at this
      exact hOL this.2.symm
  · intro j k a b q hjk ha hb hq hq2
    by_cases hj : i = j
    · subst hj
      rw [List.getElem?_set_self hi] at ha
      rw [List.getElem?_set_ne hjk] at hb
      cases ha
      have hpk : k < p.length := by rw [← h.many]; exact (List.getElem?_eq_some_iff.1 hb).1
      rcases hg q hq with e | e
      · exact h.far i k x b q hjk hx hb e hq2
      · have := ((h.rows k b _ hb (List.getElem?_eq_getElem hpk)).low q hq2).2
        omega
    · by_cases hk : i = k
      · subst hk
        rw [List.getElem?_set_self hi] at hb
        rw [List.getElem?_set_ne hj] at ha
        cases hb
        have hpj : j < p.length := by rw [← h.many]; exact (List.getElem?_eq_some_iff.1 ha).1
        rcases hg q hq2 with e | e
        · exact h.far j i a x q hjk ha hx hq e
        · have := ((h.rows j a _ ha (List.getElem?_eq_getElem hpj)).low q hq).2
          omega
      · rw [List.getElem?_set_ne hj] at ha
        rw [List.getElem?_set_ne hk] at hb
        exact h.far j k a b q hjk ha hb hq hq2
  · exact (t.mono fun b _ e => Or.inr ⟨i, x, hx, e⟩).trans (t2.mono fun b _ e => by subst e; exact Or.inl hgo)

variable {P : Program} {z : Value} {t : TypeId} {by_ : Nat} {w0 : World} {ops : Array Oper} {rest : List Oper} {o : Oper} {a : Act} {Q : Exit → Act → World → Prop}
/-- 'append(p, y)' of an empty row; the block of its slice is made just ahead. -/
theorem wpList_append_row (hCO : eC ≠ eL) (hOL : eO ≠ eL) (ht : P.underlying t = some (.slice eL)) (hinfo : (P.info? eL).map (fun i => (i.zero, i.size, i.bytes)) = some (some z, 1, by_)) (hzs : z.cells.size = 1) (hby : by_ ≤ 100)
    (hgd : o.guard = none) (s x : Operand) (ho : o.op = .call { callee := .builtin .append, args := #[s, x], argTypes := #[t, t] }) (v : Sl) (V : List Sl) (p : List (List Opr)) (y : Sl) {Y : Array Value} (hY : Y = (encSV y).toArray) (hs : a.eval s = v.val) (G : PG w0 eC eO eL base v V p)
    (B : GOps w0 eC eO base y []) (hd : ∀ (b i : Nat) (q : Sl), y.val.ownBlock = some b → V[i]? = some q → q.val.ownBlock ≠ some b)
    (hx : a.eval x = .slice (some ⟨w0.heap.size, 0, none⟩) 1 1) (n' : Nat) (hn' : p.length + 1 = n') (hl : n' ≤ 1000000) (hb : base ≤ w0.heap.size)
    (h : ∀ g cap w', base ≤ g → Hid (PG w' eC eO eL base ⟨some ⟨g, 0, none⟩, n', cap⟩ (V ++ [y]) (p ++ [[]])) → Hid (Turn (fun i => v.val.ownBlock = some i) w0 w') → wpList P ops Q rest (a.put o.dst (.slice (some ⟨g, 0, none⟩) n' cap)) w') :
    wpList P ops Q (o :: rest) a (w0.alloc (.cells Y eL)) := by
  have apC : Apart w0 eC (fun i => v.val.ownBlock = some i) := apart_own G.own (fun e => hCO e.symm)
  have apO : Apart w0 eO (fun i => v.val.ownBlock = some i) := apart_own G.own (fun e => hOL e.symm)
  have notO : ∀ {q : Sl} {m : List Opr}, GOps w0 eC eO base q m → ∀ b, q.val.ownBlock = some b → ¬ v.val.ownBlock = some b := fun hq b hb => by
    obtain ⟨cur, hcur⟩ := hq.type b hb
    exact apO.not hcur
  refine wpList_append_flat_one encSV_ok (by decide) ht hinfo hzs hby hgd s x ho base v.val V p.length y hY hs G.own hx n' hn' hl hb fun g cap w' hg k1 k2 _ => h g cap w' hg (Lib.hid ⟨?_, ?_, ?_, ?_, ?_⟩) k2
  · show n' = (p ++ [[]]).length
    rw [List.length_append]; exact hn'.symm
  · rw [List.length_append, List.length_append, G.many]; rfl
  · have e : (p ++ [[]]).length = n' := by rw [List.length_append]; exact hn'
    rw [e]
    exact k1.out
  · exact snoc_each G.many (fun i r o hr ho => (G.rows i r o hr ho).keep k2.out (notO (G.rows i r o hr ho)) apC) (B.keep k2.out (notO B) apC)
  · intro i j q q' b hij hq hq' e e'
    have part : ∀ {k : Nat} {q : Sl}, (V ++ [y])[k]? = some q → V[k]? = some q ∨ (k = V.length ∧ q = y) := fun {k q} hk => by
      rcases Nat.lt_or_ge k V.length with hlt | hge
      · rw [List.getElem?_append_left hlt] at hk; exact Or.inl hk
      · rw [List.getElem?_append_right hge] at hk
        have h0 : k - V.length = 0 := by
          rcases Nat.eq_zero_or_pos (k - V.length) with h0 | h0
          · exact h0
          · rw [List.getElem?_eq_none (by simp only [List.length_singleton]; omega)] at hk; cases hk
        rw [h0] at hk
        exact Or.inr ⟨by omega, by simpa using hk.symm⟩
    rcases part hq with h1 | ⟨h1, h2⟩ <;> rcases part hq' with h3 | ⟨h3, h4⟩
    · exact G.far i j q q' b hij h1 h3 e e'
    · subst h4; exact hd b i q e' h1 e
    · subst h2; exact hd b j q' e h3 e'
    · omega
end
end Go.Proofs.YtfghabjpcjcllaaDoor
/- An append of one case at a step of a region that draws. General, over any program. -/
namespace Go.Proofs.YtfghabjpcjcllaaDoor
open Go.RowKit

section
variable {α : Type} {enc : α → List Value} {size : Nat}
/-- 'append(v, y)' of such things at a step; the block of y is b. -/
theorem step_append_flat_one {P : Program} {z : Value} {t e : TypeId} {by_ : Nat} (he : Enc enc size) (hsz : 0 < size) (ht : P.underlying t = some (.slice e)) (hinfo : (P.info? e).map (fun i => (i.zero, i.size, i.bytes)) = some (some z, size, by_)) (hzs : z.cells.size = size) (hby : by_ ≤ 100)
    {w : World} {ops : Array Oper} {o : Oper} {a : Act} {K : Act → World → Prop} {Q : Exit → Act → World → Prop} {E : Prop} (hgd : o.guard = none) (s x : Operand)
    (ho : o.op = .call { callee := .builtin .append, args := #[s, x], argTypes := #[t, t] }) (base : Nat) (v : Value) (L : List α) (n : Nat) (hs : a.eval s = v) (hown : w.ownsRow base e size v n (flat enc L)) (b : Nat) (y : α)
    (hx : a.eval x = .slice (some ⟨b, 0, none⟩) 1 1) (hr : w.heap[b]? = some (.cells (enc y).toArray e (0, 0))) (n' : Nat) (hn' : n + 1 = n') (hl : n' ≤ 1000000) (hb : base ≤ w.heap.size)
    (h : ∀ g c w', base ≤ g → Hid (w'.ownsRow base e size (.slice (some ⟨g, 0, none⟩) n' c) n' (flat enc (L ++ [y]))) → Hid (Turn (fun i => v.ownBlock = some i) w w') → Hid (v.ownBlock = some g ∨ w.heap.size ≤ g) → K (a.put o.dst (.slice (some ⟨g, 0, none⟩) n' c)) w') :
    if Region.wanted o (yielded ops a.tmps) = true then Oper.wp P o a w K Q else E := by
  have hw : Region.wanted o (yielded ops a.tmps) = true := by simp [Region.wanted, hgd]
  rw [if_pos hw]
  subst hn'
  obtain ⟨i0, hi, hz0, hz1, hz2⟩ := info_parts hinfo
  have hbb : (n + 1) * by_ ≤ 1000000 * 100 := Nat.mul_le_mul hl hby
  have hnews : ∀ (j : Nat) (u : Value), (flat enc [y])[j]? = some u → w.cell? ((⟨b, 0, none⟩ : Addr).add j) = some u := by
    intro j u hu
    rw [flat_one] at hu
    rw [Addr.add_lit, Nat.zero_add]
    unfold World.cell?
    rw [hr]
    simpa using hu
  obtain ⟨v', w', hrun, h1, h2, _, h3⟩ := run_append_own_at (P := P) w base t o.type e i0 z size by_ ht hi hz0 hz1 hz2 hzs hsz v n (flat enc L) hown ⟨b, 0, none⟩ 1 1 (flat enc [y]) (by rw [flat_length he]; rfl) hnews (fun u hu => flat_one' he hu) (by unfold maxLen; omega) (by omega) hb
  unfold Oper.wp execOp
  simp only [ho, resolve, invoke, builtin, Sem.run_bind, Sem.run_pure, Result.andThen_ok, List.map_toArray, List.map_cons, List.map_nil, hs, hx, hrun]
  rw [← flat_append] at h1
  rcases h1.2 with ⟨_, h0⟩ | ⟨g, cap, cur, rfl, hb', _⟩
  · omega
  · refine h g cap w' hb' h1 ((Turn.refl _ w).grown h2 (fun i hi => .inl hi)) ?_
    rcases h3 with h4 | h4
    · exact Or.inl h4.symm
    · right
      have h5 : g = w.heap.size := by simpa [Value.ownBlock] using h4
      omega
end

theorem step_append_case {P : Program} {z : Value} {t eC : TypeId} {by_ base : Nat} (ht : P.underlying t = some (.slice eC)) (hinfo : (P.info? eC).map (fun i => (i.zero, i.size, i.bytes)) = some (some z, 3, by_)) (hzs : z.cells.size = 3) (hby : by_ ≤ 100)
    {w : World} {ops : Array Oper} {o : Oper} {a : Act} {K : Act → World → Prop} {Q : Exit → Act → World → Prop} {E : Prop} (hgd : o.guard = none) (s x : Operand)
    (ho : o.op = .call { callee := .builtin .append, args := #[s, x], argTypes := #[t, t] }) (v : Sl) (L : List Cas) (c : Cas) (hs : a.eval s = v.val) (G : GCs w eC base v L) (b : Nat)
    (hx : a.eval x = .slice (some ⟨b, 0, none⟩) 1 1) (hr : w.heap[b]? = some (.cells #[.bool c.send, .int .i64 c.ch, .int .i64 c.v] eC (0, 0))) (n' : Nat) (hn' : L.length + 1 = n') (hl : n' ≤ 1000000) (hb : base ≤ w.heap.size)
    (h : ∀ g cap w', base ≤ g → Hid (GCs w' eC base ⟨some ⟨g, 0, none⟩, n', cap⟩ (L ++ [c])) → Hid (Turn (fun i => v.val.ownBlock = some i) w w') → K (a.put o.dst (.slice (some ⟨g, 0, none⟩) n' cap)) w') :
    if Region.wanted o (yielded ops a.tmps) = true then Oper.wp P o a w K Q else E := by
  refine step_append_flat_one encCV_ok (by decide) ht hinfo hzs hby hgd s x ho base v.val L L.length hs G.own b c hx hr n' hn' hl hb fun g cap w' hg h1 h2 h3 => h g cap w' hg (Lib.hid ⟨?_, ?_⟩) h2
  · show n' = (L ++ [c]).length
    rw [List.length_append]; exact hn'.symm
  · have e : (L ++ [c]).length = n' := by rw [List.length_append]; exact hn'
    rw [e]
    exact h1.out

end Go.Proofs.YtfghabjpcjcllaaDoor
