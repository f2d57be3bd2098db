/- General facts, over any program: worlds that differ in some blocks alone; slices of integers, of bools and of slices. -/
import Derived.Test.YtenbafkgfdlfpaaRows
import Derived.WalkKit
import Derived.WalkSpells
import Derived.WalkLawsBesides
import Derived.Deep.Draws
import Derived.Laws.AppendOwnNone
import Derived.OwnWalk
import Derived.Laws.CopyOwn
import Derived.Maps.AppendAt
import Derived.Lib.Hide
namespace Go.Proofs.Ytenbafkgfdlfpaa
open Go.RowKit

theorem getD_mem {α : Type} {l : List α} {j : Nat} {d : α} (h : j < l.length) : l.getD j d ∈ l := by
  simp [List.getD, h]

theorem block_add (a : Addr) (n : Nat) : (a.add n).block = a.block := by unfold Addr.add; split <;> rfl

/-- w' is w but for new blocks, and for the blocks of S. -/
structure Turn (S : Nat → Prop) (w w' : World) : Prop where
  os : w'.os = w.os
  tape : w'.tape = w.tape
  output : w'.output = w.output
  size : w.heap.size ≤ w'.heap.size
  block : ∀ i, i < w.heap.size → ¬ S i → w'.heap[i]? = w.heap[i]?

theorem Turn.refl (S : Nat → Prop) (w : World) : Turn S w w := ⟨rfl, rfl, rfl, Nat.le_refl _, fun _ _ _ => rfl⟩
theorem Turn.trans {S : Nat → Prop} {a b c : World} (h : Turn S a b) (k : Turn S b c) : Turn S a c :=
  ⟨k.os.trans h.os, k.tape.trans h.tape, k.output.trans h.output, Nat.le_trans h.size k.size, fun i hi hs => (k.block i (Nat.lt_of_lt_of_le hi h.size) hs).trans (h.block i hi hs)⟩
theorem Turn.mono {S S' : Nat → Prop} {a b : World} (h : Turn S a b) (hs : ∀ i, i < a.heap.size → S i → S' i) : Turn S' a b :=
  ⟨h.os, h.tape, h.output, h.size, fun i hi hn => h.block i hi (fun e => hn (hs i hi e))⟩
theorem Turn.drewN {S : Nat → Prop} {a b : World} (h : Turn S a b) (n : Nat) : Turn S a (b.drewN n) := ⟨h.os, h.tape, h.output, h.size, h.block⟩
theorem Turn.drew {S : Nat → Prop} {a b : World} (h : Turn S a b) : Turn S a b.drew := ⟨h.os, h.tape, h.output, h.size, h.block⟩
theorem Turn.alloc {S : Nat → Prop} {a b : World} (h : Turn S a b) (o : Obj) : Turn S a (b.alloc o) :=
  h.trans ⟨rfl, rfl, rfl, by simp, fun i hi _ => Below.heap_alloc _ _ _ hi⟩
theorem Turn.setCell {S : Nat → Prop} {a b : World} (h : Turn S a b) {p : Addr} (hp : S p.block ∨ a.heap.size ≤ p.block) (u : Value) : Turn S a (b.setCell p u) := by
  refine ⟨h.os, h.tape, h.output, by simpa [World.setCell] using h.size, fun i hi hs => ?_⟩
  rw [Below.heap_setCell _ _ _ _ ?_]
  · exact h.block i hi hs
  · intro e; subst e; rcases hp with hp | hp
    · exact hs hp
    · omega
theorem Turn.grown {S : Nat → Prop} {a b c : World} {row : Option Nat} (h : Turn S a b) (hg : b.grownBy c row) (hr : ∀ k, row = some k → S k ∨ a.heap.size ≤ k) : Turn S a c := by
  refine ⟨hg.os.trans h.os, hg.tape.trans h.tape, hg.output.trans h.output, Nat.le_trans h.size hg.size, fun i hi hs => ?_⟩
  rw [hg.block i (Nat.lt_of_lt_of_le hi h.size) ?_]
  · exact h.block i hi hs
  · intro e
    rcases hr i e.symm with hp | hp
    · exact hs hp
    · omega
/-- Two stretches: what the second one turns is of S, or new. -/
theorem Turn.and {S S' : Nat → Prop} {a b c : World} (h : Turn S a b) (k : Turn S' b c) (hs : ∀ i, i < a.heap.size → S' i → S i) : Turn S a c :=
  ⟨k.os.trans h.os, k.tape.trans h.tape, k.output.trans h.output, Nat.le_trans h.size k.size, fun i hi hn => (k.block i (Nat.lt_of_lt_of_le hi h.size) (fun e => hn (hs i hi e))).trans (h.block i hi hn)⟩
theorem Turn.below {S : Nat → Prop} {a b : World} {B : Nat} (h : Turn S a b) (hB : B ≤ a.heap.size) (hs : ∀ i, i < B → ¬ S i) : Below B a b :=
  ⟨h.os, h.tape, h.output, h.size, fun i hi => h.block i (by omega) (hs i hi)⟩
theorem Turn.cell {S : Nat → Prop} {a b : World} (h : Turn S a b) {p : Addr} (hp : ¬ S p.block) {v : Value} (hv : a.cell? p = some v) : b.cell? p = some v :=
  (World.cell?_of_block (h.block _ (World.block_lt_of_cell? a p hv) hp)).trans hv
theorem Turn.heap {S : Nat → Prop} {a b : World} (h : Turn S a b) {i : Nat} (hp : ¬ S i) {o : Obj} (hv : a.heap[i]? = some o) : b.heap[i]? = some o :=
  (h.block _ (Array.getElem?_eq_some_iff.1 hv).1 hp).trans hv

theorem heap_setCell_at {w : World} {b o : Nat} {c : Array Value} {t : TypeId} {f : Nat × Nat} (h : w.heap[b]? = some (.cells c t f)) (v : Value) :
    (w.setCell ⟨b, o, none⟩ v).heap[b]? = some (.cells (c.setIfInBounds o v) t f) := by
  simp [World.setCell, Array.getElem?_modify, h]

/-- The slice at ao reads as the numbers L. -/
def Ints (k : IntKind) (w : World) (ao : Option Addr) (L : List Int) : Prop :=
  ∀ j, j < L.length → ∃ a, ao = some a ∧ w.cell? (a.add j) = some (.int k (L.getD j 0))
theorem Ints.turn {k : IntKind} {S : Nat → Prop} {a b : World} {ao : Option Addr} {L : List Int} (h : Ints k a ao L) (t : Turn S a b) (hs : ∀ ad, ao = some ad → ¬ S ad.block) : Ints k b ao L := by
  intro j hj
  obtain ⟨ad, e, hc⟩ := h j hj
  refine ⟨ad, e, t.cell ?_ hc⟩
  rw [block_add]
  exact hs ad e


/-- A slice of integers that came in, as the frame tells it: its elements. -/
theorem row_ints {k : IntKind} {w : World} {a : Option Addr} {len cap : Nat} {zs : List Int}
    (h : (a = none ∧ len = 0 ∧ cap = 0 ∧ zs = []) ∨ ∃ x, a = some x ∧ len ≤ cap ∧ cap ≤ maxLen ∧ zs.length = cap ∧ (∀ i, i < zs.length → w.cell? (x.add i) = some (.int k (zs.getD i 0))) ∧ ∀ n ∈ zs, (Lit.int k n).wf = true) :
    ∃ L : List Int, L.length = len ∧ Ints k w a L ∧ (∀ n ∈ L, (Lit.int k n).wf = true) ∧ L.length ≤ maxLen := by
  rcases h with ⟨rfl, rfl, rfl, rfl⟩ | ⟨x, rfl, hl, hm, hz, hc, hw⟩
  · exact ⟨[], rfl, fun j hj => by simp at hj, by simp, by simp⟩
  · refine ⟨zs.take len, by simp; omega, fun j hj => ⟨x, rfl, ?_⟩, fun n hn => hw n (List.mem_of_mem_take hn), by simp; omega⟩
    have hj' : j < len := by simp at hj; omega
    rw [hc j (by omega)]
    simp [List.getD, hj']

/-- 'append(out, src...)', out the call's own row, src any slice of integers that is read: nil or not. -/
theorem wpList_append_ints {P : Program} {w : World} {ops : Array Oper} {rest : List Oper} {o : Oper} {a : Act} {Q : Exit → Act → World → Prop} (hgd : o.guard = none) (s x : Operand) (t : TypeId)
    (ho : o.op = .call { callee := .builtin .append, args := #[s, x], argTypes := #[t, t] })
    (base : Nat) (e : TypeId) (i : TypeInfo) (z : Value) (bytes : Nat) (ht : P.underlying t = some (.slice e)) (hi : P.info? e = some i) (hz : i.zero = some z) (hsize : i.size = 1) (hby : i.bytes = bytes) (hzs : z.cells.size = 1)
    (v : Value) (n : Nat) (xs : List Value) (hs : a.eval s = v) (hown : w.ownsRow base e 1 v n xs)
    (k : IntKind) (ao : Option Addr) (c : Nat) (L : List Int) (hx : a.eval x = .slice ao L.length c) (hnil : ao = none → c = 0) (hr : Ints k w ao L)
    (h63 : n + L.length ≤ maxLen) (hbytes : (n + L.length) * bytes ≤ 140737488355328) (hbase : base ≤ w.heap.size)
    (h : ∀ v' w', w'.ownsRow base e 1 v' (n + L.length) (xs ++ L.map (Value.int k)) → w.grownBy w' v.ownBlock → wpList P ops Q rest (a.put o.dst v') w') : wpList P ops Q (o :: rest) a w := by
  cases ao with
  | none =>
    have hL : L = [] := by
      cases L with
      | nil => rfl
      | cons y r => obtain ⟨ad, e, _⟩ := hr 0 (by simp); cases e
    subst hL
    have hc := hnil rfl
    subst hc
    exact wpList_append_own_none hgd s x t ho base e i 1 ht hi v n xs hs hown hx (h v w (by simpa using hown) (World.grownBy.refl _ _))
  | some ad =>
    refine wpList_append_own w hgd s x t ho base e i z 1 bytes ht hi hz hsize hby hzs (by decide) v n xs hs hown ad L.length c (L.map (Value.int k)) hx (by simp) ?_ ?_ h63 hbytes hbase (fun v' w' h1 h2 _ => h v' w' h1 h2)
    · intro j u hu
      rw [List.getElem?_map] at hu
      obtain ⟨y, hy, rfl⟩ := Option.map_eq_some_iff.1 hu
      obtain ⟨hj, hy'⟩ := List.getElem?_eq_some_iff.1 hy
      obtain ⟨ad', e', hc⟩ := hr j hj
      cases e'
      rw [hc]
      simp [List.getD, hy]
    · intro u hu
      obtain ⟨y, _, rfl⟩ := List.mem_map.1 hu
      rfl

/-- What such a row is good for: it reads as its numbers, and each of its cells may be written. -/
theorem ints_of_own {w : World} {base : Nat} {e : TypeId} {k : IntKind} {v : Value} {L : List Int} (h : w.ownsRow base e 1 v L.length (L.map (Value.int k))) :
    ∃ ao c, v = .slice ao L.length c ∧ Ints k w ao L ∧ L.length ≤ c ∧ c ≤ maxLen ∧ (0 < L.length → ∃ g, ao = some ⟨g, 0, none⟩ ∧ base ≤ g ∧ ∃ cur, w.heap[g]? = some (.cells cur e (0, 0)) ∧ ∀ j, j < L.length → cur[j]? = some (.int k (L.getD j 0))) := by
  rcases h.2 with ⟨rfl, h0⟩ | ⟨g, cap, cur, rfl, hb, hh, hc, hm, hs, ht⟩
  · have hL : L = [] := List.eq_nil_of_length_eq_zero h0
    subst hL
    exact ⟨none, 0, rfl, fun j hj => by simp at hj, by simp, by simp, fun h => by simp at h⟩
  · have hcur : ∀ j, j < L.length → cur[j]? = some (.int k (L.getD j 0)) := by
      intro j hj
      have := congrArg (fun l : List Value => l[j]?) ht
      simp only [Nat.mul_one, List.getElem?_take, hj, if_true, List.getElem?_map] at this
      rw [Array.getElem?_toList] at this
      rw [this]
      simp [List.getD, hj]
    refine ⟨some ⟨g, 0, none⟩, cap, rfl, fun j hj => ⟨_, rfl, ?_⟩, hc, hm, fun _ => ⟨g, rfl, hb, cur, hh, hcur⟩⟩
    rw [Addr.add_lit]
    simp [World.cell?, hh, hcur j hj]

theorem wf_u16 {x : Int} (h : (Lit.int .u16 x).wf = true) : 0 ≤ x ∧ x ≤ 65535 := by
  simpa [Lit.wf, IntKind.min, IntKind.max, IntKind.signed, IntKind.bits] using h
theorem wf_i64 {x : Int} (h : (Lit.int .i64 x).wf = true) : -9223372036854775808 ≤ x ∧ x ≤ 9223372036854775807 := by
  simpa [Lit.wf, IntKind.min, IntKind.max, IntKind.signed, IntKind.bits] using h

theorem ret_int {k : IntKind} {a b : Int} (h : a = b) : Ending.returned (.int k a) = .returned (.int k b) := by rw [h]
theorem ret_bool {a b : Bool} (h : a = b) : Ending.returned (.bool a) = .returned (.bool b) := by rw [h]
theorem ret_pair {k : IntKind} {a b : Int} {c d : Bool} (h : a = b) (h' : c = d) : Ending.returned (.tuple #[.int k a, .bool c]) = .returned (.tuple #[.int k b, .bool d]) := by rw [h, h']

/-- Block g is just the numbers L, of kind k and type e. -/
def Row (k : IntKind) (e : TypeId) (w : World) (g : Nat) (L : List Int) : Prop := w.heap[g]? = some (.cells (L.map (Value.int k)).toArray e (0, 0))
section
variable {k : IntKind} {e : TypeId} {w w' : World} {g : Nat} {L : List Int}
theorem Row.cell (h : Row k e w g L) {i : Nat} (hi : i < L.length) : w.cell? ⟨g, i, none⟩ = some (.int k (L.getD i 0)) := by
  unfold Row at h
  simp [World.cell?, h, hi]
theorem Row.frozen (h : Row k e w g L) (i : Nat) : w.frozen? ⟨g, i, none⟩ = false := by
  unfold Row at h
  simp [World.frozen?, h]
theorem Row.set (h : Row k e w g L) (i : Nat) (x : Int) : Row k e (w.setCell ⟨g, i, none⟩ (.int k x)) g (L.set i x) := by
  unfold Row at h ⊢
  rw [heap_setCell_at h]
  simp [List.map_set]
theorem Row.far (h : Row k e w g L) {p : Addr} (hp : g ≠ p.block) (v : Value) : Row k e (w.setCell p v) g L := (Below.heap_setCell w p v g hp).trans h
theorem Row.turn {S : Nat → Prop} (h : Row k e w g L) (t : Turn S w w') (hg : ¬ S g) : Row k e w' g L := t.heap hg h
theorem Row.lt (h : Row k e w g L) : g < w.heap.size := (Array.getElem?_eq_some_iff.1 h).1
theorem Row.drewN (h : Row k e w g L) (n : Nat) : Row k e (w.drewN n) g L := h
theorem Row.alloc (h : Row k e w g L) (o : Obj) : Row k e (w.alloc o) g L := (Below.heap_alloc w o g h.lt).trans h
theorem Row.own {base : Nat} (h : Row k e w g L) (hb : base ≤ g) (hm : L.length ≤ maxLen) : w.ownsRow base e 1 (.slice (some ⟨g, 0, none⟩) L.length L.length) L.length (L.map (Value.int k)) :=
  ⟨by simp, .inr ⟨g, L.length, _, rfl, hb, h, Nat.le_refl _, hm, by simp, by rw [Nat.mul_one]; exact List.take_of_length_le (by simp)⟩⟩
theorem Row.ints (h : Row k e w g L) : Ints k w (some ⟨g, 0, none⟩) L := by
  intro j hj
  refine ⟨_, rfl, ?_⟩
  rw [Addr.add_lit]
  simpa using h.cell hj
theorem row_made {base n : Nat} (h : w.ownsRow base e 1 (.slice (some ⟨g, 0, none⟩) n n) n (List.replicate n (.int k 0))) : Row k e w g (List.replicate n 0) := by
  rcases h.2 with ⟨h1, _⟩ | ⟨g', cap, cur, h1, _, hh, _, _, hs, ht⟩
  · cases h1
  · cases h1
    have e : cur = ((List.replicate n (0 : Int)).map (Value.int k)).toArray := by
      apply Array.toList_inj.1
      have hn : n * 1 = cur.toList.length := by simpa using hs.symm
      rw [hn, List.take_length] at ht
      rw [ht]; simp
    unfold Row
    rw [hh, e]
end

/-- A fresh slice of integers: of nobody else's memory, all that was stands as it stood. -/
def Fresh (k : IntKind) (e : TypeId) (w w' : World) (v : Value) (L : List Int) : Prop := w'.ownsRow w.heap.size e 1 v L.length (L.map (Value.int k)) ∧ Turn (fun _ => False) w w'
theorem Fresh.ints {k : IntKind} {e : TypeId} {w w' : World} {v : Value} {L : List Int} (h : Fresh k e w w' v L) : ∃ ao c, v = .slice ao L.length c ∧ Ints k w' ao L ∧ (∀ ad, ao = some ad → w.heap.size ≤ ad.block) ∧ L.length ≤ c ∧ c ≤ maxLen ∧ (ao = none → c = 0) := by
  rcases h.1.2 with ⟨rfl, h0⟩ | ⟨g, cap, cur, rfl, hb, hh, hc, hm, hs, ht⟩
  · have hL : L = [] := List.eq_nil_of_length_eq_zero h0
    subst hL
    exact ⟨none, 0, rfl, fun j hj => by simp at hj, by simp, by simp, by simp, by simp⟩
  · obtain ⟨ao, c, e, hi, h1, h2, _⟩ := ints_of_own h.1
    cases e
    exact ⟨_, _, rfl, hi, fun ad e => by cases e; exact hb, h1, h2, by simp⟩
theorem fresh_empty (k : IntKind) (e : TypeId) (w : World) : Fresh k e w (w.alloc (.cells #[] e)) (.slice (some ⟨w.heap.size, 0, none⟩) 0 0) [] :=
  ⟨World.ownsRow_made w #[] 0 (Nat.le_refl _) (Nat.zero_le _) rfl, (Turn.refl _ _).alloc _⟩

theorem made_ints (k : IntKind) (n : Nat) : (madeCells (Value.int k 0).cells (n * 1)).toList = List.replicate n (.int k 0) := by
  apply List.ext_getElem?
  intro i
  rw [Nat.mul_one]
  by_cases h : i < n
  · simp [madeCells, Value.cells, h, Nat.mod_one]
  · simp [madeCells, Value.cells, h]

/-- 'make([]E, n)', E a kind of integers; t the slice's type, e the element's. -/
theorem wpList_make_ints {P : Program} {k : IntKind} {t e : TypeId} {by_ : Nat} (ht : P.underlying t = some (.slice e)) (hinfo : (P.info? e).map (fun i => (i.zero, i.size, i.bytes)) = some (some (.int k 0), 1, by_)) (hby : by_ ≤ 24)
    {w : World} {ops : Array Oper} {rest : List Oper} {o : Oper} {a : Act} {Q : Exit → Act → World → Prop} (hg : o.guard = none) (l c : Operand) (hop : o.op = Op.makeSlice t l c)
    (n : Nat) (hl : a.eval l = .int .i64 n) (hc : a.eval c = .int .i64 n) (hn : n ≤ 1000000)
    (hK : ∀ w', Hid (Row k e w' w.heap.size (List.replicate n 0)) → Hid (Turn (fun _ => False) w w') → w.heap.size < w'.heap.size → wpList P ops Q rest (a.put o.dst (.slice (some ⟨w.heap.size, 0, none⟩) n n)) w') :
    wpList P ops Q (o :: rest) a w := by
  obtain ⟨i0, hi, hz0, hz1, hz2⟩ := info_parts hinfo
  have hb : i0.bytes * n ≤ 24 * 1000000 := Nat.mul_le_mul (by omega) hn
  refine wpList_make_full w hg l c t hop w.heap.size e i0 (.int k 0) 1 ht hi hz0 hz1 .i64 .i64 n n n hl hc rfl rfl (by omega) (by unfold maxLen; omega) (Nat.le_refl _) ?_
  intro w1 hown hgrow
  rw [made_ints] at hown
  have hr := row_made hown
  exact hK w1 hr ((Turn.refl _ _).grown hgrow (by simp)) hr.lt

/-- copy over a row of just as many. -/
theorem wpList_copy_ints {P : Program} {k : IntKind} {t e : TypeId} (ht : P.underlying t = some (.slice e)) (hsz : (P.info? e).map (·.size) = some 1)
    {w : World} {ops : Array Oper} {rest : List Oper} {o : Oper} {a : Act} {Q : Exit → Act → World → Prop} (hgd : o.guard = none) (d s : Operand)
    (ho : o.op = .call { callee := .builtin .copy, args := #[d, s], argTypes := #[t, t] }) (g : Nat) (ao : Option Addr) (cap dc : Nat) (C L : List Int) (hd : a.eval d = .slice (some ⟨g, 0, none⟩) L.length dc) (hs : a.eval s = .slice ao L.length cap)
    (hrow : Row k e w g C) (hlen : C.length = L.length) (hr : Ints k w ao L) (S : Nat → Prop) (w0 : World) (tn : Turn S w0 w) (hS : S g ∨ w0.heap.size ≤ g)
    (h : ∀ w', Hid (Row k e w' g L) → Hid (Turn (fun i => i = g) w w') → Hid (Turn S w0 w') → wpList P ops Q rest (a.put o.dst (goInt L.length)) w') : wpList P ops Q (o :: rest) a w := by
  by_cases h0 : L.length = 0
  · have hL : L = [] := List.eq_nil_of_length_eq_zero h0
    have hC : C = [] := List.eq_nil_of_length_eq_zero (by omega)
    subst hL
    subst hC
    refine wpList_copy_nothing hgd d s t t ho e ht hsz _ _ 0 _ 0 _ hd hs (by simp) ?_
    exact h w hrow (Turn.refl _ _) tn
  · obtain ⟨ad, e1, _⟩ := hr 0 (by omega)
    subst e1
    refine wpList_copy_own hgd d s t t ho e ht hsz g 0 _ _ ad _ _ hd hs (C.map (Value.int k)).toArray e hrow (L.map (Value.int k)) (by simp) ?_ (by simp [hlen]) (by simp [Value.oneCell']) ?_
    · intro j v hv
      rw [List.getElem?_map] at hv
      obtain ⟨x, hx, rfl⟩ := Option.map_eq_some_iff.1 hv
      obtain ⟨hj, hx'⟩ := List.getElem?_eq_some_iff.1 hx
      obtain ⟨a', e', hc⟩ := hr j hj
      cases e'
      rw [hc]
      simp [List.getD, hx]
    · have e1 : (((C.map (Value.int k)).toArray.toList.take 0) ++ (L.map (Value.int k) ++ (C.map (Value.int k)).toArray.toList.drop (0 + (L.map (Value.int k)).length))) = L.map (Value.int k) := by
        simp [← hlen]
      rw [e1, List.length_map]
      have t2 : Turn (fun i => i = g) w (w.setRow g (L.map (Value.int k)).toArray) := ⟨rfl, rfl, rfl, by simp [World.setRow], fun k hk hn => setRow_other w g k _ hn⟩
      exact h _ (setRow_heap w g _ _ e _ hrow) t2 (tn.and t2 (fun i hi e => by
        subst e
        rcases hS with h | h
        · exact h
        · omega))

/-! Rows of the call's own. -/
theorem own_turn {w w' : World} {base n size : Nat} {e : TypeId} {v : Value} {xs : List Value} {S : Nat → Prop} (h : w.ownsRow base e size v n xs) (t : Turn S w w') (hv : ∀ k, v.ownBlock = some k → ¬ S k) : w'.ownsRow base e size v n xs := by
  refine ⟨h.1, ?_⟩
  rcases h.2 with h1 | ⟨g, cap, cur, rfl, h2, h3, h4⟩
  · exact .inl h1
  · exact .inr ⟨g, cap, cur, rfl, h2, t.heap (hv g rfl) h3, h4⟩
theorem own_type {w : World} {base n size : Nat} {e : TypeId} {v : Value} {xs : List Value} (h : w.ownsRow base e size v n xs) : ∀ k, v.ownBlock = some k → ∃ cur, w.heap[k]? = some (.cells cur e (0, 0)) := by
  intro k hk
  rcases h.2 with ⟨rfl, _⟩ | ⟨g, cap, cur, rfl, h2, h3, h4⟩
  · simp [Value.ownBlock] at hk
  · simp [Value.ownBlock] at hk
    subst hk
    exact ⟨cur, h3⟩
theorem own_less {w : World} {base base' n size : Nat} {e : TypeId} {v : Value} {xs : List Value} (h : w.ownsRow base e size v n xs) (hb : base' ≤ base) : w.ownsRow base' e size v n xs := by
  refine ⟨h.1, ?_⟩
  rcases h.2 with h1 | ⟨g, cap, cur, h1, h2, h3⟩
  · exact .inl h1
  · exact .inr ⟨g, cap, cur, h1, Nat.le_trans hb h2, h3⟩
theorem own_form {w : World} {base n size : Nat} {e : TypeId} {v : Value} {xs : List Value} (h : w.ownsRow base e size v n xs) (hn : 0 < n) : ∃ g c, v = .slice (some ⟨g, 0, none⟩) n c ∧ base ≤ g ∧ n ≤ c ∧ c ≤ maxLen := by
  rcases h.2 with ⟨_, h1⟩ | ⟨g, cap, cur, h1, h2, _, h3, h4, _⟩
  · omega
  · exact ⟨g, cap, h1, h2, h3, h4⟩
theorem own_slice {w : World} {base n size : Nat} {e : TypeId} {v : Value} {xs : List Value} (h : w.ownsRow base e size v n xs) : ∃ ao c, v = .slice ao n c ∧ n ≤ c ∧ c ≤ maxLen ∧ (ao = none → c = 0) ∧ ∀ a, ao = some a → ∃ g, a = ⟨g, 0, none⟩ ∧ base ≤ g ∧ g < w.heap.size := by
  rcases h.2 with ⟨rfl, rfl⟩ | ⟨g, cap, cur, rfl, h2, h3, h4, h5, _⟩
  · exact ⟨none, 0, rfl, Nat.le_refl _, Nat.zero_le _, fun _ => rfl, by simp⟩
  · exact ⟨_, cap, rfl, h4, h5, by simp, fun a e => by cases e; exact ⟨g, rfl, h2, (Array.getElem?_eq_some_iff.1 h3).1⟩⟩
theorem own_cells {k : IntKind} {w : World} {base g n c : Nat} {e : TypeId} {L : List Int} (h : w.ownsRow base e 1 (.slice (some ⟨g, 0, none⟩) n c) n (L.map (Value.int k))) {j : Nat} (hj : j < n) :
    w.cell? ⟨g, j, none⟩ = some (.int k (L.getD j 0)) ∧ w.frozen? ⟨g, j, none⟩ = false := by
  have hl : L.length = n := by have := h.1; simpa using this
  subst hl
  obtain ⟨ao, c', e, hi, _, _, hb⟩ := ints_of_own h
  cases e
  obtain ⟨g', e, hg, cur, hh, hc⟩ := hb (by omega)
  cases e
  exact ⟨by simp [World.cell?, hh, hc j hj], by simp [World.frozen?, hh]⟩
theorem own_reads {k : IntKind} {w : World} {base n d : Nat} {e : TypeId} {bo : Option Addr} {l : List Int} (h : w.ownsRow base e 1 (.slice bo n d) n (l.map (Value.int k))) : l.length = n ∧ Ints k w bo l ∧ n ≤ d ∧ (bo = none → d = 0) := by
  have hl : l.length = n := by have := h.1; simpa using this
  subst hl
  refine ⟨rfl, ?_⟩
  obtain ⟨ao, c, e, hi, h1, _⟩ := ints_of_own h
  cases e
  refine ⟨hi, h1, fun e => ?_⟩
  subst e
  rcases h.2 with ⟨h2, _⟩ | ⟨g, cap, cur, h2, _⟩
  · injection h2
  · injection h2 with h3; cases h3
theorem own_put {k : IntKind} {w : World} {base g n c : Nat} {e : TypeId} {L M : List Int} (h : w.ownsRow base e 1 (.slice (some ⟨g, 0, none⟩) n c) n (L.map (Value.int k))) (j : Nat) (x : Int) (eM : L.set j x = M) :
    (w.setCell ⟨g, j, none⟩ (.int k x)).ownsRow base e 1 (.slice (some ⟨g, 0, none⟩) n c) n (M.map (Value.int k)) := by
  have := (h.stored j (.int k x)).1
  rwa [← List.map_set, eM] at this

/-- 'append(v, y)' onto a row of the call's own; the one-cell block of y is made just ahead. -/
theorem wpList_append_one {P : Program} {k : IntKind} {t e : TypeId} {by_ : Nat} (ht : P.underlying t = some (.slice e)) (hinfo : (P.info? e).map (fun i => (i.zero, i.size, i.bytes)) = some (some (.int k 0), 1, by_)) (hby : by_ ≤ 24)
    {w0 : World} {ops : Array Oper} {rest : List Oper} {o : Oper} {a : Act} {Q : Exit → Act → World → Prop} (hgd : o.guard = none) (s x : Operand)
    (ho : o.op = .call { callee := .builtin .append, args := #[s, x], argTypes := #[t, t] }) (base : Nat) (v : Value) (L : List Int) (n : Nat) (y : Int) (hs : a.eval s = v) (hown : w0.ownsRow base e 1 v L.length (L.map (Value.int k))) (hln : L.length = n)
    (hx : a.eval x = .slice (some ⟨w0.heap.size, 0, none⟩) 1 1) (hl : n ≤ 1000000) (hb : base ≤ w0.heap.size)
    (h : ∀ g c w', base ≤ g → Hid (w'.ownsRow base e 1 (.slice (some ⟨g, 0, none⟩) (n + 1) c) (n + 1) ((L ++ [y]).map (Value.int k))) → Hid (Turn (fun i => v.ownBlock = some i) w0 w') → Hid (v.ownBlock = some g ∨ g = w0.heap.size + 1) → wpList P ops Q rest (a.put o.dst (.slice (some ⟨g, 0, none⟩) (n + 1) c)) w') :
    wpList P ops Q (o :: rest) a (w0.alloc (.cells #[.int k y] e)) := by
  obtain ⟨i0, hi, hz0, hz1, hz2⟩ := info_parts hinfo
  subst hln
  have hbb : (L.length + 1) * by_ ≤ 1000001 * 24 := Nat.mul_le_mul (by omega) hby
  refine wpList_append_own_at _ hgd s x t ho base e i0 (.int k 0) 1 by_ ht hi hz0 hz1 hz2 rfl (by decide) v L.length (L.map (Value.int k)) hs (hown.alloc _) ⟨w0.heap.size, 0, none⟩ 1 1 [.int k y] hx rfl (cell_one_new w0 _ e) (by simp [Value.oneCell']) (by unfold maxLen; omega) (by omega) (by simp; omega) ?_
  intro v' w' h1 h2 _ h5
  have tn : Turn (fun i => v.ownBlock = some i) w0 w' := ((Turn.refl _ w0).alloc _).grown h2 (fun k hk => .inl hk)
  have hm : L.map (Value.int k) ++ [.int k y] = (L ++ [y]).map (Value.int k) := by simp
  rw [hm] at h1
  rcases h1.2 with ⟨_, h0⟩ | ⟨g, cap, cur, rfl, hb', _⟩
  · omega
  · refine h g cap w' hb' h1 tn ?_
    rcases h5 with h5 | h5
    · exact .inl h5.symm
    · right
      simp [Value.ownBlock] at h5
      exact h5

/-! Slices of slices of the call's own: elements of type e and kind k, slices of them of type t. -/
def Items (k : IntKind) (e : TypeId) (w : World) (base : Nat) (xs : List Value) (LL : List (List Int)) : Prop :=
  xs.length = LL.length ∧ ∀ j, j < LL.length → ∃ u, xs[j]? = some u ∧ w.ownsRow base e 1 u (LL.getD j []).length ((LL.getD j []).map (Value.int k))
def Lists (k : IntKind) (e t : TypeId) (w : World) (base : Nat) (v : Value) (LL : List (List Int)) : Prop := ∃ xs, w.ownsRow base t 1 v LL.length xs ∧ Items k e w base xs LL
section
variable {k : IntKind} {e t : TypeId} {w w' : World} {base : Nat} {xs : List Value} {LL : List (List Int)} {S : Nat → Prop} {v : Value}
theorem Items.turn (hne : e ≠ t) (h : Items k e w base xs LL) (tn : Turn S w w') (hs : ∀ i, i < w.heap.size → S i → ∃ cur, w.heap[i]? = some (.cells cur t (0, 0))) : Items k e w' base xs LL := by
  refine ⟨h.1, fun j hj => ?_⟩
  obtain ⟨u, hu, ho⟩ := h.2 j hj
  refine ⟨u, hu, own_turn ho tn (fun k hk hS => ?_)⟩
  obtain ⟨cur, hc⟩ := own_type ho k hk
  obtain ⟨cur', hc'⟩ := hs k (ho.lt k hk).2 hS
  rw [hc] at hc'
  injection hc' with hc'
  injection hc' with _ h3
  exact hne h3
theorem Items.snoc (h : Items k e w base xs LL) {u : Value} {l : List Int} (ho : w.ownsRow base e 1 u l.length (l.map (Value.int k))) : Items k e w base (xs ++ [u]) (LL ++ [l]) := by
  refine ⟨by simp [h.1], fun j hj => ?_⟩
  by_cases hj' : j < LL.length
  · obtain ⟨u', hu, ho'⟩ := h.2 j hj'
    have e : (LL ++ [l]).getD j [] = LL.getD j [] := by simp [List.getD_eq_getElem?_getD, List.getElem?_append_left hj']
    rw [e]
    exact ⟨u', by rw [List.getElem?_append_left (by rw [h.1]; exact hj')]; exact hu, ho'⟩
  · have hj2 : j = LL.length := by simp at hj; omega
    subst hj2
    have e : (LL ++ [l]).getD LL.length [] = l := by simp [List.getD_eq_getElem?_getD]
    rw [e]
    exact ⟨u, by rw [← h.1]; simp, ho⟩
theorem Items.less {base' : Nat} (h : Items k e w base xs LL) (hb : base' ≤ base) : Items k e w base' xs LL := by
  refine ⟨h.1, fun j hj => ?_⟩
  obtain ⟨u, hu, ho⟩ := h.2 j hj
  exact ⟨u, hu, own_less ho hb⟩
theorem Lists.turn (hne : e ≠ t) (h : Lists k e t w base v LL) (tn : Turn S w w') (hv : ∀ k, v.ownBlock = some k → ¬ S k) (hs : ∀ i, i < w.heap.size → S i → ∃ cur, w.heap[i]? = some (.cells cur t (0, 0))) : Lists k e t w' base v LL := by
  obtain ⟨xs, h1, h2⟩ := h
  exact ⟨xs, own_turn h1 tn hv, h2.turn hne tn hs⟩
/-- Nothing that was is turned. -/
theorem Lists.new (h : Lists k e t w base v LL) (tn : Turn (fun _ => False) w w') : Lists k e t w' base v LL := by
  obtain ⟨xs, h1, h2⟩ := h
  refine ⟨xs, own_turn h1 tn (fun _ _ => id), h2.1, fun j hj => ?_⟩
  obtain ⟨u, hu, ho⟩ := h2.2 j hj
  exact ⟨u, hu, own_turn ho tn (fun _ _ => id)⟩
/-- What is turned lies below. -/
theorem Lists.low (h : Lists k e t w base v LL) (tn : Turn S w w') (hs : ∀ i, S i → i < base) : Lists k e t w' base v LL := by
  obtain ⟨xs, h1, h2⟩ := h
  refine ⟨xs, own_turn h1 tn (fun k hk hS => ?_), h2.1, fun j hj => ?_⟩
  · have := (h1.lt k hk).1; have := hs k hS; omega
  · obtain ⟨u, hu, ho⟩ := h2.2 j hj
    exact ⟨u, hu, own_turn ho tn (fun k hk hS => by have := (ho.lt k hk).1; have := hs k hS; omega)⟩
theorem Lists.less {base' : Nat} (h : Lists k e t w base v LL) (hb : base' ≤ base) : Lists k e t w base' v LL := by
  obtain ⟨xs, h1, h2⟩ := h
  exact ⟨xs, own_less h1 hb, h2.less hb⟩
theorem Lists.lt (h : Lists k e t w base v LL) : ∀ k, v.ownBlock = some k → base ≤ k ∧ k < w.heap.size := by
  obtain ⟨xs, h1, _⟩ := h
  exact h1.lt
theorem Lists.type (h : Lists k e t w base v LL) : ∀ k, v.ownBlock = some k → ∃ cur, w.heap[k]? = some (.cells cur t (0, 0)) := by
  obtain ⟨xs, h1, _⟩ := h
  exact own_type h1
theorem Lists.slice (h : Lists k e t w base v LL) : ∃ ao c, v = .slice ao LL.length c ∧ LL.length ≤ c ∧ c ≤ maxLen ∧ (ao = none → c = 0) := by
  obtain ⟨xs, h1, _⟩ := h
  obtain ⟨ao, c, h2, h3, h4, h5, _⟩ := own_slice h1
  exact ⟨ao, c, h2, h3, h4, h5⟩
theorem Lists.form (h : Lists k e t w base v LL) (hl : 0 < LL.length) : ∃ g c, v = .slice (some ⟨g, 0, none⟩) LL.length c := by
  obtain ⟨xs, h1, _⟩ := h
  obtain ⟨g, c, h2, _⟩ := own_form h1 hl
  exact ⟨g, c, h2⟩
theorem Lists.some_ {n c : Nat} {ao : Option Addr} (h : Lists k e t w base (.slice ao n c) LL) (hl : 0 < LL.length) : ∃ g, ao = some ⟨g, 0, none⟩ := by
  obtain ⟨g, c, e⟩ := h.form hl
  cases e
  exact ⟨g, rfl⟩
theorem Lists.at_ {g n c : Nat} (h : Lists k e t w base (.slice (some ⟨g, 0, none⟩) n c) LL) {j : Nat} (hj : j < LL.length) :
    ∃ bo d, w.cell? ⟨g, j, none⟩ = some (.slice bo (LL.getD j []).length d) ∧ w.ownsRow base e 1 (.slice bo (LL.getD j []).length d) (LL.getD j []).length ((LL.getD j []).map (Value.int k)) := by
  obtain ⟨xs, h1, h2⟩ := h
  obtain ⟨u, hu, ho⟩ := h2.2 j hj
  have hc := h1.cells (g := g) rfl j u hu
  rw [Addr.add_lit] at hc
  have hc' : w.cell? ⟨g, j, none⟩ = some u := by simpa using hc
  rcases ho.2 with ⟨rfl, h0⟩ | ⟨g', cap, cur, rfl, _⟩
  · rw [h0] at ho ⊢
    exact ⟨none, 0, hc', ho⟩
  · exact ⟨_, _, hc', ho⟩
theorem Lists.made (w : World) : Lists k e t (w.alloc (.cells #[] t)) w.heap.size (.slice (some ⟨w.heap.size, 0, none⟩) 0 0) [] :=
  ⟨[], World.ownsRow_made w #[] 0 (Nat.le_refl _) (Nat.zero_le _) rfl, rfl, fun j hj => by simp at hj⟩
end
theorem own_block (a : Option Addr) (n c : Nat) : (Value.slice a n c).ownBlock = a.map Addr.block := by cases a <;> rfl

/-- 'append(out, l)', out a slice of slices of the call's own. -/
theorem wpList_append_list {P : Program} {k : IntKind} {e t t2 : TypeId} (hne : e ≠ t) (ht : P.underlying t2 = some (.slice t)) (hinfo : (P.info? t).map (fun i => (i.zero, i.size, i.bytes)) = some (some (.slice none 0 0), 1, 24))
    {w0 : World} {ops : Array Oper} {rest : List Oper} {o : Oper} {a : Act} {Q : Exit → Act → World → Prop} (hgd : o.guard = none) (s x : Operand)
    (ho : o.op = .call { callee := .builtin .append, args := #[s, x], argTypes := #[t2, t2] }) (base : Nat) (v u : Value) (LL : List (List Int)) (l : List Int) (hs : a.eval s = v) (hown : Lists k e t w0 base v LL) (hu : w0.ownsRow base e 1 u l.length (l.map (Value.int k)))
    (hx : a.eval x = .slice (some ⟨w0.heap.size, 0, none⟩) 1 1) (hl : LL.length ≤ 1000000) (hb : base ≤ w0.heap.size)
    (h : ∀ v' w', Hid (Lists k e t w' base v' (LL ++ [l])) → Hid (Turn (fun i => v.ownBlock = some i) w0 w') → Hid (v'.ownBlock = v.ownBlock ∨ v'.ownBlock = some (w0.heap.size + 1)) → wpList P ops Q rest (a.put o.dst v') w') :
    wpList P ops Q (o :: rest) a (w0.alloc (.cells #[u] t)) := by
  obtain ⟨i0, hi, hz0, hz1, hz2⟩ := info_parts hinfo
  obtain ⟨xs, h1, h2⟩ := hown
  have hcell : u.oneCell' = true := by
    rcases hu.2 with ⟨rfl, _⟩ | ⟨g, cap, cur, rfl, _⟩ <;> rfl
  refine wpList_append_own_at _ hgd s x t2 ho base t i0 (.slice none 0 0) 1 24 ht hi hz0 hz1 hz2 rfl (by decide) v LL.length xs hs (h1.alloc _) ⟨w0.heap.size, 0, none⟩ 1 1 [u] hx rfl (cell_one_new w0 u t) (by simpa using hcell) (by unfold maxLen; omega) (by omega) (by simp; omega) ?_
  intro v' w' h3 h4 _ h5
  have t1 : Turn (fun i => v.ownBlock = some i) w0 (w0.alloc (.cells #[u] t)) := (Turn.refl _ w0).alloc _
  have tn : Turn (fun i => v.ownBlock = some i) w0 w' := t1.grown h4 (fun k hk => .inl hk)
  refine h v' w' ⟨xs ++ [u], by simpa using h3, ?_⟩ tn (by simpa [Hid] using h5)
  refine (h2.snoc hu).turn hne tn (fun i _ e => own_type h1 i e)

/-- A slice of integers that is read, each of 64 bits. -/
def Wf (L : List Int) : Prop := ∀ x ∈ L, -9223372036854775808 ≤ x ∧ x ≤ 9223372036854775807
theorem Wf.at_ {L : List Int} (h : Wf L) {i : Nat} (hi : i < L.length) : -9223372036854775808 ≤ L.getD i 0 ∧ L.getD i 0 ≤ 9223372036854775807 := h _ (getD_mem hi)
theorem Ints.take {k : IntKind} {w : World} {ao : Option Addr} {L : List Int} (h : Ints k w ao L) (m : Nat) : Ints k w ao (L.take m) := by
  intro j hj
  have hj' : j < m ∧ j < L.length := by simp at hj; omega
  obtain ⟨a, e, hc⟩ := h j hj'.2
  refine ⟨a, e, ?_⟩
  rw [hc]
  simp [List.getD, hj'.1]

theorem Wf.take {L : List Int} (h : Wf L) (m : Nat) : Wf (L.take m) := fun x hx => h x (List.mem_of_mem_take hx)
/-- The slice at ao reads as the bools L. -/
def Bools (w : World) (ao : Option Addr) (L : List Bool) : Prop :=
  ∀ j, j < L.length → ∃ a, ao = some a ∧ w.cell? (a.add j) = some (.bool (L.getD j false))
theorem Bools.turn {S : Nat → Prop} {a b : World} {ao : Option Addr} {L : List Bool} (h : Bools a ao L) (t : Turn S a b) (hs : ∀ ad, ao = some ad → ¬ S ad.block) : Bools b ao L := by
  intro j hj
  obtain ⟨ad, e, hc⟩ := h j hj
  refine ⟨ad, e, t.cell ?_ hc⟩
  rw [block_add]
  exact hs ad e
theorem row_cap {k : IntKind} {w : World} {a : Option Addr} {len cap : Nat} {zs : List Int}
    (h : (a = none ∧ len = 0 ∧ cap = 0 ∧ zs = []) ∨ ∃ x, a = some x ∧ len ≤ cap ∧ cap ≤ maxLen ∧ zs.length = cap ∧ (∀ i, i < zs.length → w.cell? (x.add i) = some (.int k (zs.getD i 0))) ∧ ∀ n ∈ zs, (Lit.int k n).wf = true) : len ≤ cap := by
  rcases h with ⟨_, rfl, rfl, _⟩ | ⟨_, _, h, _⟩
  · exact Nat.le_refl _
  · exact h
/-- A slice of bools that came in: its elements. -/
theorem row_bools {w : World} {a : Option Addr} {len cap : Nat} {B : Nat → Bool}
    (h : (a = none ∧ len = 0 ∧ cap = 0) ∨ ∃ x, a = some x ∧ len ≤ cap ∧ cap ≤ maxLen ∧ ∀ i, i < cap → w.cell? (x.add i) = some (.bool (B i))) :
    ∃ L : List Bool, L.length = len ∧ Bools w a L ∧ L.length ≤ maxLen := by
  rcases h with ⟨rfl, rfl, rfl⟩ | ⟨x, rfl, hl, hm, hc⟩
  · exact ⟨[], rfl, fun j hj => by simp at hj, by simp⟩
  · refine ⟨(List.range len).map B, by simp, fun j hj => ⟨x, rfl, ?_⟩, by simp; omega⟩
    have hj' : j < len := by simpa using hj
    rw [hc j (by omega)]
    simp [List.getD, hj']

/-! Stage 3's additions. -/
theorem ints_drop {k : IntKind} {w : World} {g : Nat} {O : List Int} (h : Ints k w (some ⟨g, 0, none⟩) O) (j : Nat) : Ints k w (some ⟨g, j, none⟩) (O.drop j) := by
  intro i hi
  have hi' : j + i < O.length := by simp at hi; omega
  obtain ⟨a, e, hc⟩ := h (j + i) hi'
  cases e
  refine ⟨_, rfl, ?_⟩
  rw [Addr.add_lit] at hc ⊢
  rw [Nat.zero_add] at hc
  rw [hc]
  simp [List.getD]
theorem Row.drew {k : IntKind} {e : TypeId} {w : World} {g : Nat} {L : List Int} (h : Row k e w g L) : Row k e w.drew g L := h
/-- A slice of n integers S that is new: what a contract's caller needs of a function that makes a slice. -/
def Reads (k : IntKind) (n : Nat) (S : List Int) (w : World) (e : Ending) (w' : World) : Prop :=
  ∃ bo bc, e = .returned (.slice bo n bc) ∧ S.length = n ∧ Ints k w' bo S ∧ (∀ ad, bo = some ad → w.heap.size ≤ ad.block ∧ ad.block < w'.heap.size) ∧ n ≤ bc ∧ (bo = none → bc = 0) ∧ Turn (fun _ => False) w w'
theorem reads_of {k : IntKind} {t : TypeId} {n : Nat} {S : List Int} {w w' : World} {e : Ending} (hn : S.length = n) (h : ∃ v, e = .returned v ∧ Fresh k t w w' v S) : Reads k n S w e w' := by
  obtain ⟨v, rfl, f⟩ := h
  subst hn
  obtain ⟨bo, bc, rfl, hi, hb, hc, _, h0⟩ := f.ints
  refine ⟨bo, bc, rfl, rfl, hi, fun ad e => ⟨hb ad e, ?_⟩, hc, h0, f.2⟩
  subst e
  exact (f.1.lt ad.block (by rw [own_block]; rfl)).2
theorem row_nil {k : IntKind} {w : World} {a : Option Addr} {len cap : Nat} {zs : List Int}
    (h : (a = none ∧ len = 0 ∧ cap = 0 ∧ zs = []) ∨ ∃ x, a = some x ∧ len ≤ cap ∧ cap ≤ maxLen ∧ zs.length = cap ∧ (∀ i, i < zs.length → w.cell? (x.add i) = some (.int k (zs.getD i 0))) ∧ ∀ n ∈ zs, (Lit.int k n).wf = true) : a = none → cap = 0 := by
  intro e
  rcases h with ⟨_, _, h, _⟩ | ⟨_, h, _⟩
  · exact h
  · rw [e] at h; cases h

end Go.Proofs.Ytenbafkgfdlfpaa
