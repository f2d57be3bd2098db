/- Small general facts: worlds that differ in some blocks alone; slices of integers that are read. -/
import Derived.Test.YtlnjomjeafmobaaRows
import Derived.WalkKit
import Derived.WalkSpells
import Derived.WalkLawsBesides
import Derived.Deep.Draws
import Derived.Laws.AppendOwnNone
import Derived.OwnWalk
import Derived.Lib.Hide
namespace Go.Proofs.Ytlnjomjeafmobaa
open Go.RowKit

theorem getD_mem {α : Type} {l : List α} {j : Nat} {d : α} (h : j < l.length) : l.getD j d ∈ l := by
  simp [List.getD, h]

theorem block_add (a : Addr) (n : Nat) : (a.add n).block = a.block := by unfold Addr.add; split <;> rfl

/-- w' is w but for new blocks, and for the blocks of S. -/
structure Turn (S : Nat → Prop) (w w' : World) : Prop where
  os : w'.os = w.os
  tape : w'.tape = w.tape
  output : w'.output = w.output
  size : w.heap.size ≤ w'.heap.size
  block : ∀ i, i < w.heap.size → ¬ S i → w'.heap[i]? = w.heap[i]?

theorem Turn.refl (S : Nat → Prop) (w : World) : Turn S w w := ⟨rfl, rfl, rfl, Nat.le_refl _, fun _ _ _ => rfl⟩
theorem Turn.trans {S : Nat → Prop} {a b c : World} (h : Turn S a b) (k : Turn S b c) : Turn S a c :=
  ⟨k.os.trans h.os, k.tape.trans h.tape, k.output.trans h.output, Nat.le_trans h.size k.size, fun i hi hs => (k.block i (Nat.lt_of_lt_of_le hi h.size) hs).trans (h.block i hi hs)⟩
theorem Turn.mono {S S' : Nat → Prop} {a b : World} (h : Turn S a b) (hs : ∀ i, i < a.heap.size → S i → S' i) : Turn S' a b :=
  ⟨h.os, h.tape, h.output, h.size, fun i hi hn => h.block i hi (fun e => hn (hs i hi e))⟩
theorem Turn.drewN {S : Nat → Prop} {a b : World} (h : Turn S a b) (n : Nat) : Turn S a (b.drewN n) := ⟨h.os, h.tape, h.output, h.size, h.block⟩
theorem Turn.drew {S : Nat → Prop} {a b : World} (h : Turn S a b) : Turn S a b.drew := ⟨h.os, h.tape, h.output, h.size, h.block⟩
theorem Turn.alloc {S : Nat → Prop} {a b : World} (h : Turn S a b) (o : Obj) : Turn S a (b.alloc o) :=
  h.trans ⟨rfl, rfl, rfl, by simp, fun i hi _ => Below.heap_alloc _ _ _ hi⟩
theorem Turn.setCell {S : Nat → Prop} {a b : World} (h : Turn S a b) {p : Addr} (hp : S p.block ∨ a.heap.size ≤ p.block) (u : Value) : Turn S a (b.setCell p u) := by
  refine ⟨h.os, h.tape, h.output, by simpa [World.setCell] using h.size, fun i hi hs => ?_⟩
  rw [Below.heap_setCell _ _ _ _ ?_]
  · exact h.block i hi hs
  · intro e; subst e; rcases hp with hp | hp
    · exact hs hp
    · omega
theorem Turn.grown {S : Nat → Prop} {a b c : World} {row : Option Nat} (h : Turn S a b) (hg : b.grownBy c row) (hr : ∀ k, row = some k → S k ∨ a.heap.size ≤ k) : Turn S a c := by
  refine ⟨hg.os.trans h.os, hg.tape.trans h.tape, hg.output.trans h.output, Nat.le_trans h.size hg.size, fun i hi hs => ?_⟩
  rw [hg.block i (Nat.lt_of_lt_of_le hi h.size) ?_]
  · exact h.block i hi hs
  · intro e
    rcases hr i e.symm with hp | hp
    · exact hs hp
    · omega
/-- Two stretches: what the second one turns is of S, or new. -/
theorem Turn.and {S S' : Nat → Prop} {a b c : World} (h : Turn S a b) (k : Turn S' b c) (hs : ∀ i, i < a.heap.size → S' i → S i) : Turn S a c :=
  ⟨k.os.trans h.os, k.tape.trans h.tape, k.output.trans h.output, Nat.le_trans h.size k.size, fun i hi hn => (k.block i (Nat.lt_of_lt_of_le hi h.size) (fun e => hn (hs i hi e))).trans (h.block i hi hn)⟩
theorem Turn.below {S : Nat → Prop} {a b : World} {B : Nat} (h : Turn S a b) (hB : B ≤ a.heap.size) (hs : ∀ i, i < B → ¬ S i) : Below B a b :=
  ⟨h.os, h.tape, h.output, h.size, fun i hi => h.block i (by omega) (hs i hi)⟩
theorem Turn.cell {S : Nat → Prop} {a b : World} (h : Turn S a b) {p : Addr} (hp : ¬ S p.block) {v : Value} (hv : a.cell? p = some v) : b.cell? p = some v :=
  (World.cell?_of_block (h.block _ (World.block_lt_of_cell? a p hv) hp)).trans hv
theorem Turn.heap {S : Nat → Prop} {a b : World} (h : Turn S a b) {i : Nat} (hp : ¬ S i) {o : Obj} (hv : a.heap[i]? = some o) : b.heap[i]? = some o :=
  (h.block _ (Array.getElem?_eq_some_iff.1 hv).1 hp).trans hv

theorem heap_setCell_at {w : World} {b o : Nat} {c : Array Value} {t : TypeId} {f : Nat × Nat} (h : w.heap[b]? = some (.cells c t f)) (v : Value) :
    (w.setCell ⟨b, o, none⟩ v).heap[b]? = some (.cells (c.setIfInBounds o v) t f) := by
  simp [World.setCell, Array.getElem?_modify, h]

/-- The slice at ao reads as the numbers L. -/
def Ints (k : IntKind) (w : World) (ao : Option Addr) (L : List Int) : Prop :=
  ∀ j, j < L.length → ∃ a, ao = some a ∧ w.cell? (a.add j) = some (.int k (L.getD j 0))
theorem Ints.turn {k : IntKind} {S : Nat → Prop} {a b : World} {ao : Option Addr} {L : List Int} (h : Ints k a ao L) (t : Turn S a b) (hs : ∀ ad, ao = some ad → ¬ S ad.block) : Ints k b ao L := by
  intro j hj
  obtain ⟨ad, e, hc⟩ := h j hj
  refine ⟨ad, e, t.cell ?_ hc⟩
  rw [block_add]
  exact hs ad e


/-- A slice of integers that came in, as the frame tells it: its elements. -/
theorem row_ints {k : IntKind} {w : World} {a : Option Addr} {len cap : Nat} {zs : List Int}
    (h : (a = none ∧ len = 0 ∧ cap = 0 ∧ zs = []) ∨ ∃ x, a = some x ∧ len ≤ cap ∧ cap ≤ maxLen ∧ zs.length = cap ∧ (∀ i, i < zs.length → w.cell? (x.add i) = some (.int k (zs.getD i 0))) ∧ ∀ n ∈ zs, (Lit.int k n).wf = true) :
    ∃ L : List Int, L.length = len ∧ Ints k w a L ∧ (∀ n ∈ L, (Lit.int k n).wf = true) ∧ L.length ≤ maxLen := by
  rcases h with ⟨rfl, rfl, rfl, rfl⟩ | ⟨x, rfl, hl, hm, hz, hc, hw⟩
  · exact ⟨[], rfl, fun j hj => by simp at hj, by simp, by simp⟩
  · refine ⟨zs.take len, by simp; omega, fun j hj => ⟨x, rfl, ?_⟩, fun n hn => hw n (List.mem_of_mem_take hn), by simp; omega⟩
    have hj' : j < len := by simp at hj; omega
    rw [hc j (by omega)]
    simp [List.getD, hj']

/-- 'append(out, src...)', out the call's own row, src any slice of integers that is read: nil or not. -/
theorem wpList_append_ints {P : Program} {w : World} {ops : Array Oper} {rest : List Oper} {o : Oper} {a : Act} {Q : Exit → Act → World → Prop} (hgd : o.guard = none) (s x : Operand) (t : TypeId)
    (ho : o.op = .call { callee := .builtin .append, args := #[s, x], argTypes := #[t, t] })
    (base : Nat) (e : TypeId) (i : TypeInfo) (z : Value) (bytes : Nat) (ht : P.underlying t = some (.slice e)) (hi : P.info? e = some i) (hz : i.zero = some z) (hsize : i.size = 1) (hby : i.bytes = bytes) (hzs : z.cells.size = 1)
    (v : Value) (n : Nat) (xs : List Value) (hs : a.eval s = v) (hown : w.ownsRow base e 1 v n xs)
    (k : IntKind) (ao : Option Addr) (c : Nat) (L : List Int) (hx : a.eval x = .slice ao L.length c) (hnil : ao = none → c = 0) (hr : Ints k w ao L)
    (h63 : n + L.length ≤ maxLen) (hbytes : (n + L.length) * bytes ≤ 140737488355328) (hbase : base ≤ w.heap.size)
    (h : ∀ v' w', w'.ownsRow base e 1 v' (n + L.length) (xs ++ L.map (Value.int k)) → w.grownBy w' v.ownBlock → wpList P ops Q rest (a.put o.dst v') w') : wpList P ops Q (o :: rest) a w := by
  cases ao with
  | none =>
    have hL : L = [] := by
      cases L with
      | nil => rfl
      | cons y r => obtain ⟨ad, e, _⟩ := hr 0 (by simp); cases e
    subst hL
    have hc := hnil rfl
    subst hc
    exact wpList_append_own_none hgd s x t ho base e i 1 ht hi v n xs hs hown hx (h v w (by simpa using hown) (World.grownBy.refl _ _))
  | some ad =>
    refine wpList_append_own w hgd s x t ho base e i z 1 bytes ht hi hz hsize hby hzs (by decide) v n xs hs hown ad L.length c (L.map (Value.int k)) hx (by simp) ?_ ?_ h63 hbytes hbase (fun v' w' h1 h2 _ => h v' w' h1 h2)
    · intro j u hu
      rw [List.getElem?_map] at hu
      obtain ⟨y, hy, rfl⟩ := Option.map_eq_some_iff.1 hu
      obtain ⟨hj, hy'⟩ := List.getElem?_eq_some_iff.1 hy
      obtain ⟨ad', e', hc⟩ := hr j hj
      cases e'
      rw [hc]
      simp [List.getD, hy]
    · intro u hu
      obtain ⟨y, _, rfl⟩ := List.mem_map.1 hu
      rfl

/-- What such a row is good for: it reads as its numbers, and each of its cells may be written. -/
theorem ints_of_own {w : World} {base : Nat} {e : TypeId} {k : IntKind} {v : Value} {L : List Int} (h : w.ownsRow base e 1 v L.length (L.map (Value.int k))) :
    ∃ ao c, v = .slice ao L.length c ∧ Ints k w ao L ∧ L.length ≤ c ∧ c ≤ maxLen ∧ (0 < L.length → ∃ g, ao = some ⟨g, 0, none⟩ ∧ base ≤ g ∧ ∃ cur, w.heap[g]? = some (.cells cur e (0, 0)) ∧ ∀ j, j < L.length → cur[j]? = some (.int k (L.getD j 0))) := by
  rcases h.2 with ⟨rfl, h0⟩ | ⟨g, cap, cur, rfl, hb, hh, hc, hm, hs, ht⟩
  · have hL : L = [] := List.eq_nil_of_length_eq_zero h0
    subst hL
    exact ⟨none, 0, rfl, fun j hj => by simp at hj, by simp, by simp, fun h => by simp at h⟩
  · have hcur : ∀ j, j < L.length → cur[j]? = some (.int k (L.getD j 0)) := by
      intro j hj
      have := congrArg (fun l : List Value => l[j]?) ht
      simp only [Nat.mul_one, List.getElem?_take, hj, if_true, List.getElem?_map] at this
      rw [Array.getElem?_toList] at this
      rw [this]
      simp [List.getD, hj]
    refine ⟨some ⟨g, 0, none⟩, cap, rfl, fun j hj => ⟨_, rfl, ?_⟩, hc, hm, fun _ => ⟨g, rfl, hb, cur, hh, hcur⟩⟩
    rw [Addr.add_lit]
    simp [World.cell?, hh, hcur j hj]

theorem wf_u16 {x : Int} (h : (Lit.int .u16 x).wf = true) : 0 ≤ x ∧ x ≤ 65535 := by
  simpa [Lit.wf, IntKind.min, IntKind.max, IntKind.signed, IntKind.bits] using h
theorem wf_i64 {x : Int} (h : (Lit.int .i64 x).wf = true) : -9223372036854775808 ≤ x ∧ x ≤ 9223372036854775807 := by
  simpa [Lit.wf, IntKind.min, IntKind.max, IntKind.signed, IntKind.bits] using h

theorem info_int : (Try.prog.info? 3).map (fun i => (i.zero, i.size, i.bytes)) = some (some (.int .i64 0), 1, 8) := by kernel_rfl
theorem size_int : (Try.prog.info? 3).map (·.size) = some 1 := by kernel_rfl

/-- Block g is just the numbers L. -/
def Row (w : World) (g : Nat) (L : List Int) : Prop := w.heap[g]? = some (.cells (L.map (Value.int .i64)).toArray 3 (0, 0))
theorem Row.cell {w : World} {g : Nat} {L : List Int} (h : Row w g L) {i : Nat} (hi : i < L.length) : w.cell? ⟨g, i, none⟩ = some (.int .i64 (L.getD i 0)) := by
  unfold Row at h
  simp [World.cell?, h, hi]
theorem Row.frozen {w : World} {g : Nat} {L : List Int} (h : Row w g L) (i : Nat) : w.frozen? ⟨g, i, none⟩ = false := by
  unfold Row at h
  simp [World.frozen?, h]
theorem Row.set {w : World} {g : Nat} {L : List Int} (h : Row w g L) (i : Nat) (x : Int) : Row (w.setCell ⟨g, i, none⟩ (.int .i64 x)) g (L.set i x) := by
  unfold Row at h ⊢
  rw [heap_setCell_at h]
  simp [List.map_set]
theorem Row.far {w : World} {g : Nat} {L : List Int} (h : Row w g L) {p : Addr} (hp : g ≠ p.block) (v : Value) : Row (w.setCell p v) g L :=
  (Below.heap_setCell w p v g hp).trans h
theorem Row.turn {S : Nat → Prop} {w w' : World} {g : Nat} {L : List Int} (h : Row w g L) (t : Turn S w w') (hg : ¬ S g) : Row w' g L := t.heap hg h
theorem Row.lt {w : World} {g : Nat} {L : List Int} (h : Row w g L) : g < w.heap.size := (Array.getElem?_eq_some_iff.1 h).1
theorem Row.drewN {w : World} {g : Nat} {L : List Int} (h : Row w g L) (n : Nat) : Row (w.drewN n) g L := h
theorem Row.alloc {w : World} {g : Nat} {L : List Int} (h : Row w g L) (o : Obj) : Row (w.alloc o) g L := (Below.heap_alloc w o g h.lt).trans h
theorem Row.own {w : World} {g base : Nat} {L : List Int} (h : Row w g L) (hb : base ≤ g) (hm : L.length ≤ maxLen) : w.ownsRow base 3 1 (.slice (some ⟨g, 0, none⟩) L.length L.length) L.length (L.map (Value.int .i64)) :=
  ⟨by simp, .inr ⟨g, L.length, _, rfl, hb, h, Nat.le_refl _, hm, by simp, by rw [Nat.mul_one]; exact List.take_of_length_le (by simp)⟩⟩
theorem Row.ints {w : World} {g : Nat} {L : List Int} (h : Row w g L) : Ints .i64 w (some ⟨g, 0, none⟩) L := by
  intro j hj
  refine ⟨_, rfl, ?_⟩
  rw [Addr.add_lit]
  simpa using h.cell hj

/-- A row that was made. -/
theorem row_made {w : World} {base : Nat} {g n : Nat} (h : w.ownsRow base 3 1 (.slice (some ⟨g, 0, none⟩) n n) n (List.replicate n (.int .i64 0))) : Row w g (List.replicate n 0) := by
  rcases h.2 with ⟨h1, _⟩ | ⟨g', cap, cur, h1, _, hh, _, _, hs, ht⟩
  · cases h1
  · cases h1
    have e : cur = ((List.replicate n (0 : Int)).map (Value.int .i64)).toArray := by
      apply Array.toList_inj.1
      have hn : n * 1 = cur.toList.length := by simpa using hs.symm
      rw [hn, List.take_length] at ht
      rw [ht]; simp
    unfold Row
    rw [hh, e]

/-- A fresh slice of integers: of nobody else's memory, all that was stands as it stood. -/
def Fresh (w w' : World) (v : Value) (L : List Int) : Prop := w'.ownsRow w.heap.size 3 1 v L.length (L.map (Value.int .i64)) ∧ Turn (fun _ => False) w w'
theorem Fresh.ints {w w' : World} {v : Value} {L : List Int} (h : Fresh w w' v L) : ∃ ao c, v = .slice ao L.length c ∧ Ints .i64 w' ao L ∧ (∀ ad, ao = some ad → w.heap.size ≤ ad.block) ∧ L.length ≤ c ∧ c ≤ maxLen ∧ (ao = none → c = 0) := by
  rcases h.1.2 with ⟨rfl, h0⟩ | ⟨g, cap, cur, rfl, hb, hh, hc, hm, hs, ht⟩
  · have hL : L = [] := List.eq_nil_of_length_eq_zero h0
    subst hL
    exact ⟨none, 0, rfl, fun j hj => by simp at hj, by simp, by simp, by simp, by simp⟩
  · obtain ⟨ao, c, e, hi, h1, h2, _⟩ := ints_of_own h.1
    cases e
    exact ⟨_, _, rfl, hi, fun ad e => by cases e; exact hb, h1, h2, by simp⟩

theorem made_ints (n : Nat) : (madeCells (Value.int .i64 0).cells (n * 1)).toList = List.replicate n (.int .i64 0) := by
  apply List.ext_getElem?
  intro i
  rw [Nat.mul_one]
  by_cases h : i < n
  · simp [madeCells, Value.cells, h, Nat.mod_one]
  · simp [madeCells, Value.cells, h]

/-- 'make([]int, n)'. -/
theorem wpList_make_ints {w : World} {ops : Array Oper} {rest : List Oper} {o : Oper} {a : Act} {Q : Exit → Act → World → Prop} (hg : o.guard = none) (l c : Operand) (hop : o.op = Op.makeSlice 22 l c)
    (n : Nat) (hl : a.eval l = .int .i64 n) (hc : a.eval c = .int .i64 n) (hn : n ≤ 1000000)
    (hK : ∀ w', Hid (Row w' w.heap.size (List.replicate n 0)) → Hid (Turn (fun _ => False) w w') → w.heap.size < w'.heap.size → wpList Try.prog ops Q rest (a.put o.dst (.slice (some ⟨w.heap.size, 0, none⟩) n n)) w') :
    wpList Try.prog ops Q (o :: rest) a w := by
  obtain ⟨i0, hi, hz0, hz1, hz2⟩ := info_parts info_int
  refine wpList_make_full w hg l c 22 hop w.heap.size 3 i0 (.int .i64 0) 1 Try.underlying22 hi hz0 hz1 .i64 .i64 n n n hl hc rfl rfl (by rw [hz2]; omega) (by unfold maxLen; omega) (Nat.le_refl _) ?_
  intro w1 hown hgrow
  rw [made_ints] at hown
  have hr := row_made hown
  exact hK w1 hr ((Turn.refl _ _).grown hgrow (by simp)) hr.lt

end Go.Proofs.Ytlnjomjeafmobaa
