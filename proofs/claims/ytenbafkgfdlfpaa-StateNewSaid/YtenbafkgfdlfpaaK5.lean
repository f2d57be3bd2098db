/- Taken from s5: Math Small Pool Moved Fill Refill Spill Take Give New All Open Onc Once RefA RefB RefC RefD SameP Runs NewA NewB NewC NewD. Made by pullk.py. -/
import Derived.Test.YtenbafkgfdlfpaaP5Math
import Derived.Test.YtenbafkgfdlfpaaGMake
import Derived.Test.YtenbafkgfdlfpaaGRest
import Derived.Test.YtenbafkgfdlfpaaGAny
import Derived.BigQuiet
import Derived.Deep.QuietTactic
import Derived.Outline
import Derived.RegionTactic
import Derived.ChangeAlike
import Derived.Deep.CutBlock
import Derived.Deep.DeepCutAuto
import Derived.Deep.Slices
import Derived.IntWalk
namespace Go.Proofs.Ytenbafkgfdlfpaa.R5.C5
open Go.RowKit
set_option linter.unusedVariables false

theorem info_int : (Try.prog.info? 3).map (fun i => (i.zero, i.size, i.bytes)) = some (some (.int .i64 0), 1, 8) := by kernel_rfl
theorem size_int : (Try.prog.info? 3).map (·.size) = some 1 := by kernel_rfl

theorem copied_any {ao : Option Addr} {cap : Nat} {L : List Int} (w : World) (hr : Ints .i64 w ao L) (hl : L.length ≤ 1000) :
    Calls Try.prog 46 #[.slice ao L.length cap] w fun e w' => e = .returned (.slice (some ⟨w.heap.size, 0, none⟩) L.length L.length) ∧ Row .i64 3 w' w.heap.size L ∧ Turn (fun _ => False) w w' := by
  have HR := Lib.hid hr
  clear hr
  go_enter Try.func46, Try.ntmps46
  go_wp2_with (first
    | (with_reducible refine wpList_make_ints (k := .i64) Try.underlying38 info_int (by decide) rfl (.tmp 5) (.tmp 5) rfl L.length rfl rfl (by omega) ?_; intro w1 R1 T1 hs1)
    | (with_reducible refine wpList_copy_ints (k := .i64) Try.underlying38 size_int rfl (.tmp 7) (.tmp 8) rfl w.heap.size ao cap L.length (List.replicate L.length 0) L rfl rfl R1.out (by simp) (HR.out.turn T1.out (fun _ _ => id)) (fun _ => False) w T1.out (Or.inr (Nat.le_refl _)) ?_; intro w2 R2 U2 T2))
  go_ret
  exact ⟨rfl, R2.out, T2.out⟩

/-- A row as it lies: where, its capacity, its things. -/
structure Rw where
  a : Option Addr
  c : Nat
  l : List Int
def Rw.v (r : Rw) : Value := .slice r.a r.l.length r.c
def Rw.own (w : World) (base : Nat) (r : Rw) : Prop := w.ownsRow base 3 1 r.v r.l.length (r.l.map (Value.int .i64))
def setR (R : Nat → Rw) (i : Nat) (r : Rw) : Nat → Rw := fun k => if k = i then r else R k
theorem setR_same (R : Nat → Rw) (i : Nat) (r : Rw) : setR R i r i = r := if_pos rfl
theorem setR_other (R : Nat → Rw) {i k : Nat} (r : Rw) (h : k ≠ i) : setR R i r k = R k := if_neg h

/-- Lie of the call's own, apart from each other and from the blocks p and q. -/
structure Lie (w : World) (base p q n : Nat) (R : Nat → Rw) : Prop where
  own : ∀ i, i ≤ n → (R i).own w base
  apart : ∀ i j k, i ≤ n → j ≤ n → i ≠ j → (R i).v.ownBlock = some k → (R j).v.ownBlock ≠ some k
  far : ∀ i k, i ≤ n → (R i).v.ownBlock = some k → k ≠ p ∧ k ≠ q
/-- The pool's own cells, and the row of its caches. -/
structure PCells (w : World) (p q size most n fresh : Nat) (R : Nat → Rw) : Prop where
  box : w.heap[p]? = some (.cells #[.int .i64 size, .int .i64 most, .slice (some ⟨q, 0, none⟩) n n, (R n).v, .int .i64 fresh] 106 (0, 0))
  row : ∃ arr : Array Value, w.heap[q]? = some (.cells arr 38 (0, 0)) ∧ ∀ i, i < n → arr[i]? = some (R i).v
structure IsPool (w : World) (base p q : Nat) (s : St) (R : Nat → Rw) : Prop where
  rows : Lie w base p q s.n R
  cells : PCells w p q s.size s.most s.n s.fresh R
  m : ∀ i, i ≤ s.n → (R i).l = s.M i
  ne : p ≠ q
  bp : base ≤ p
  bq : base ≤ q
/-- The pool's blocks. -/
def PB (p q n : Nat) (R : Nat → Rw) (i : Nat) : Prop := i = p ∨ i = q ∨ ∃ k, k ≤ n ∧ (R k).v.ownBlock = some i

section
variable {w w' : World} {base p q size most n fresh : Nat} {R : Nat → Rw} {s : St} {S : Nat → Prop}
theorem PCells.c2 (h : PCells w p q size most n fresh R) : w.cell? ⟨p, 2, none⟩ = some (.slice (some ⟨q, 0, none⟩) n n) := by simp [World.cell?, h.box]

end
section
variable {w w' : World} {base p q size most n fresh : Nat} {R : Nat → Rw} {s : St} {S : Nat → Prop}
theorem PCells.c3 (h : PCells w p q size most n fresh R) : w.cell? ⟨p, 3, none⟩ = some (.slice (R n).a (R n).l.length (R n).c) := by
  have : w.cell? ⟨p, 3, none⟩ = some (R n).v := by simp [World.cell?, h.box]
  exact this

end
section
variable {w w' : World} {base p q size most n fresh : Nat} {R : Nat → Rw} {s : St} {S : Nat → Prop}
theorem PCells.c4 (h : PCells w p q size most n fresh R) : w.cell? ⟨p, 4, none⟩ = some (.int .i64 fresh) := by simp [World.cell?, h.box]

end
section
variable {w w' : World} {base p q size most n fresh : Nat} {R : Nat → Rw} {s : St} {S : Nat → Prop}
theorem PCells.f (h : PCells w p q size most n fresh R) (i : Nat) : w.frozen? ⟨p, i, none⟩ = false := by simp [World.frozen?, h.box]

end
section
variable {w w' : World} {base p q size most n fresh : Nat} {R : Nat → Rw} {s : St} {S : Nat → Prop}
theorem PCells.fq (h : PCells w p q size most n fresh R) (i : Nat) : w.frozen? ⟨q, i, none⟩ = false := by
  obtain ⟨arr, h1, _⟩ := h.row
  simp [World.frozen?, h1]

end
section
variable {w w' : World} {base p q size most n fresh : Nat} {R : Nat → Rw} {s : St} {S : Nat → Prop}
theorem PCells.rc (h : PCells w p q size most n fresh R) {g : Nat} (hg : g < n) : w.cell? ⟨q, g, none⟩ = some (.slice (R g).a (R g).l.length (R g).c) := by
  obtain ⟨arr, h1, h2⟩ := h.row
  have : w.cell? ⟨q, g, none⟩ = some (R g).v := by simp [World.cell?, h1, h2 g hg]
  exact this

end
section
variable {w w' : World} {base p q size most n fresh : Nat} {R : Nat → Rw} {s : St} {S : Nat → Prop}
theorem PCells.ltp (h : PCells w p q size most n fresh R) : p < w.heap.size := (Array.getElem?_eq_some_iff.1 h.box).1

end
section
variable {w w' : World} {base p q size most n fresh : Nat} {R : Nat → Rw} {s : St} {S : Nat → Prop}
theorem PCells.ltq (h : PCells w p q size most n fresh R) : q < w.heap.size := by
  obtain ⟨arr, h1, _⟩ := h.row
  exact (Array.getElem?_eq_some_iff.1 h1).1

end
section
variable {w w' : World} {base p q size most n fresh : Nat} {R : Nat → Rw} {s : St} {S : Nat → Prop}
theorem PCells.turn (h : PCells w p q size most n fresh R) (t : Turn S w w') (hp : ¬ S p) (hq : ¬ S q) : PCells w' p q size most n fresh R := by
  obtain ⟨arr, h1, h2⟩ := h.row
  exact ⟨t.heap hp h.box, arr, t.heap hq h1, h2⟩

end
section
variable {w w' : World} {base p q size most n fresh : Nat} {R : Nat → Rw} {s : St} {S : Nat → Prop}
theorem Lie.turn (h : Lie w base p q n R) (t : Turn S w w') (hs : ∀ i k, i ≤ n → (R i).v.ownBlock = some k → ¬ S k) : Lie w' base p q n R :=
  ⟨fun i hi => own_turn (h.own i hi) t (fun k hk => hs i k hi hk), h.apart, h.far⟩

end
section
variable {w w' : World} {base p q size most n fresh : Nat} {R : Nat → Rw} {s : St} {S : Nat → Prop}
theorem IsPool.turn (h : IsPool w base p q s R) (t : Turn S w w') (hs : ∀ i, PB p q s.n R i → ¬ S i) : IsPool w' base p q s R :=
  ⟨h.rows.turn t (fun i k hi hk => hs k (Or.inr (Or.inr ⟨i, hi, hk⟩))), h.cells.turn t (hs p (Or.inl rfl)) (hs q (Or.inr (Or.inl rfl))), h.m, h.ne, h.bp, h.bq⟩

end
section
variable {w w' : World} {base p q size most n fresh : Nat} {R : Nat → Rw} {s : St} {S : Nat → Prop}
theorem IsPool.new (h : IsPool w base p q s R) (t : Turn (fun _ => False) w w') : IsPool w' base p q s R := h.turn t (fun _ _ => id)

end
section
variable {w w' : World} {base p q size most n fresh : Nat} {R : Nat → Rw} {s : St} {S : Nat → Prop}
theorem IsPool.drewN (h : IsPool w base p q s R) (k : Nat) : IsPool (w.drewN k) base p q s R := h.new ((Turn.refl _ _).drewN _)

end
section
variable {w w' : World} {base p q size most n fresh : Nat} {R : Nat → Rw} {s : St} {S : Nat → Prop}
theorem IsPool.blocks (h : IsPool w base p q s R) {i : Nat} (hi : PB p q s.n R i) : base ≤ i ∧ i < w.heap.size := by
  rcases hi with rfl | rfl | ⟨k, hk, hb⟩
  · exact ⟨h.bp, h.cells.ltp⟩
  · exact ⟨h.bq, h.cells.ltq⟩
  · exact (h.rows.own k hk).lt i hb

end
section
variable {w w' : World} {base p q size most n fresh : Nat} {R : Nat → Rw} {s : St} {S : Nat → Prop}
theorem IsPool.ints (h : IsPool w base p q s R) {i : Nat} (hi : i ≤ s.n) : Ints .i64 w (R i).a (R i).l := (own_reads (h.rows.own i hi)).2.1

end
section
variable {w w' : World} {base p q size most n fresh : Nat} {R : Nat → Rw} {s : St} {S : Nat → Prop}
theorem IsPool.nil (h : IsPool w base p q s R) {i : Nat} (hi : i ≤ s.n) : (R i).a = none → (R i).c = 0 := (own_reads (h.rows.own i hi)).2.2.2

end
section
variable {w w' : World} {base p q size most n fresh : Nat} {R : Nat → Rw} {s : St} {S : Nat → Prop}
theorem IsPool.less {base' : Nat} (h : IsPool w base p q s R) (hb : base' ≤ base) : IsPool w base' p q s R :=
  ⟨⟨fun i hi => own_less (h.rows.own i hi) hb, h.rows.apart, h.rows.far⟩, h.cells, h.m, h.ne, Nat.le_trans hb h.bp, Nat.le_trans hb h.bq⟩

end
theorem taker_no {base p q : Nat} {s : St} {R : Nat → Rw} {g : Int} (w : World) (h : IsPool w base p q s R) (hg : g < 0 ∨ (s.n : Int) ≤ g) :
    Calls Try.prog 48 #[.pointer (some ⟨p, 0, none⟩), .int .i64 g] w fun e w' => e = .returned (.bool false) ∧ w = w' := by
  have c2 := h.cells.c2
  clear h
  by_cases h0 : 0 ≤ g
  · have h1 := Lib.hid (show decide (g < (s.n : Int)) = false from decide_eq_false (by omega))
    clear hg
    go_enter Try.func48, Try.ntmps48
    go_wp2
    go_ret
    exact ⟨ret_bool h1.out, rfl⟩
  · clear hg
    go_enter Try.func48, Try.ntmps48
    go_wp2
    go_ret
    exact ⟨rfl, rfl⟩
theorem taker_yes {base p q g : Nat} {s : St} {R : Nat → Rw} (w : World) (h : IsPool w base p q s R) (hg : g < s.n) :
    Calls Try.prog 48 #[.pointer (some ⟨p, 0, none⟩), .int .i64 g] w fun e w' => e = .returned (.bool true) ∧ w = w' := by
  have c2 := h.cells.c2
  clear h
  go_enter Try.func48, Try.ntmps48
  go_wp2
  go_ret
  exact ⟨rfl, rfl⟩
theorem fresh_any {base p q : Nat} {s : St} {R : Nat → Rw} (w : World) (h : IsPool w base p q s R) :
    Calls Try.prog 21 #[.pointer (some ⟨p, 0, none⟩)] w fun e w' => e = .returned (.int .i64 s.fresh) ∧ w = w' := by
  have c4 := h.cells.c4
  clear h
  go_enter Try.func21, Try.ntmps21
  go_wp2
  go_ret
  exact ⟨rfl, rfl⟩

/-- A slice L that is new. -/
def New (L : List Int) (n : Nat) (w : World) (e : Ending) (w' : World) : Prop := e = .returned (.slice (some ⟨w.heap.size, 0, none⟩) n n) ∧ Row .i64 3 w' w.heap.size L ∧ Turn (fun _ => False) w w'
theorem middle_any {base p q nm : Nat} {s : St} {R : Nat → Rw} (w : World) (h : IsPool w base p q s R) (hn : (s.M s.n).length = nm) (hl : nm ≤ 1000) :
    Calls Try.prog 20 #[.pointer (some ⟨p, 0, none⟩)] w (New (s.M s.n) nm w) := by
  have c3 := h.cells.c3
  have HI := Lib.hid (h.ints (Nat.le_refl s.n))
  rw [h.m s.n (Nat.le_refl _)] at c3 HI
  have HN := Lib.hid hn
  clear h hn
  go_enter Try.func20, Try.ntmps20
  go_wp2_with fail
  refine (copied_any w HI.out (by rw [HN.out]; exact hl)).mono ?_
  rintro e w1 ⟨rfl, r1, t1⟩
  have R1 := Lib.hid r1
  have T1 := Lib.hid t1
  clear r1 t1
  go_wp2
  go_ret
  exact ⟨by rw [HN.out]; rfl, R1.out, T1.out⟩
theorem cache_no {base p q : Nat} {s : St} {R : Nat → Rw} {g : Int} (w : World) (h : IsPool w base p q s R) (hg : g < 0 ∨ (s.n : Int) ≤ g) :
    Calls Try.prog 27 #[.pointer (some ⟨p, 0, none⟩), .int .i64 g] w fun e w' => e = .returned (.slice none 0 0) ∧ w = w' := by
  have H := Lib.hid h
  have HG := Lib.hid hg
  clear h hg
  go_enter Try.func27, Try.ntmps27
  go_wp2_with fail
  refine (taker_no w H.out HG.out).mono ?_
  rintro e w1 ⟨rfl, rfl⟩
  go_wp2
  go_ret
  exact ⟨rfl, rfl⟩
theorem cache_yes {base p q g nm : Nat} {s : St} {R : Nat → Rw} (w : World) (h : IsPool w base p q s R) (hg : g < s.n) (hn : (s.M g).length = nm) (hl : nm ≤ 1000) :
    Calls Try.prog 27 #[.pointer (some ⟨p, 0, none⟩), .int .i64 g] w (New (s.M g) nm w) := by
  have H := Lib.hid h
  have HN := Lib.hid hn
  have c2 := h.cells.c2
  have rc := h.cells.rc hg
  have HI := Lib.hid (h.ints (Nat.le_of_lt hg))
  rw [h.m g (Nat.le_of_lt hg)] at rc HI
  clear h hn
  go_enter Try.func27, Try.ntmps27
  go_wp2_with fail
  refine (taker_yes w H.out hg).mono ?_
  rintro e w1 ⟨rfl, rfl⟩
  go_wp2_with fail
  refine (copied_any w HI.out (by rw [HN.out]; exact hl)).mono ?_
  rintro e w1 ⟨rfl, r1, t1⟩
  have R1 := Lib.hid r1
  have T1 := Lib.hid t1
  clear r1 t1
  go_wp2
  go_ret
  exact ⟨by rw [HN.out]; rfl, R1.out, T1.out⟩

section
variable {w w' w5 : World} {base p q size most n fresh : Nat} {R : Nat → Rw} {s : St} {S : Nat → Prop}
theorem setCell_turn (w : World) (b o : Nat) (v : Value) : Turn (fun i => i = b) w (w.setCell ⟨b, o, none⟩ v) := (Turn.refl (fun i => i = b) w).setCell (p := ⟨b, o, none⟩) (Or.inl rfl) v

end
section
variable {w w' w5 : World} {base p q size most n fresh : Nat} {R : Nat → Rw} {s : St} {S : Nat → Prop}
theorem PCells.put3 (h : PCells w p q size most n fresh R) (hne : p ≠ q) (r : Rw) : PCells (w.setCell ⟨p, 3, none⟩ r.v) p q size most n fresh (setR R n r) := by
  obtain ⟨arr, h1, h2⟩ := h.row
  refine ⟨?_, arr, (setCell_turn w p 3 r.v).heap (fun e => hne e.symm) h1, fun i hi => ?_⟩
  · rw [heap_setCell_at h.box, setR_same]
    rfl
  · rw [setR_other _ _ (by omega)]
    exact h2 i hi

end
section
variable {w w' w5 : World} {base p q size most n fresh : Nat} {R : Nat → Rw} {s : St} {S : Nat → Prop}
theorem PCells.putq (h : PCells w p q size most n fresh R) (hne : p ≠ q) {g : Nat} (hg : g < n) (r : Rw) : PCells (w.setCell ⟨q, g, none⟩ r.v) p q size most n fresh (setR R g r) := by
  obtain ⟨arr, h1, h2⟩ := h.row
  refine ⟨?_, arr.setIfInBounds g r.v, heap_setCell_at h1 _, fun i hi => ?_⟩
  · rw [setR_other _ _ (by omega)]
    exact (setCell_turn w q g r.v).heap hne h.box
  · have hs : g < arr.size := (Array.getElem?_eq_some_iff.1 (h2 g hg)).1
    by_cases e : i = g
    · subst e
      rw [setR_same, Array.getElem?_setIfInBounds_self_of_lt hs]
    · rw [setR_other _ _ e, Array.getElem?_setIfInBounds_ne (fun e' => e e'.symm)]
      exact h2 i hi

end
section
variable {w w' w5 : World} {base p q size most n fresh : Nat} {R : Nat → Rw} {s : St} {S : Nat → Prop}
theorem PCells.put4 (h : PCells w p q size most n fresh R) (hne : p ≠ q) (f : Nat) : PCells (w.setCell ⟨p, 4, none⟩ (.int .i64 f)) p q size most n f R := by
  obtain ⟨arr, h1, h2⟩ := h.row
  refine ⟨?_, arr, (setCell_turn w p 4 _).heap (fun e => hne e.symm) h1, h2⟩
  rw [heap_setCell_at h.box]
  rfl

end
section
variable {w w' w5 : World} {base p q size most n fresh : Nat} {R : Nat → Rw} {s : St} {S : Nat → Prop}
theorem Lie.set (h : Lie w base p q n R) {b : Nat} (hb : b = p ∨ b = q) (o : Nat) (v : Value) : Lie (w.setCell ⟨b, o, none⟩ v) base p q n R :=
  h.turn (setCell_turn w b o v) (fun i k hi hk e => by
    have := h.far i k hi hk
    have e' : k = b := e
    rcases hb with rfl | rfl
    · exact this.1 e'
    · exact this.2 e')

end
/-- What a call upon the pool leaves: it is as told, and nothing that was has turned but its blocks. -/
def Kept (w w' : World) (base p q n : Nat) (R : Nat → Rw) (s : St) : Prop :=
  ∃ R', IsPool w' base p q s R' ∧ Turn (PB p q n R) w w' ∧ ∀ i, PB p q n R' i → PB p q n R i ∨ w.heap.size ≤ i
theorem Kept.and {w w1 w2 : World} {base p q n : Nat} {R R1 : Nat → Rw} {s : St} (t1 : Turn (PB p q n R) w w1) (b1 : ∀ i, PB p q n R1 i → PB p q n R i ∨ w.heap.size ≤ i) (k : Kept w1 w2 base p q n R1 s) : Kept w w2 base p q n R s := by
  obtain ⟨R2, h2, t2, b2⟩ := k
  refine ⟨R2, h2, t1.and t2 (fun i hi e => ?_), fun i hi => ?_⟩
  · rcases b1 i e with h | h
    · exact h
    · omega
  · rcases b2 i hi with h | h
    · exact b1 i h
    · right; have := t1.size; omega
theorem Kept.refl {w : World} {base p q : Nat} {R : Nat → Rw} {s : St} (h : IsPool w base p q s R) (k : Nat) : Kept w (w.drewN k) base p q s.n R s :=
  ⟨R, h.drewN k, (Turn.refl _ _).drewN k, fun _ => Or.inl⟩

theorem Kept.drewN {w w' : World} {base p q n : Nat} {R : Nat → Rw} {s : St} (h : Kept w w' base p q n R s) (k : Nat) : Kept w (w'.drewN k) base p q n R s := by
  obtain ⟨R2, h2, t2, b2⟩ := h
  exact ⟨R2, h2.drewN k, t2.drewN k, b2⟩
/-- Row g is another one: own, and its block is the old one, or new. -/
theorem Lie.put {w w5 : World} {base p q n : Nat} {R : Nat → Rw} (h : Lie w base p q n R) (hp : p < w.heap.size) (hq : q < w.heap.size) {g : Nat} (hg : g ≤ n) {r : Rw} (hr : r.own w5 base) (t : Turn (fun k => (R g).v.ownBlock = some k) w w5) (hb : ∀ k, r.v.ownBlock = some k → (R g).v.ownBlock = some k ∨ w.heap.size ≤ k) :
    Lie w5 base p q n (setR R g r) := by
  have get : ∀ k, setR R g r k = if k = g then r else R k := fun k => rfl
  refine ⟨fun k hk => ?_, fun a b k ha hb' hab hk => ?_, fun a k ha hk => ?_⟩
  · rw [get]
    by_cases e : k = g
    · rw [if_pos e]; exact hr
    · rw [if_neg e]
      exact own_turn (h.own k hk) t (fun m hm hm' => h.apart k g m hk hg e hm hm')
  · rw [get] at hk ⊢
    by_cases e : a = g
    · subst e
      rw [if_pos rfl] at hk
      rw [if_neg (fun e => hab e.symm)]
      rcases hb k hk with h1 | h1
      · exact h.apart a b k ha hb' hab h1
      · intro h2
        have := ((h.own b hb').lt k h2).2
        omega
    · rw [if_neg e] at hk
      by_cases e2 : b = g
      · subst e2
        rw [if_pos rfl]
        intro h2
        rcases hb k h2 with h1 | h1
        · exact h.apart a b k ha hb' hab hk h1
        · have := ((h.own a ha).lt k hk).2
          omega
      · rw [if_neg e2]
        exact h.apart a b k ha hb' hab hk
  · rw [get] at hk
    by_cases e : a = g
    · subst e
      rw [if_pos rfl] at hk
      rcases hb k hk with h1 | h1
      · exact h.far a k ha h1
      · omega
    · rw [if_neg e] at hk
      exact h.far a k ha hk
/-- A cache is another row, stored in its place. -/
theorem IsPool.putq {w w5 : World} {base p q : Nat} {s : St} {R : Nat → Rw} (h : IsPool w base p q s R) {g : Nat} (hg : g < s.n) {r : Rw} (hr : r.own w5 base) (t : Turn (fun k => (R g).v.ownBlock = some k) w w5) (hb : ∀ k, r.v.ownBlock = some k → (R g).v.ownBlock = some k ∨ w.heap.size ≤ k) :
    Kept w (w5.setCell ⟨q, g, none⟩ r.v) base p q s.n R (withM s g r.l) := by
  have r1 := (h.rows.put h.cells.ltp h.cells.ltq (Nat.le_of_lt hg) hr t hb).set (Or.inr rfl) g r.v
  have c5 := h.cells.turn t (fun e => (h.rows.far g p (Nat.le_of_lt hg) e).1 rfl) (fun e => (h.rows.far g q (Nat.le_of_lt hg) e).2 rfl)
  have k1 := c5.putq h.ne hg r
  have t1 := (t.mono (S' := PB p q s.n R) (fun k _ e => Or.inr (Or.inr ⟨g, Nat.le_of_lt hg, e⟩))).setCell (p := ⟨q, g, none⟩) (Or.inl (Or.inr (Or.inl rfl))) r.v
  refine ⟨setR R g r, IsPool.mk (s := withM s g r.l) r1 k1 (fun i hi => ?_) h.ne h.bp h.bq, t1, ?_⟩
  · show (if i = g then r else R i).l = if i = g then r.l else s.M i
    by_cases e : i = g
    · rw [if_pos e, if_pos e]
    · rw [if_neg e, if_neg e]; exact h.m i hi
  · rintro k (e | e | ⟨x, hx, e⟩)
    · exact Or.inl (Or.inl e)
    · exact Or.inl (Or.inr (Or.inl e))
    · have e' : (if x = g then r else R x).v.ownBlock = some k := e
      by_cases e1 : x = g
      · rw [if_pos e1] at e'
        rcases hb k e' with h1 | h1
        · exact Or.inl (Or.inr (Or.inr ⟨g, Nat.le_of_lt hg, h1⟩))
        · exact Or.inr h1
      · rw [if_neg e1] at e'
        exact Or.inl (Or.inr (Or.inr ⟨x, hx, e'⟩))
theorem IsPool.put4 {w : World} {base p q : Nat} {s : St} {R : Nat → Rw} (h : IsPool w base p q s R) (f : Nat) :
    Kept w (w.setCell ⟨p, 4, none⟩ (.int .i64 f)) base p q s.n R (withF s f) :=
  ⟨R, IsPool.mk (s := withF s f) (h.rows.set (Or.inl rfl) 4 _) (h.cells.put4 h.ne f) h.m h.ne h.bp h.bq, (Turn.refl _ _).setCell (p := ⟨p, 4, none⟩) (Or.inl (Or.inl rfl)) _, fun _ => Or.inl⟩

theorem info_ints : (Try.prog.info? 38).map (fun i => (i.zero, i.size, i.bytes)) = some (some (.slice none 0 0), 1, 24) := by kernel_rfl
theorem cells_nil : (Value.slice none 0 0).cells = #[.slice none 0 0] := rfl

def newS (n size most : Nat) : St := ⟨n, size, most, 0, fun _ => []⟩
theorem new_bad {a b c : Int} (w : World) (h : a < 0 ∨ 64 < a ∨ b < 0 ∨ 8 < b ∨ c < 1 ∨ 16 < c) :
    Calls Try.prog 65 #[.int .i64 a, .int .i64 b, .int .i64 c] w fun e w' => e = .returned (.tuple #[.pointer none, .int .i64 1]) ∧ w = w' := by
  by_cases h1 : a < 0
  · clear h
    go_enter Try.func65, Try.ntmps65
    go_wp2_with fail
    go_ret2
    exact ⟨rfl, rfl⟩
  by_cases h2 : 64 < a
  · clear h
    go_enter Try.func65, Try.ntmps65
    go_wp2_with fail
    go_ret2
    exact ⟨rfl, rfl⟩
  by_cases h3 : b < 0
  · clear h
    go_enter Try.func65, Try.ntmps65
    go_wp2_with fail
    go_ret2
    exact ⟨rfl, rfl⟩
  by_cases h4 : 8 < b
  · clear h
    go_enter Try.func65, Try.ntmps65
    go_wp2_with fail
    go_ret2
    exact ⟨rfl, rfl⟩
  by_cases h5 : c < 1
  · clear h
    go_enter Try.func65, Try.ntmps65
    go_wp2_with fail
    go_ret2
    exact ⟨rfl, rfl⟩
  have h6 : 16 < c := by omega
  clear h
  go_enter Try.func65, Try.ntmps65
  go_wp2_with fail
  go_ret2
  exact ⟨rfl, rfl⟩

def R0 : Nat → Rw := fun _ => ⟨none, 0, []⟩
def NewPost (n size most : Nat) (w : World) (e : Ending) (w' : World) : Prop :=
  ∃ p q, e = .returned (.tuple #[.pointer (some ⟨p, 0, none⟩), .int .i64 0]) ∧ w.heap.size ≤ p ∧ w.heap.size ≤ q ∧ IsPool w' w.heap.size p q (newS n size most) R0 ∧ Turn (fun _ => False) w w'
theorem new_good {n size most : Nat} (w : World) (hn : n ≤ 8) (hs : size ≤ 64) (hm : 1 ≤ most ∧ most ≤ 16) :
    Calls Try.prog 65 #[.int .i64 size, .int .i64 n, .int .i64 most] w (NewPost n size most w) := by
  have hm1 := hm.1
  have hm2 := hm.2
  have hm3 : ¬ (most : Int) < 1 := by omega
  clear hm
  go_enter Try.func65, Try.ntmps65
  go_wp2_with (with_reducible refine wpList_make_zeros cells_nil Try.underlying37 info_ints (by decide) rfl (.tmp 32) (.tmp 32) rfl n rfl rfl (by omega) ?_; intro w1 Z1 T1)
  go_ret2
  have hlt := Z1.out.lt
  have TA := (Turn.refl (fun _ => False) w1).alloc (.cells #[.int .i64 size, .int .i64 most, .slice (some ⟨w.heap.size, 0, none⟩) n n, .slice none 0 0, .int .i64 0] 106)
  refine ⟨w1.heap.size, w.heap.size, rfl, T1.out.size, Nat.le_refl _, ?_, T1.out.trans TA⟩
  have far : ∀ i k, (R0 i).v.ownBlock ≠ some k := fun i k e => by cases e
  refine ⟨⟨fun i _ => ⟨rfl, .inl ⟨rfl, rfl⟩⟩, fun i j k _ _ _ e => absurd e (far i k), fun i k _ e => absurd e (far i k)⟩, ⟨heap_alloc_new _ _, (List.replicate n (Value.slice none 0 0)).toArray, TA.heap id Z1.out, fun i hi => Zeros.at_ (z := Value.slice none 0 0) hi⟩, fun i _ => rfl, by omega, T1.out.size, Nat.le_refl _⟩

def s1 : St := newS 2 1 2
def s2 : St := takeS s1 0
theorem f3 : takeX s2 1 = 0 := by decide
theorem f4 : takeB s2 1 = false := by decide
theorem new_at {a b c : Int} {n size most : Nat} (w : World) (ha : a = (size : Int)) (hb : b = (n : Int)) (hc : c = (most : Int)) (hn : n ≤ 8) (hs : size ≤ 64) (hm : 1 ≤ most ∧ most ≤ 16) :
    Calls Try.prog 65 #[.int .i64 a, .int .i64 b, .int .i64 c] w (NewPost n size most w) := by
  subst ha
  subst hb
  subst hc
  exact new_good w hn hs hm
theorem info_bool : (Try.prog.info? 4).map (fun i => (i.zero, i.size, i.bytes)) = some (some (.bool false), 1, 1) := by kernel_rfl
theorem cells_false : (Value.bool false).cells = #[.bool false] := rfl

/-- Block g is n bools. -/
def BRow (w : World) (g n : Nat) (B : Nat → Bool) : Prop := ∃ arr : Array Value, w.heap[g]? = some (.cells arr 4 (0, 0)) ∧ ∀ i, i < n → arr[i]? = some (.bool (B i))
section
variable {w w' : World} {g n : Nat} {B B' : Nat → Bool} {S : Nat → Prop}
theorem BRow.of (h : Zeros w g n (.bool false) 4) : BRow w g n (fun _ => false) := ⟨_, h, fun i hi => Zeros.at_ hi⟩

end
section
variable {w w' : World} {g n : Nat} {B B' : Nat → Bool} {S : Nat → Prop}
theorem BRow.cell (h : BRow w g n B) {i : Nat} (hi : i < n) : w.cell? ⟨g, i, none⟩ = some (.bool (B i)) := by
  obtain ⟨arr, h1, h2⟩ := h
  simp [World.cell?, h1, h2 i hi]

end
section
variable {w w' : World} {g n : Nat} {B B' : Nat → Bool} {S : Nat → Prop}
theorem BRow.fr (h : BRow w g n B) (i : Nat) : w.frozen? ⟨g, i, none⟩ = false := by
  obtain ⟨arr, h1, _⟩ := h
  simp [World.frozen?, h1]

end
section
variable {w w' : World} {g n : Nat} {B B' : Nat → Bool} {S : Nat → Prop}
theorem BRow.turn (h : BRow w g n B) (t : Turn S w w') (hg : ¬ S g) : BRow w' g n B := by
  obtain ⟨arr, h1, h2⟩ := h
  exact ⟨arr, t.heap hg h1, h2⟩

end
section
variable {w w' : World} {g n : Nat} {B B' : Nat → Bool} {S : Nat → Prop}
theorem BRow.set (h : BRow w g n B) {i : Nat} (hi : i < n) (v : Bool) (hB : ∀ j, j < n → B' j = if j = i then v else B j) : BRow (w.setCell ⟨g, i, none⟩ (.bool v)) g n B' := by
  obtain ⟨arr, h1, h2⟩ := h
  refine ⟨arr.setIfInBounds i (.bool v), heap_setCell_at h1 _, fun j hj => ?_⟩
  have hs : i < arr.size := (Array.getElem?_eq_some_iff.1 (h2 i hi)).1
  rw [hB j hj]
  by_cases e : j = i
  · subst e
    rw [if_pos rfl, Array.getElem?_setIfInBounds_self_of_lt hs]
  · rw [if_neg e, Array.getElem?_setIfInBounds_ne (fun e' => e e'.symm)]
    exact h2 j hj

end
/-- Slices in a row, as they come in: each of at most 100. -/
structure Came (w : World) (n : Nat) (M : Nat → List Int) (ca : Option Addr) (cc : Nat) : Prop where
  row : ∀ j, j < n → ∃ ad a c, ca = some ad ∧ w.cell? (ad.add j) = some (.slice a (M j).length c) ∧ Ints .i64 w a (M j) ∧ (a = none → c = 0) ∧ (M j).length ≤ c
  nil : ca = none → cc = 0
theorem Came.turn {w w' : World} {n : Nat} {M : Nat → List Int} {ca : Option Addr} {cc : Nat} (h : Came w n M ca cc) (t : Turn (fun _ => False) w w') : Came w' n M ca cc := by
  refine ⟨fun j hj => ?_, h.nil⟩
  obtain ⟨ad, a, c, e, h1, h2, h3, h4⟩ := h.row j hj
  exact ⟨ad, a, c, e, t.cell id h1, h2.turn t (fun _ _ => id), h3, h4⟩

theorem toolong_no {n cc : Nat} {M : Nat → List Int} {ca : Option Addr} {most : Nat} (w : World) (h : Came w n M ca cc) (hn : n ≤ 20) (hm : most ≤ 16) (hs : ∀ j, j < n → (M j).length ≤ most) :
    Calls Try.prog 66 #[.slice ca n cc, .int .i64 most] w fun e w' => e = .returned (.bool false) ∧ w = w' := by
  have H := Lib.hid h
  have HS := Lib.hid hs
  clear h hs
  go_enter Try.func66, Try.ntmps66
  go_wp2
  go_loop [9] (fun i => ∃ k : Nat, k ≤ n ∧ i = .int .i64 k) (fun i => n - (intOf i).toNat)
  case atStart => exact ⟨0, Nat.zero_le _, rfl⟩
  case round =>
    obtain ⟨k, hk, rfl⟩ := hrel
    by_cases hlt : k < n
    · obtain ⟨ad, a, c, hca, hcell, _, _, _⟩ := H.out.row k hlt
      subst hca
      have hle := HS.out k hlt
      have hdec : decide (most < (M k).length) = false := decide_eq_false (by omega)
      generalize (M k).length = m at hcell hle hdec
      go_wp2
      go_round
      case rel => exact ⟨k + 1, by omega, by go_num⟩
      case measure => simp [intOf]; omega
    · go_wp2
      go_ret
      exact ⟨rfl, rfl⟩
/-- All things of a row are from 0 to below f, and none is there twice. -/
def OK (f : Nat) (L : List Int) : Prop := (∀ x ∈ L, 0 ≤ x ∧ x < (f : Int)) ∧ L.Nodup
instance (f : Nat) (L : List Int) : Decidable (OK f L) := by unfold OK; infer_instance
def okB (f : Nat) (L : List Int) : Bool := decide (OK f L)
theorem OK.left {f : Nat} {P L : List Int} (h : OK f (P ++ L)) : OK f P := ⟨fun x hx => h.1 x (List.mem_append_left _ hx), (List.nodup_append.1 h.2).1⟩
theorem OK.take {f : Nat} {P L : List Int} (h : OK f (P ++ L)) (k : Nat) : OK f (P ++ L.take k) := by
  have e : P ++ L = (P ++ L.take k) ++ L.drop k := by rw [List.append_assoc, List.take_append_drop]
  rw [e] at h
  exact h.left
theorem ok_snoc {f : Nat} {P : List Int} {x : Int} (h : OK f P) : OK f (P ++ [x]) ↔ (0 ≤ x ∧ x < (f : Int)) ∧ x ∉ P := by
  constructor
  · intro h'
    refine ⟨h'.1 x (by simp), fun hx => ?_⟩
    have := List.nodup_append.1 h'.2
    exact this.2.2 x hx x (by simp) rfl
  · rintro ⟨h1, h2⟩
    refine ⟨fun y hy => ?_, ?_⟩
    · rcases List.mem_append.1 hy with hy | hy
      · exact h.1 y hy
      · have : y = x := by simpa using hy
        subst this; exact h1
    · rw [List.nodup_append]
      refine ⟨h.2, by simp, ?_⟩
      intro a ha b hb e
      have : b = x := by simpa using hb
      exact h2 (this ▸ e ▸ ha)
theorem take_snoc {L : List Int} {k : Nat} (h : k < L.length) (P : List Int) : P ++ L.take (k + 1) = (P ++ L.take k) ++ [L.getD k 0] := by
  rw [List.take_succ_eq_append_getElem h, List.append_assoc]
  simp [List.getD, h]

/-- What mark answers: whether all is well with P and L behind it; if so, both are marked. -/
def MarkPost (g f : Nat) (Q : List Int) (w : World) (e : Ending) (w' : World) : Prop :=
  e = .returned (.bool (okB f Q)) ∧ Turn (fun i => i = g) w w' ∧ (OK f Q → BRow w' g f (fun i => decide ((i : Int) ∈ Q)))
set_option maxHeartbeats 1000000 in
theorem mark_any {g f nl lc : Nat} {P L : List Int} {la : Option Addr} (w : World) (hP : OK f P) (hB : BRow w g f (fun i => decide ((i : Int) ∈ P))) (hf : f ≤ 64) (hL : ∀ wr, Turn (fun i => i = g) w wr → Ints .i64 wr la L) (hn : L.length = nl) (hn2 : nl ≤ 1000) :
    Calls Try.prog 82 #[.slice (some ⟨g, 0, none⟩) f f, .slice la nl lc] w (MarkPost g f (P ++ L) w) := by
  have HP := Lib.hid hP
  have HB0 := Lib.hid hB
  have HL := Lib.hid hL
  have HN := Lib.hid hn
  obtain ⟨r, hr⟩ : ∃ r, r = okB f (P ++ L) := ⟨_, rfl⟩
  have HR := Lib.hid hr
  unfold MarkPost
  rw [← hr]
  clear hP hB hL hn hr
  go_enter Try.func82, Try.ntmps82
  go_wp2_with fail
  go_loopw [9] (fun i wr => ∃ k : Nat, k ≤ nl ∧ i = .int .i64 k ∧ Hid (OK f (P ++ L.take k)) ∧ Hid (BRow wr g f (fun i => decide ((i : Int) ∈ P ++ L.take k))) ∧ Hid (Turn (fun i => i = g) w wr)) (fun i _ => nl - (intOf i).toNat)
  case atStart => exact ⟨0, Nat.zero_le _, rfl, Lib.hid (by simpa using HP.out), Lib.hid (by simpa using HB0.out), Lib.hid (Turn.refl _ _)⟩
  case round =>
    obtain ⟨k, hk, rfl, HK, HB, HT⟩ := hrel
    by_cases hlt : k < nl
    · have hltL : k < L.length := by rw [HN.out]; exact hlt
      obtain ⟨ad, ha, hc⟩ := (HL.out wr HT.out) k hltL
      subst ha
      have HTS := Lib.hid (take_snoc hltL P)
      have hbad := fun (hx : ¬ ((0 ≤ L.getD k 0 ∧ L.getD k 0 < (f : Int)) ∧ L.getD k 0 ∉ P ++ L.take k)) => (show r = false from by
        rw [HR.out]
        refine decide_eq_false fun h => hx ?_
        have h1 := h.take (k + 1)
        rw [HTS.out] at h1
        exact (ok_snoc HK.out).1 h1)
      generalize L.getD k 0 = x at hc hbad HTS
      by_cases h0 : x < 0
      · obtain rfl : r = false := hbad (fun h => by omega)
        clear hbad
        go_wp2_with fail
        go_ret
        exact ⟨rfl, HT.out, fun h => absurd (decide_eq_true h) (by show ¬ okB f (P ++ L) = true; rw [← HR.out]; simp)⟩
      · by_cases h1 : x < (f : Int)
        · obtain ⟨xn, rfl⟩ : ∃ xn : Nat, x = (xn : Int) := ⟨x.toNat, by omega⟩
          have hxf : xn < f := by omega
          have hxf2 : ¬ f ≤ xn := by omega
          have cb := HB.out.cell hxf
          have fb := HB.out.fr xn
          by_cases h2 : (xn : Int) ∈ P ++ L.take k
          · obtain rfl : r = false := hbad (fun h => h.2 h2)
            have cb2 : wr.cell? ⟨g, xn, none⟩ = some (.bool true) := by rw [cb]; simp only [decide_eq_true h2]
            clear hbad cb h0 h1 h2 fb
            go_wp2_with fail
            go_ret
            exact ⟨rfl, HT.out, fun h => absurd (decide_eq_true h) (by show ¬ okB f (P ++ L) = true; rw [← HR.out]; simp)⟩
          · have cb2 : wr.cell? ⟨g, xn, none⟩ = some (.bool false) := by rw [cb]; simp only [decide_eq_false h2]
            have HK2 := Lib.hid (show OK f (P ++ L.take (k + 1)) by rw [HTS.out]; exact (ok_snoc HK.out).2 ⟨⟨by omega, h1⟩, h2⟩)
            have HB2 := Lib.hid (HB.out.set (B' := fun i => decide ((i : Int) ∈ P ++ L.take (k + 1))) hxf true (fun j hj => by
              show decide ((j : Int) ∈ P ++ L.take (k + 1)) = _
              rw [HTS.out]
              by_cases e : j = xn
              · subst e; rw [if_pos rfl]; exact decide_eq_true (by simp)
              · rw [if_neg e, decide_eq_decide]
                constructor
                · intro h
                  rcases List.mem_append.1 h with h | h
                  · exact h
                  · have : (j : Int) = (xn : Int) := by simpa using h
                    omega
                · intro h; exact List.mem_append_left _ h))
            have HT2 := Lib.hid (HT.out.setCell (p := ⟨g, xn, none⟩) (Or.inl rfl) (.bool true))
            clear hbad cb h0 h1 h2
            go_wp2_with fail
            go_roundw
            case rel => exact ⟨k + 1, by omega, by go_num, HK2, HB2, HT2⟩
            case measure => simp [intOf]; omega
        · obtain rfl : r = false := hbad (fun h => h1 h.1.2)
          have hge : (f : Int) ≤ x := by omega
          clear hbad h1
          go_wp2_with fail
          go_ret
          exact ⟨rfl, HT.out, fun h => absurd (decide_eq_true h) (by show ¬ okB f (P ++ L) = true; rw [← HR.out]; simp)⟩
    · have hk2 : L.take k = L := List.take_of_length_le (by rw [HN.out]; omega)
      have HF := Lib.hid (And.intro HK.out HB.out)
      rw [hk2] at HF
      obtain rfl : r = true := by rw [HR.out]; exact decide_eq_true HF.out.1
      clear hk2
      go_wp2_with fail
      go_ret
      exact ⟨rfl, HT.out, fun _ => HF.out.2⟩

theorem rowsL_pre (M : Nat → List Int) (k : Nat) : ∀ n, k ≤ n → ∃ rest, rowsL M n = rowsL M k ++ rest := by
  intro n
  induction n with
  | zero => intro h; obtain rfl : k = 0 := by omega
            exact ⟨[], rfl⟩
  | succ n ih =>
    intro h
    by_cases e : k = n + 1
    · subst e; exact ⟨[], by simp⟩
    · obtain ⟨rest, e2⟩ := ih (by omega)
      exact ⟨rest ++ M n, by show rowsL M n ++ M n = _; rw [e2, List.append_assoc]⟩
set_option maxHeartbeats 1000000 in
theorem apart_any {n cc nm mc f : Nat} {M : Nat → List Int} {ca ma : Option Addr} {r : Bool} (w : World) (h : Came w n M ca cc) (hn : n ≤ 20) (hb : ∀ j, j < n → (M j).length ≤ 100) (hm : Ints .i64 w ma (M n)) (hnm : (M n).length = nm) (hnm2 : nm ≤ 100) (hf : f ≤ 64) (hr : okB f (rowsL M (n + 1)) = r) :
    Calls Try.prog 67 #[.slice ca n cc, .slice ma nm mc, .int .i64 f] w fun e w' => e = .returned (.bool r) ∧ Turn (fun _ => False) w w' := by
  have H := Lib.hid h
  have HB := Lib.hid hb
  have HM := Lib.hid hm
  have HNM := Lib.hid hnm
  have HR := Lib.hid hr
  clear h hb hm hnm hr
  go_enter Try.func67, Try.ntmps67
  go_wp2_with (with_reducible refine wpList_make_zeros cells_false Try.underlying69 info_bool (by decide) rfl (.tmp 10) (.tmp 10) rfl f rfl rfl (by omega) ?_; intro w1 Z1 T1)
  have HB0 := Lib.hid (show BRow w1 w.heap.size f (fun i => decide ((i : Int) ∈ rowsL M 0)) from BRow.of Z1.out)
  have HT0 : Hid (Turn (fun i => i = w.heap.size) w1 w1) := Lib.hid (Turn.refl _ _)
  generalize hg : w.heap.size = g at HB0 HT0 ⊢
  have HG := Lib.hid hg
  clear hg
  go_loopw [14] (fun i wr => ∃ k : Nat, k ≤ n ∧ i = .int .i64 k ∧ Hid (OK f (rowsL M k)) ∧ Hid (BRow wr g f (fun i => decide ((i : Int) ∈ rowsL M k))) ∧ Hid (Turn (fun _ => False) w wr)) (fun i _ => n - (intOf i).toNat)
  case atStart => exact ⟨0, Nat.zero_le _, rfl, Lib.hid ⟨fun x hx => (by cases hx), List.nodup_nil⟩, HB0, Lib.hid T1.out⟩
  case round =>
    clear HB0 HT0
    obtain ⟨k, hk, rfl, HK, HBk, HT⟩ := hrel
    by_cases hlt : k < n
    · obtain ⟨ad, a, c, hca, hcell0, hints, hnil, hlc⟩ := H.out.row k hlt
      subst hca
      have hcell := HT.out.cell (p := ad.add k) id hcell0
      have h100 := HB.out k hlt
      obtain ⟨nk, hnk⟩ : ∃ nk, (M k).length = nk := ⟨_, rfl⟩
      rw [hnk] at hcell h100
      have HNK := Lib.hid hnk
      have HI := Lib.hid (show ∀ wq, Turn (fun i => i = g) wr wq → Ints .i64 wq a (M k) from fun wq t => hints.turn (HT.out.and t (fun i hi e => by have e' : i = g := e; have := HG.out; omega)) (fun _ _ => id))
      have hfin : ¬ OK f (rowsL M (k + 1)) → r = false := fun hx => by
        rw [← HR.out]
        refine decide_eq_false fun h => hx ?_
        obtain ⟨rest, e⟩ := rowsL_pre M (k + 1) (n + 1) (by omega)
        rw [e] at h
        exact h.left
      clear hnk hints hnil hlc hcell0
      by_cases hok : OK f (rowsL M (k + 1))
      · have HOK := Lib.hid hok
        have HMark := Lib.hid (show Calls Try.prog 82 #[.slice (some ⟨g, 0, none⟩) f f, .slice a nk c] wr fun e w' => e = .returned (.bool true) ∧ Turn (fun i => i = g) wr w' ∧ BRow w' g f (fun i => decide ((i : Int) ∈ rowsL M (k + 1))) from (mark_any wr HK.out HBk.out hf HI.out HNK.out (by omega)).mono (by
          rintro e w' ⟨rfl, h1, h2⟩
          exact ⟨ret_bool (decide_eq_true hok), h1, h2 hok⟩))
        clear hok hfin
        go_wp2_with fail
        refine HMark.out.mono ?_
        rintro e w5 ⟨rfl, t5, b5⟩
        have T5 := Lib.hid (HT.out.and t5 (fun i hi e => by have e' : i = g := e; have := HG.out; omega))
        have B5 := Lib.hid b5
        clear t5 b5
        go_wp2_with fail
        go_roundw
        case rel => exact ⟨k + 1, by omega, by go_num, HOK, B5, T5⟩
        case measure => simp [intOf]; omega
      · obtain rfl : r = false := hfin hok
        have HMark := Lib.hid (show Calls Try.prog 82 #[.slice (some ⟨g, 0, none⟩) f f, .slice a nk c] wr fun e w' => e = .returned (.bool false) ∧ Turn (fun i => i = g) wr w' from (mark_any wr HK.out HBk.out hf HI.out HNK.out (by omega)).mono (by
          rintro e w' ⟨rfl, h1, h2⟩
          exact ⟨ret_bool (decide_eq_false hok), h1⟩))
        clear hok hfin
        go_wp2_with fail
        refine HMark.out.mono ?_
        rintro e w5 ⟨rfl, t5⟩
        have T5 := Lib.hid (HT.out.and t5 (fun i hi e => by have e' : i = g := e; have := HG.out; omega))
        clear t5
        go_wp2_with fail
        go_ret
        exact ⟨rfl, T5.out⟩
    · have hkn : k = n := by omega
      have HMark := Lib.hid (show Calls Try.prog 82 #[.slice (some ⟨g, 0, none⟩) f f, .slice ma nm mc] wr fun e w' => e = .returned (.bool r) ∧ Turn (fun i => i = g) wr w' from (mark_any wr HK.out HBk.out hf (fun wq t => HM.out.turn (HT.out.and t (fun i hi e => by have e' : i = g := e; have := HG.out; omega)) (fun _ _ => id)) HNM.out (by omega)).mono (by
        rintro e w' ⟨rfl, h1, h2⟩
        refine ⟨ret_bool ?_, h1⟩
        rw [hkn]
        exact HR.out))
      clear hkn
      go_wp2_with fail
      refine HMark.out.mono ?_
      rintro e w5 ⟨rfl, t5⟩
      have T5 := Lib.hid (HT.out.and t5 (fun i hi e => by have e' : i = g := e; have := HG.out; omega))
      clear t5
      go_wp2_with fail
      go_ret
      exact ⟨rfl, T5.out⟩

/-- The middle is another row, stored in its place. -/
theorem IsPool.putm {w w5 : World} {base p q : Nat} {s : St} {R : Nat → Rw} (h : IsPool w base p q s R) {r : Rw} (hr : r.own w5 base) (t : Turn (fun k => (R s.n).v.ownBlock = some k) w w5) (hb : ∀ k, r.v.ownBlock = some k → (R s.n).v.ownBlock = some k ∨ w.heap.size ≤ k) :
    Kept w (w5.setCell ⟨p, 3, none⟩ r.v) base p q s.n R (withM s s.n r.l) := by
  have r1 := (h.rows.put h.cells.ltp h.cells.ltq (Nat.le_refl s.n) hr t hb).set (Or.inl rfl) 3 r.v
  have c5 := h.cells.turn t (fun e => (h.rows.far s.n p (Nat.le_refl _) e).1 rfl) (fun e => (h.rows.far s.n q (Nat.le_refl _) e).2 rfl)
  have k1 := c5.put3 h.ne r
  have t1 := (t.mono (S' := PB p q s.n R) (fun k _ e => Or.inr (Or.inr ⟨s.n, Nat.le_refl _, e⟩))).setCell (p := ⟨p, 3, none⟩) (Or.inl (Or.inl rfl)) r.v
  refine ⟨setR R s.n r, IsPool.mk (s := withM s s.n r.l) r1 k1 (fun i hi => ?_) h.ne h.bp h.bq, t1, ?_⟩
  · show (if i = s.n then r else R i).l = if i = s.n then r.l else s.M i
    by_cases e : i = s.n
    · rw [if_pos e, if_pos e]
    · rw [if_neg e, if_neg e]; exact h.m i hi
  · rintro k (e | e | ⟨x, hx, e⟩)
    · exact Or.inl (Or.inl e)
    · exact Or.inl (Or.inr (Or.inl e))
    · have e' : (if x = s.n then r else R x).v.ownBlock = some k := e
      by_cases e1 : x = s.n
      · rw [if_pos e1] at e'
        rcases hb k e' with h1 | h1
        · exact Or.inl (Or.inr (Or.inr ⟨s.n, Nat.le_refl _, h1⟩))
        · exact Or.inr h1
      · rw [if_neg e1] at e'
        exact Or.inl (Or.inr (Or.inr ⟨x, hx, e'⟩))

def BadPost (w : World) (e : Ending) (w' : World) : Prop := e = .returned (.tuple #[.pointer none, .int .i64 1]) ∧ Turn (fun _ => False) w w'
theorem of_cannot {a b f : Int} {n cc nm mc : Nat} {ca ma : Option Addr} (w : World) (h : a < 0 ∨ 64 < a ∨ (n : Int) < 0 ∨ 8 < (n : Int) ∨ b < 1 ∨ 16 < b) (hn : n ≤ 20) :
    Calls Try.prog 37 #[.int .i64 a, .int .i64 b, .slice ca n cc, .slice ma nm mc, .int .i64 f] w (BadPost w) := by
  have H := Lib.hid h
  clear h
  go_enter Try.func37, Try.ntmps37
  go_wp2_with fail
  refine (new_bad w H.out).mono ?_
  rintro e w1 ⟨rfl, rfl⟩
  go_wp2_with fail
  go_ret2
  exact ⟨rfl, Turn.refl _ _⟩
/-- The first k caches are in. -/
def partS (n size most : Nat) (M : Nat → List Int) (k : Nat) : St := ⟨n, size, most, 0, fun j => if j < k then M j else []⟩
theorem part_next {n size most k : Nat} {M : Nat → List Int} : withM (partS n size most M k) k (M k) = partS n size most M (k + 1) := by
  unfold withM partS
  congr 1
  funext j
  show (if j = k then M k else if j < k then M j else []) = if j < k + 1 then M j else []
  by_cases e : j = k
  · subst e; rw [if_pos rfl, if_pos (by omega)]
  · rw [if_neg e]
    by_cases e2 : j < k
    · rw [if_pos e2, if_pos (by omega)]
    · rw [if_neg e2, if_neg (by omega)]
theorem IsPool.to {w : World} {base p q : Nat} {s s' : St} {R : Nat → Rw} (h : IsPool w base p q s R) (h1 : s'.n = s.n) (h2 : s'.size = s.size) (h3 : s'.most = s.most) (h4 : s'.fresh = s.fresh) (h5 : ∀ i, i ≤ s.n → s'.M i = s.M i) : IsPool w base p q s' R := by
  refine ⟨by rw [h1]; exact h.rows, by rw [h1, h2, h3, h4]; exact h.cells, fun i hi => ?_, h.ne, h.bp, h.bq⟩
  rw [h1] at hi
  rw [h5 i hi]
  exact h.m i hi

def OfPost (n size most f : Nat) (M : Nat → List Int) (w : World) (e : Ending) (w' : World) : Prop :=
  ∃ p q R, e = .returned (.tuple #[.pointer (some ⟨p, 0, none⟩), .int .i64 0]) ∧ IsPool w' w.heap.size p q ⟨n, size, most, f, M⟩ R ∧ Turn (fun _ => False) w w'
set_option maxRecDepth 100000 in
set_option maxHeartbeats 2000000 in
theorem of_good {size most n cc nm mc f : Nat} {M : Nat → List Int} {ca ma : Option Addr} (w : World) (hn : n ≤ 8) (hs : size ≤ 64) (hm : 1 ≤ most ∧ most ≤ 16) (hf : f ≤ size) (hC : Came w n M ca cc) (hb : ∀ j, j < n → (M j).length ≤ 100) (hl : ∀ j, j < n → (M j).length ≤ most) (hmid : Ints .i64 w ma (M n)) (hnm : (M n).length = nm) (hnm2 : nm ≤ 100) (hok : okB f (rowsL M (n + 1)) = true) :
    Calls Try.prog 37 #[.int .i64 size, .int .i64 most, .slice ca n cc, .slice ma nm mc, .int .i64 f] w (OfPost n size most f M w) := by
  have HM := Lib.hid hm
  have HC := Lib.hid hC
  have HB := Lib.hid hb
  have HL := Lib.hid hl
  have HMid := Lib.hid hmid
  have HNM := Lib.hid hnm
  have HOK := Lib.hid hok
  clear hm hC hb hl hmid hnm hok
  go_enter Try.func37, Try.ntmps37
  go_wp2_with fail
  refine (new_at (n := n) (size := size) (most := most) w rfl rfl rfl hn hs HM.out).mono ?_
  rintro e w1 ⟨p, q, rfl, hp, hq, h2, t2⟩
  have T2 := Lib.hid t2
  have P2 := Lib.hid (show IsPool w1 w.heap.size p q (partS n size most M 0) R0 from h2.to rfl rfl rfl rfl (fun i _ => rfl))
  clear hp hq h2 t2
  go_wp2_with fail
  refine (toolong_no w1 (HC.out.turn T2.out) (by omega) HM.out.2 HL.out).mono ?_
  rintro e w2 ⟨rfl, rfl⟩
  go_wp2_with fail
  refine (apart_any w1 (HC.out.turn T2.out) (by omega) HB.out (HMid.out.turn T2.out (fun _ _ => id)) HNM.out hnm2 (by omega) HOK.out).mono ?_
  rintro e w3 ⟨rfl, t3⟩
  have T3 := Lib.hid (T2.out.trans t3)
  have P3 := Lib.hid (P2.out.new t3)
  clear t3 P2 T2
  go_wp2_with fail
  go_loopw [49] (fun i wr => ∃ (k : Nat) (R : Nat → Rw), k ≤ n ∧ i = .int .i64 k ∧ Hid (IsPool wr w.heap.size p q (partS n size most M k) R) ∧ Hid (Turn (fun _ => False) w wr)) (fun i _ => n - (intOf i).toNat)
  case atStart => exact ⟨0, R0, Nat.zero_le _, rfl, P3, T3⟩
  case round =>
    clear P3 T3
    obtain ⟨k, R, hk, rfl, HP, HT⟩ := hrel
    by_cases hlt : k < n
    · obtain ⟨ad, a, c, hca, hcell, hints, hnil, hlc⟩ := (HC.out.turn HT.out).row k hlt
      subst hca
      have h16 := HL.out k hlt
      have hm16 := HM.out.2
      obtain ⟨nk, hnk⟩ : ∃ nk, (M k).length = nk := ⟨_, rfl⟩
      rw [hnk] at hcell h16
      have HNK := Lib.hid hnk
      have HI := Lib.hid hints
      have hkn := Lib.hid (show k < (partS n size most M k).n from hlt)
      have hne1 : ¬ p = q := HP.out.ne
      have hne2 : ¬ q = p := fun e => hne1 e.symm
      have hki : (k : Int) < (n : Int) := by omega
      clear hnk hints hnil hlc
      go_wp2_with fail
      have c2 : wr.cell? ⟨p, 2, none⟩ = some (.slice (some ⟨q, 0, none⟩) n n) := HP.out.cells.c2
      refine stand_start (by kernel_rfl) 8 (fun w' => w'.cell? ⟨p, 2, none⟩ = some (.slice (some ⟨q, 0, none⟩) n n)) 8 (fun w' => True) c2 trivial ?_
      clear c2
      refine stand_take (i := 0) (v := ?_) rfl (by kernel_rfl) (by kernel_rfl) (by kernel_rfl) (by rfl) (fun _ _ _ h => h) (by decide) (by decide) (by rfl) ?_ ?_
      rotate_left
      · (intro w; go_simp; try with_reducible rfl)
      dsimp only [List.set_cons_zero, List.set_cons_succ]
      refine stand_take (i := 1) (v := ?_) rfl (by kernel_rfl) (by kernel_rfl) (by kernel_rfl) (by rfl) (fun _ _ _ h => h) (by decide) (by decide) (by rfl) ?_ ?_
      rotate_left
      · (intro w; go_simp; try with_reducible rfl)
      dsimp only [List.set_cons_zero, List.set_cons_succ]
      refine stand_take (i := 2) (v := ?_) rfl (by kernel_rfl) (by kernel_rfl) (by kernel_rfl) (by rfl) (fun _ _ _ h => h) (by decide) (by decide) (by rfl) ?_ ?_
      rotate_left
      · (intro w; go_simp; try with_reducible rfl)
      dsimp only [List.set_cons_zero, List.set_cons_succ]
      refine stand_load1 (i := 3) (v := ?_) rfl (by kernel_rfl) (by kernel_rfl) (by kernel_rfl) (by rfl) (fun _ _ _ h => h) (by decide) (by decide) (by kernel_rfl) (by rfl) ?_ ?_
      rotate_left
      · (intro w hA; (try dsimp only at hA); go_simp; try with_reducible rfl)
      dsimp only [List.set_cons_zero, List.set_cons_succ]
      refine stand_take (i := 4) (v := ?_) rfl (by kernel_rfl) (by kernel_rfl) (by kernel_rfl) (by rfl) (fun _ _ _ h => h) (by decide) (by decide) (by rfl) ?_ ?_
      rotate_left
      · (intro w; go_simp; try with_reducible rfl)
      dsimp only [List.set_cons_zero, List.set_cons_succ]
      refine stand_take (i := 5) (v := ?_) rfl (by kernel_rfl) (by kernel_rfl) (by kernel_rfl) (by rfl) (fun _ _ _ h => h) (by decide) (by decide) (by rfl) ?_ ?_
      rotate_left
      · (intro w; go_simp; try with_reducible rfl)
      dsimp only [List.set_cons_zero, List.set_cons_succ]
      have hcop := copied_any (cap := c) wr.drew (HI.out.turn (Turn.refl (fun _ => False) wr).drew (fun _ _ => id)) (by rw [HNK.out]; omega)
      rw [HNK.out] at hcop
      have HCop := Lib.hid hcop
      clear hcop
      refine stand_step (i := 6) (by kernel_rfl) rfl (fun K hK => ?_)
      go_simp
      refine HCop.out.mono ?_
      rintro e w5 ⟨rfl, r5, t5⟩
      have R5 := Lib.hid r5
      have T5 := Lib.hid ((Turn.refl (fun _ => False) wr).drew.trans t5)
      clear r5 t5
      have P5 := Lib.hid (HP.out.new T5.out)
      refine hK.out _ _ (fun _ => P5.out.cells.c2) (fun _ => trivial) ?_
      clear hK K
      try simp only [put_laid, List.set_cons_zero, List.set_cons_succ]
      refine stand_take (i := 7) (v := ?_) rfl (by kernel_rfl) (by kernel_rfl) (by kernel_rfl) (by rfl) (fun _ _ _ h => h) (by decide) (by decide) (by rfl) ?_ ?_
      rotate_left
      · (intro w; go_simp; try with_reducible rfl)
      dsimp only [List.set_cons_zero, List.set_cons_succ]
      have dq := P5.out.cells.rc hkn.out
      have fq := P5.out.cells.fq k
      refine stand_step (i := 8) (by kernel_rfl) rfl (fun K hK => ?_)
      go_simp
      refine hK.out _ _ (past (by kernel_rfl)) (past (by kernel_rfl)) ?_
      clear hK K
      try simp only [put_laid, List.set_cons_zero, List.set_cons_succ]
      refine stand_done (by kernel_rfl) ?_
      clear dq fq
      have hown : (⟨some ⟨wr.drew.heap.size, 0, none⟩, nk, M k⟩ : Rw).own w5 w.heap.size := by
        unfold Rw.own Rw.v
        have h := R5.out.own (base := w.heap.size) (Nat.le_trans HP.out.bp (Nat.le_of_lt HP.out.cells.ltp)) (by rw [HNK.out]; unfold maxLen; omega)
        rw [HNK.out] at h ⊢
        exact h
      have hkp := HP.out.putq hkn.out hown (T5.out.mono (fun i _ e => absurd e id)) (fun x hx => by
        unfold Rw.v at hx
        rw [own_block] at hx
        have hx' : wr.heap.size = x := Option.some.inj hx
        exact Or.inr (by omega))
      rw [part_next] at hkp
      unfold Rw.v at hkp
      rw [HNK.out] at hkp
      obtain ⟨R6, h6, t6, _⟩ := hkp
      have P6 := Lib.hid h6
      have T6 := Lib.hid (HT.out.and t6 (fun i hi e => by have := (HP.out.blocks e).1; omega))
      clear h6 t6 hown
      go_wp2_with fail
      refine ⟨⟨_, _, _, ⟨k + 1, by omega, by go_num, ⟨R6, P6⟩, T6⟩, rfl, rfl, rfl⟩, ?_⟩
      first | (simp [intOf]; omega) | (simp only [intOf, Int.toNat_natCast]; omega) | omega | trace_state
    · have hkn : k = n := by omega
      have HPn := Lib.hid (show IsPool wr w.heap.size p q (partS n size most M n) R by have := HP.out; rw [hkn] at this; exact this)
      have hcop := copied_any (cap := mc) wr (HMid.out.turn HT.out (fun _ _ => id)) (by rw [HNM.out]; omega)
      rw [HNM.out] at hcop
      have HCop := Lib.hid hcop
      clear hcop hkn HP
      go_wp2_with fail
      refine HCop.out.mono ?_
      rintro e w5 ⟨rfl, r5, t5⟩
      have R5 := Lib.hid r5
      have T5 := Lib.hid t5
      have P5 := Lib.hid (HPn.out.new t5)
      clear r5 t5
      have d3 := P5.out.cells.c3
      have f3 := P5.out.cells.f 3
      have d3 : w5.cell? ⟨p, 3, none⟩ = some (.slice (R n).a (R n).l.length (R n).c) := d3
      go_upto_region 10 with fail
      clear d3 f3
      have hown : (⟨some ⟨wr.heap.size, 0, none⟩, nm, M n⟩ : Rw).own w5 w.heap.size := by
        unfold Rw.own Rw.v
        have h := R5.out.own (base := w.heap.size) (Nat.le_trans HPn.out.bp (Nat.le_of_lt HPn.out.cells.ltp)) (by rw [HNM.out]; unfold maxLen; omega)
        rw [HNM.out] at h ⊢
        exact h
      have hkp := HPn.out.putm hown (T5.out.mono (fun i _ e => absurd e id)) (fun x hx => by
        unfold Rw.v at hx
        rw [own_block] at hx
        have hx' : wr.heap.size = x := Option.some.inj hx
        exact Or.inr (by omega))
      unfold Rw.v at hkp
      rw [HNM.out] at hkp
      obtain ⟨R6, h6, t6, _⟩ := hkp
      have h6' : IsPool (w5.setCell ⟨p, 3, none⟩ (.slice (some ⟨wr.heap.size, 0, none⟩) nm nm)) w.heap.size p q ⟨n, size, most, 0, M⟩ R6 := h6.to rfl rfl rfl rfl (fun i hi => by
        show M i = if i = n then M n else if i < n then M i else []
        have hi' : i ≤ n := hi
        by_cases e : i = n
        · rw [if_pos e, e]
        · rw [if_neg e, if_pos (by omega)])
      have P6 := Lib.hid h6'
      have T6 := Lib.hid (HT.out.and t6 (fun i hi e => by have := (HPn.out.blocks e).1; omega))
      clear h6 h6' t6 hown
      generalize w5.setCell ⟨p, 3, none⟩ (.slice (some ⟨wr.heap.size, 0, none⟩) nm nm) = w6 at P6 T6 ⊢
      have d4 : w6.cell? ⟨p, 4, none⟩ = some (.int .i64 0) := P6.out.cells.c4
      have f4 := P6.out.cells.f 4
      go_wp2_with fail
      go_ret2
      obtain ⟨R7, h7, t7, _⟩ := P6.out.put4 f
      exact ⟨p, q, R7, rfl, h7, T6.out.and t7 (fun i hi e => by have := (P6.out.blocks e).1; omega)⟩

end Go.Proofs.Ytenbafkgfdlfpaa.R5.C5
