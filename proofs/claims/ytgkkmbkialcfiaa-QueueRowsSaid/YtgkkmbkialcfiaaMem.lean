/- The queues in memory; what only looks, and what sets one tie: queue, thing, loose, First, In, setBehind, setAhead. -/
import Derived.Test.YtgkkmbkialcfiaaMath
import Derived.BigQuiet
import Derived.Deep.QuietTactic
import Derived.Outline
import Derived.RegionTactic
import Derived.ChangeAlike
namespace Go.Proofs.Ytgkkmbkialcfiaa
open Go.RowKit
set_option linter.unusedVariables false

/-- Block g is n integers, f of each number. -/
def RowF (e : TypeId) (w : World) (g n : Nat) (f : Nat → Int) : Prop := w.heap[g]? = some (.cells ((List.range n).map fun i => Value.int .i64 (f i)).toArray e (0, 0))
section
variable {e : TypeId} {w w' : World} {g n : Nat} {f : Nat → Int} {S : Nat → Prop}
theorem RowF.cell (h : RowF e w g n f) {i : Nat} (hi : i < n) : w.cell? ⟨g, i, none⟩ = some (.int .i64 (f i)) := by
  unfold RowF at h
  simp [World.cell?, h, hi]
theorem RowF.frozen (h : RowF e w g n f) (i : Nat) : w.frozen? ⟨g, i, none⟩ = false := by
  unfold RowF at h
  simp [World.frozen?, h]
theorem RowF.set (h : RowF e w g n f) (i : Nat) (x : Int) : RowF e (w.setCell ⟨g, i, none⟩ (.int .i64 x)) g n (upd f i x) := by
  unfold RowF at h ⊢
  rw [heap_setCell_at h]
  congr 2
  rw [List.setIfInBounds_toArray]
  congr 1
  apply List.ext_getElem?
  intro j
  rw [List.getElem?_set]
  by_cases e : i = j
  · subst e
    by_cases hj : i < n
    · simp [hj, upd]
    · simp [hj]
  · rw [if_neg e]
    by_cases hj : j < n
    · simp [hj, upd]
      intro h; exact absurd h.symm e
    · simp [hj]
theorem RowF.turn (h : RowF e w g n f) (t : Turn S w w') (hg : ¬ S g) : RowF e w' g n f := t.heap hg h
theorem RowF.lt (h : RowF e w g n f) : g < w.heap.size := (Array.getElem?_eq_some_iff.1 h).1
end

structure Cells (w : World) (base p tb eb n m : Nat) (c : Cl) : Prop where
  box : w.heap[p]? = some (.cells #[.slice (some ⟨tb, 0, none⟩) n n, .slice (some ⟨eb, 0, none⟩) m m] 52 (0, 0))
  ties : RowF 54 w tb (3 * n) c.T
  ends : RowF 57 w eb (2 * m) c.E
  ne : p ≠ tb ∧ p ≠ eb ∧ tb ≠ eb
  b : base ≤ p ∧ base ≤ tb ∧ base ≤ eb
def QB (p tb eb i : Nat) : Prop := i = p ∨ i = tb ∨ i = eb
section
variable {w w' : World} {base p tb eb n m : Nat} {c : Cl} {S : Nat → Prop}
theorem Cells.c0 (h : Cells w base p tb eb n m c) : w.cell? ⟨p, 0, none⟩ = some (.slice (some ⟨tb, 0, none⟩) n n) := by simp [World.cell?, h.box]
theorem Cells.c1 (h : Cells w base p tb eb n m c) : w.cell? ⟨p, 1, none⟩ = some (.slice (some ⟨eb, 0, none⟩) m m) := by simp [World.cell?, h.box]
theorem Cells.t0 (h : Cells w base p tb eb n m c) {x : Nat} (hx : x < n) : w.cell? ⟨tb, x * 3, none⟩ = some (.int .i64 (c.T (3 * x))) := by
  rw [Nat.mul_comm]; exact h.ties.cell (by omega)
theorem Cells.t1 (h : Cells w base p tb eb n m c) {x : Nat} (hx : x < n) : w.cell? ⟨tb, x * 3 + 1, none⟩ = some (.int .i64 (c.T (3 * x + 1))) := by
  rw [Nat.mul_comm]; exact h.ties.cell (by omega)
theorem Cells.t2 (h : Cells w base p tb eb n m c) {x : Nat} (hx : x < n) : w.cell? ⟨tb, x * 3 + 2, none⟩ = some (.int .i64 (c.T (3 * x + 2))) := by
  rw [Nat.mul_comm]; exact h.ties.cell (by omega)
theorem Cells.e0 (h : Cells w base p tb eb n m c) {k : Nat} (hk : k < m) : w.cell? ⟨eb, k * 2, none⟩ = some (.int .i64 (c.E (2 * k))) := by
  rw [Nat.mul_comm]; exact h.ends.cell (by omega)
theorem Cells.e1 (h : Cells w base p tb eb n m c) {k : Nat} (hk : k < m) : w.cell? ⟨eb, k * 2 + 1, none⟩ = some (.int .i64 (c.E (2 * k + 1))) := by
  rw [Nat.mul_comm]; exact h.ends.cell (by omega)
theorem Cells.turn (h : Cells w base p tb eb n m c) (t : Turn S w w') (hs : ∀ i, QB p tb eb i → ¬ S i) : Cells w' base p tb eb n m c :=
  ⟨t.heap (hs p (Or.inl rfl)) h.box, h.ties.turn t (hs tb (Or.inr (Or.inl rfl))), h.ends.turn t (hs eb (Or.inr (Or.inr rfl))), h.ne, h.b⟩
theorem Cells.new (h : Cells w base p tb eb n m c) (t : Turn (fun _ => False) w w') : Cells w' base p tb eb n m c := h.turn t (fun _ _ => id)
theorem Cells.less {base' : Nat} (h : Cells w base p tb eb n m c) (hb : base' ≤ base) : Cells w base' p tb eb n m c := ⟨h.box, h.ties, h.ends, h.ne, by have := h.b; omega⟩
theorem Cells.lt (h : Cells w base p tb eb n m c) : p < w.heap.size ∧ tb < w.heap.size ∧ eb < w.heap.size := ⟨(Array.getElem?_eq_some_iff.1 h.box).1, h.ties.lt, h.ends.lt⟩
theorem Cells.blocks (h : Cells w base p tb eb n m c) {i : Nat} (hi : QB p tb eb i) : base ≤ i ∧ i < w.heap.size := by
  have := h.b
  have := h.lt
  rcases hi with e | e | e <;> omega
theorem Cells.putT (h : Cells w base p tb eb n m c) (i : Nat) (x : Int) : Cells (w.setCell ⟨tb, i, none⟩ (.int .i64 x)) base p tb eb n m ⟨upd c.T i x, c.E⟩ :=
  ⟨(Below.heap_setCell _ _ _ _ h.ne.1).trans h.box, h.ties.set i x, (Below.heap_setCell _ _ _ _ (Ne.symm h.ne.2.2)).trans h.ends, h.ne, h.b⟩
theorem Cells.putE (h : Cells w base p tb eb n m c) (i : Nat) (x : Int) : Cells (w.setCell ⟨eb, i, none⟩ (.int .i64 x)) base p tb eb n m ⟨c.T, upd c.E i x⟩ :=
  ⟨(Below.heap_setCell _ _ _ _ h.ne.2.1).trans h.box, (Below.heap_setCell _ _ _ _ h.ne.2.2).trans h.ties, h.ends.set i x, h.ne, h.b⟩
theorem Cells.putT_turn (h : Cells w base p tb eb n m c) (i : Nat) (v : Value) : Turn (QB p tb eb) w (w.setCell ⟨tb, i, none⟩ v) := (Turn.refl _ _).setCell (Or.inl (Or.inr (Or.inl rfl))) v
theorem Cells.putE_turn (h : Cells w base p tb eb n m c) (i : Nat) (v : Value) : Turn (QB p tb eb) w (w.setCell ⟨eb, i, none⟩ v) := (Turn.refl _ _).setCell (Or.inl (Or.inr (Or.inr rfl))) v
theorem Cells.tie (h : Cells w base p tb eb n m c) (x : Nat) (q a b : Int) : Cells (((w.setCell ⟨tb, x * 3, none⟩ (.int .i64 q)).setCell ⟨tb, x * 3 + 1, none⟩ (.int .i64 a)).setCell ⟨tb, x * 3 + 2, none⟩ (.int .i64 b)) base p tb eb n m (c.tie x q a b) := by
  unfold Cl.tie
  rw [Nat.mul_comm]
  exact ((h.putT (3 * x) q).putT (3 * x + 1) a).putT (3 * x + 2) b
theorem Cells.tie_turn (h : Cells w base p tb eb n m c) (x : Nat) (q a b : Int) : Turn (QB p tb eb) w (((w.setCell ⟨tb, x * 3, none⟩ (.int .i64 q)).setCell ⟨tb, x * 3 + 1, none⟩ (.int .i64 a)).setCell ⟨tb, x * 3 + 2, none⟩ (.int .i64 b)) :=
  (((Turn.refl _ _).setCell (p := ⟨tb, x * 3, none⟩) (Or.inl (Or.inr (Or.inl rfl))) _).setCell (p := ⟨tb, x * 3 + 1, none⟩) (Or.inl (Or.inr (Or.inl rfl))) _).setCell (p := ⟨tb, x * 3 + 2, none⟩) (Or.inl (Or.inr (Or.inl rfl))) _
end

theorem queue_any {base p tb eb n m : Nat} {c : Cl} {k : Int} {b : Bool} (w : World) (h : Cells w base p tb eb n m c) (hb : decide (0 ≤ k ∧ k < (m : Int)) = b) :
    Calls Try.prog 24 #[.pointer (some ⟨p, 0, none⟩), .int .i64 k] w fun e w' => e = .returned (.bool b) ∧ w = w' := by
  have c1 := h.c1
  clear h
  have HB := Lib.hid hb
  clear hb
  by_cases h0 : 0 ≤ k
  · have HD := Lib.hid (show decide (k < (m : Int)) = b by rw [← HB.out]; simp [h0])
    go_enter Try.func24, Try.ntmps24
    go_wp2
    go_ret
    exact ⟨ret_bool HD.out, rfl⟩
  · have HD := Lib.hid (show false = b by rw [← HB.out]; simp [h0])
    go_enter Try.func24, Try.ntmps24
    go_wp2
    go_ret
    exact ⟨ret_bool HD.out, rfl⟩
theorem thing_any {base p tb eb n m : Nat} {c : Cl} {x : Int} {b : Bool} (w : World) (h : Cells w base p tb eb n m c) (hb : decide (0 ≤ x ∧ x < (n : Int)) = b) :
    Calls Try.prog 26 #[.pointer (some ⟨p, 0, none⟩), .int .i64 x] w fun e w' => e = .returned (.bool b) ∧ w = w' := by
  have c0 := h.c0
  clear h
  have HB := Lib.hid hb
  clear hb
  by_cases h0 : 0 ≤ x
  · have HD := Lib.hid (show decide (x < (n : Int)) = b by rw [← HB.out]; simp [h0])
    go_enter Try.func26, Try.ntmps26
    go_wp2
    go_ret
    exact ⟨ret_bool HD.out, rfl⟩
  · have HD := Lib.hid (show false = b by rw [← HB.out]; simp [h0])
    go_enter Try.func26, Try.ntmps26
    go_wp2
    go_ret
    exact ⟨ret_bool HD.out, rfl⟩

theorem loose_any (w : World) : Calls Try.prog 23 #[] w fun e w' => e = .returned (.agg #[.int .i64 (-1), .int .i64 (-1), .int .i64 (-1)]) ∧ Turn (fun _ => False) w w' := by
  go_enter Try.func23, Try.ntmps23
  go_wp2
  refine bodyPost_ret (v := .agg #[.int .i64 (-1), .int .i64 (-1), .int .i64 (-1)]) (by simp [results, Try.results23, go_sem]) rfl ⟨rfl, (Turn.refl _ _).alloc _⟩

def SetPost (base p tb eb n m : Nat) (c' : Cl) (w : World) (e : Ending) (w' : World) : Prop := e = .returned (.tuple #[]) ∧ Cells w' base p tb eb n m c' ∧ Turn (QB p tb eb) w w'
theorem setb_any {base p tb eb n m k : Nat} {c : Cl} {a b : Int} (w : World) (h : Cells w base p tb eb n m c) (hk : k < m) (ha : a = -1 ∨ ∃ x : Nat, a = x ∧ x < n) :
    Calls Try.prog 27 #[.pointer (some ⟨p, 0, none⟩), .int .i64 k, .int .i64 a, .int .i64 b] w (SetPost base p tb eb n m (c.beh k a b) w) := by
  have H := Lib.hid h
  rcases ha with rfl | ⟨x, rfl, hx⟩
  · have c1 := h.c1
    have f := h.ends.frozen (k * 2)
    have e0 := h.e0 hk
    clear h
    go_enter Try.func27, Try.ntmps27
    go_wp2
    go_end0
    refine ⟨rfl, ?_, H.out.putE_turn (k * 2) _⟩
    unfold Cl.beh
    rw [if_pos rfl, Nat.mul_comm]
    exact H.out.putE (2 * k) b
  · have c0 := h.c0
    have f := h.ties.frozen (x * 3 + 2)
    have e0 := h.t2 hx
    have hne : ((x : Int) == -1) = false := by rw [beq_eq_false_iff_ne]; omega
    clear h
    go_enter Try.func27, Try.ntmps27
    go_wp2
    go_end0
    refine ⟨rfl, ?_, H.out.putT_turn (x * 3 + 2) _⟩
    unfold Cl.beh
    rw [if_neg (by omega), Nat.mul_comm]
    exact H.out.putT (3 * x + 2) b
theorem seta_any {base p tb eb n m k : Nat} {c : Cl} {a b : Int} (w : World) (h : Cells w base p tb eb n m c) (hk : k < m) (ha : a = -1 ∨ ∃ x : Nat, a = x ∧ x < n) :
    Calls Try.prog 28 #[.pointer (some ⟨p, 0, none⟩), .int .i64 k, .int .i64 a, .int .i64 b] w (SetPost base p tb eb n m (c.ahe k a b) w) := by
  have H := Lib.hid h
  rcases ha with rfl | ⟨x, rfl, hx⟩
  · have c1 := h.c1
    have f := h.ends.frozen (k * 2 + 1)
    have e0 := h.e1 hk
    clear h
    go_enter Try.func28, Try.ntmps28
    go_wp2
    go_end0
    refine ⟨rfl, ?_, H.out.putE_turn (k * 2 + 1) _⟩
    unfold Cl.ahe
    rw [if_pos rfl, Nat.mul_comm]
    exact H.out.putE (2 * k + 1) b
  · have c0 := h.c0
    have f := h.ties.frozen (x * 3 + 1)
    have e0 := h.t1 hx
    have hne : ((x : Int) == -1) = false := by rw [beq_eq_false_iff_ne]; omega
    clear h
    go_enter Try.func28, Try.ntmps28
    go_wp2
    go_end0
    refine ⟨rfl, ?_, H.out.putT_turn (x * 3 + 1) _⟩
    unfold Cl.ahe
    rw [if_neg (by omega), Nat.mul_comm]
    exact H.out.putT (3 * x + 1) b

/-- The queues are those of s. -/
structure IsQ (w : World) (base p tb eb : Nat) (s : St) : Prop where
  ex : ∃ c, Cells w base p tb eb s.n s.m c ∧ Good s c
section
variable {w w' : World} {base p tb eb : Nat} {s : St} {S : Nat → Prop}
theorem IsQ.turn (h : IsQ w base p tb eb s) (t : Turn S w w') (hs : ∀ i, QB p tb eb i → ¬ S i) : IsQ w' base p tb eb s := by
  obtain ⟨c, h1, h2⟩ := h.ex
  exact ⟨c, h1.turn t hs, h2⟩
theorem IsQ.new (h : IsQ w base p tb eb s) (t : Turn (fun _ => False) w w') : IsQ w' base p tb eb s := h.turn t (fun _ _ => id)
theorem IsQ.less {base' : Nat} (h : IsQ w base p tb eb s) (hb : base' ≤ base) : IsQ w base' p tb eb s := by
  obtain ⟨c, h1, h2⟩ := h.ex
  exact ⟨c, h1.less hb, h2⟩
theorem IsQ.blocks (h : IsQ w base p tb eb s) {i : Nat} (hi : QB p tb eb i) : base ≤ i ∧ i < w.heap.size := by
  obtain ⟨c, h1, h2⟩ := h.ex
  exact h1.blocks hi
theorem IsQ.fine (h : IsQ w base p tb eb s) : Fine s := by
  obtain ⟨c, h1, h2⟩ := h.ex
  exact h2.fine
end
/-- What each method gives back: the same blocks, the queues those of s'. -/
def Kept (base p tb eb : Nat) (s' : St) (w w' : World) : Prop := IsQ w' base p tb eb s' ∧ Turn (QB p tb eb) w w'
theorem Kept.refl {w : World} {base p tb eb : Nat} {s : St} (h : IsQ w base p tb eb s) : Kept base p tb eb s w w := ⟨h, Turn.refl _ _⟩
theorem Good.head {s : St} {c : Cl} (h : Good s c) {k : Nat} (hk : k < s.m) : (0 < (s.M k).length ∧ c.E (2 * k) = (s.M k).getD 0 0) ∨ (s.M k = [] ∧ c.E (2 * k) = -1) := by
  have hs := h.seg k hk
  cases e : s.M k with
  | nil =>
    rw [e] at hs
    have := hs.1
    unfold Cl.nx at this
    rw [if_pos rfl] at this
    exact Or.inr ⟨rfl, this⟩
  | cons x l =>
    rw [e] at hs
    have := hs.1
    unfold Cl.nx at this
    rw [if_pos rfl] at this
    exact Or.inl ⟨by simp, this⟩

theorem first_any {base p tb eb : Nat} {s : St} {k v : Int} {b : Bool} (w : World) (h : IsQ w base p tb eb s) (hv : firstV s k = v) (hb : firstB s k = b) :
    Calls Try.prog 17 #[.pointer (some ⟨p, 0, none⟩), .int .i64 k] w fun e w' => e = .returned (.tuple #[.int .i64 v, .bool b]) ∧ w = w' := by
  obtain ⟨c, hc, hg⟩ := h.ex
  have H := Lib.hid hc
  clear h
  by_cases hk : 0 ≤ k ∧ k < (s.m : Int)
  · obtain ⟨j, rfl⟩ : ∃ j : Nat, k = j := ⟨k.toNat, by omega⟩
    have hj : j < s.m := by omega
    have c1 := hc.c1
    have e0 := hc.e0 hj
    have hq : decide (0 ≤ (j : Int) ∧ (j : Int) < (s.m : Int)) = true := decide_eq_true hk
    rcases hg.head hj with ⟨h1, h2⟩ | ⟨h1, h2⟩
    · have eb' : firstB s j = true := by unfold firstB isQ; rw [hq]; exact decide_eq_true h1
      have ev : firstV s j = (s.M j).getD 0 0 := by unfold firstV; rw [if_pos eb']; rfl
      have h0 := (hg.mem j hj _ (getD_mem (d := 0) h1)).1
      rw [eb'] at hb
      rw [ev] at hv
      subst hb
      rw [h2, hv] at e0
      rw [hv] at h0
      have hne : (v == -1) = false := by rw [beq_eq_false_iff_ne]; omega
      have HQ := Lib.hid hq
      clear hc hg hq hk h1 h2 eb' ev hv h0
      go_enter Try.func17, Try.ntmps17
      go_wp2_with fail
      refine (queue_any w H.out HQ.out).mono ?_
      rintro e w1 ⟨rfl, rfl⟩
      go_wp2_with fail
      go_ret2
      exact ⟨rfl, rfl⟩
    · have eb' : firstB s j = false := by unfold firstB isQ; rw [hq, Int.toNat_natCast, h1]; rfl
      have ev : firstV s j = 0 := by unfold firstV; rw [eb']; rfl
      rw [eb'] at hb
      rw [ev] at hv
      subst hb
      subst hv
      rw [h2] at e0
      have HQ := Lib.hid hq
      clear hc hg hq hk h1 h2 eb' ev
      go_enter Try.func17, Try.ntmps17
      go_wp2_with fail
      refine (queue_any w H.out HQ.out).mono ?_
      rintro e w1 ⟨rfl, rfl⟩
      go_wp2_with fail
      go_ret2
      exact ⟨rfl, rfl⟩
  · have hq : decide (0 ≤ k ∧ k < (s.m : Int)) = false := decide_eq_false hk
    have eb' : firstB s k = false := by unfold firstB isQ; rw [hq]; rfl
    have ev : firstV s k = 0 := by unfold firstV; rw [eb']; rfl
    rw [eb'] at hb
    rw [ev] at hv
    subst hb
    subst hv
    have HQ := Lib.hid hq
    clear hc hg hq hk eb' ev
    go_enter Try.func17, Try.ntmps17
    go_wp2_with fail
    refine (queue_any w H.out HQ.out).mono ?_
    rintro e w1 ⟨rfl, rfl⟩
    go_wp2_with fail
    go_ret2
    exact ⟨rfl, rfl⟩

theorem Good.where_ {s : St} {c : Cl} (h : Good s c) (x : Nat) (hx : x < s.n) : (c.T (3 * x) = -1 ∧ inB s x = false ∧ inV s x = 0) ∨ ∃ k : Nat, k < s.m ∧ (x : Int) ∈ s.M k ∧ c.T (3 * x) = k ∧ inB s x = true ∧ inV s x = k := by
  rcases in_cases s x with ⟨e1, e2, e3, e4⟩ | ⟨k, hk, h1, h2, e1, e2, e3⟩
  · rcases h.out x hx with h1 | ⟨k, hk, h1, h2⟩
    · exact Or.inl ⟨h1, e1, e2⟩
    · exact absurd h2 (e4 k hk)
  · refine Or.inr ⟨k, hk, h1, ?_, e1, e2⟩
    have := (h.mem k hk _ h1).2.2
    rwa [Int.toNat_natCast] at this
theorem Good.far {s : St} {c : Cl} (h : Good s c) {x : Int} (hx : ¬ (0 ≤ x ∧ x < (s.n : Int))) : inB s x = false ∧ inV s x = 0 := by
  rcases in_cases s x with ⟨e1, e2, e3, e4⟩ | ⟨k, hk, h1, h2, e1, e2, e3⟩
  · exact ⟨e1, e2⟩
  · have := h.mem k hk _ h1
    exact absurd ⟨this.1, this.2.1⟩ hx
theorem in_any {base p tb eb : Nat} {s : St} {x v : Int} {b : Bool} (w : World) (h : IsQ w base p tb eb s) (hv : inV s x = v) (hb : inB s x = b) :
    Calls Try.prog 19 #[.pointer (some ⟨p, 0, none⟩), .int .i64 x] w fun e w' => e = .returned (.tuple #[.int .i64 v, .bool b]) ∧ w = w' := by
  obtain ⟨c, hc, hg⟩ := h.ex
  have H := Lib.hid hc
  clear h
  by_cases hx : 0 ≤ x ∧ x < (s.n : Int)
  · obtain ⟨j, rfl⟩ : ∃ j : Nat, x = j := ⟨x.toNat, by omega⟩
    have hj : j < s.n := by omega
    have c0 := hc.c0
    have t0 := hc.t0 hj
    have hq : decide (0 ≤ (j : Int) ∧ (j : Int) < (s.n : Int)) = true := decide_eq_true hx
    rcases hg.where_ j hj with ⟨h1, h2, h3⟩ | ⟨k, hk, _, h1, h2, h3⟩
    · rw [h2] at hb
      rw [h3] at hv
      subst hb
      subst hv
      rw [h1] at t0
      have HQ := Lib.hid hq
      clear hc hg hq hx h1 h2 h3
      go_enter Try.func19, Try.ntmps19
      go_wp2_with fail
      refine (thing_any w H.out HQ.out).mono ?_
      rintro e w1 ⟨rfl, rfl⟩
      go_wp2_with fail
      go_ret2
      exact ⟨rfl, rfl⟩
    · rw [h2] at hb
      rw [h3] at hv
      subst hb
      subst hv
      rw [h1] at t0
      have hne : ((k : Int) == -1) = false := by rw [beq_eq_false_iff_ne]; omega
      have HQ := Lib.hid hq
      clear hc hg hq hx h1 h2 h3
      go_enter Try.func19, Try.ntmps19
      go_wp2_with fail
      refine (thing_any w H.out HQ.out).mono ?_
      rintro e w1 ⟨rfl, rfl⟩
      go_wp2_with fail
      go_ret2
      exact ⟨rfl, rfl⟩
  · have hq : decide (0 ≤ x ∧ x < (s.n : Int)) = false := decide_eq_false hx
    obtain ⟨h2, h3⟩ := hg.far hx
    rw [h2] at hb
    rw [h3] at hv
    subst hb
    subst hv
    have HQ := Lib.hid hq
    clear hc hg hq hx h2 h3
    go_enter Try.func19, Try.ntmps19
    go_wp2_with fail
    refine (thing_any w H.out HQ.out).mono ?_
    rintro e w1 ⟨rfl, rfl⟩
    go_wp2_with fail
    go_ret2
    exact ⟨rfl, rfl⟩

end Go.Proofs.Ytgkkmbkialcfiaa
