/- A region that draws its order, of which some operations are walked first: a load too, if its cell holds until an operation comes up that waits for it. What is told of a world holds till such an operation (its mark) has come up. General, over any program. -/
import Derived.Test.YtenbafkgfdlfpaaGStep
import Derived.StillTail
namespace Go.Proofs.Ytenbafkgfdlfpaa
open Go.RowKit

section
variable {P : Program} {ops : Array Oper} {Q : Exit → Act → World → Prop} {md : Region.Mode} {m1 m2 : Nat} {A1 A2 : World → Prop}

/-- A1 till number m1 has come up, A2 till number m2 has. -/
def Till (m1 : Nat) (A1 : World → Prop) (m2 : Nat) (A2 : World → Prop) (l : Array Bool) (w : World) : Prop := (l.getD m1 false = false → A1 w) ∧ (l.getD m2 false = false → A2 w)
/-- Whatever has come up, so has all that it waits for. -/
def Ripe (md : Region.Mode) (ops : Array Oper) (l : Array Bool) : Prop := l.size = ops.size ∧ ∀ j oj, ops[j]? = some oj → l.getD j false = true → ∀ e ∈ oj.after, Region.binds md e = true → l.getD e.on false = true
/-- m comes up behind i alone. -/
def behind (md : Region.Mode) (ops : Array Oper) : Nat → Nat → Nat → Bool
  | 0, m, i => m == i
  | fuel + 1, m, i => m == i || match ops[m]? with | none => false | some o => o.after.any fun e => Region.binds md e && behind md ops fuel e.on i
theorem behind_spec {l : Array Bool} (h : Ripe md ops l) (i : Nat) : ∀ (fuel m : Nat), behind md ops fuel m i = true → l.getD m false = true → l.getD i false = true := by
  intro fuel
  induction fuel with
  | zero =>
    intro m hb hm
    have e : m = i := by simpa [behind] using hb
    exact e ▸ hm
  | succ fuel ih =>
    intro m hb hm
    unfold behind at hb
    rcases Bool.or_eq_true_iff.1 hb with e | e
    · have e : m = i := by simpa using e
      exact e ▸ hm
    · cases ho : ops[m]? with
      | none => rw [ho] at e; cases e
      | some o =>
        rw [ho] at e
        obtain ⟨x, hx, hxb⟩ := Array.any_eq_true'.1 e
        obtain ⟨h1, h2⟩ := Bool.and_eq_true_iff.1 hxb
        exact ih x.on h2 (h.2 m o ho hm x hx h1)
theorem Ripe.set {l : Array Bool} (h : Ripe md ops l) {i : Nat} (hi : i ∈ Region.ready md ops l) : Ripe md ops (l.setIfInBounds i true) := by
  obtain ⟨_, oi, hoi, hall⟩ := mem_ready.1 hi
  refine ⟨by simp [h.1], fun j oj hj hl e he hb => ?_⟩
  by_cases hij : i = j
  · subst hij
    obtain rfl : oj = oi := Option.some.inj (hj.symm.trans hoi)
    exact getD_set_true (hall e he hb)
  · rw [getD_set_ne false hij] at hl
    exact getD_set_true (h.2 j oj hj hl e he hb)
theorem Till.set {l : Array Bool} {w : World} (h : Till m1 A1 m2 A2 l w) {i : Nat} (h1 : i ≠ m1) (h2 : i ≠ m2) : Till m1 A1 m2 A2 (l.setIfInBounds i true) w := by
  unfold Till at h ⊢
  rw [getD_set_ne false h1, getD_set_ne false h2]
  exact h
theorem Till.unset {l : Array Bool} {w : World} {i j : Nat} (h : Till m1 A1 m2 A2 ((l.setIfInBounds i true).setIfInBounds j true) w) (hij : j ≠ i) (h1 : i ≠ m1) (h2 : i ≠ m2) : Till m1 A1 m2 A2 (l.setIfInBounds j true) w := by
  rw [Array.setIfInBounds_comm _ _ (Ne.symm hij)] at h
  unfold Till at h ⊢
  rw [getD_set_ne false h1, getD_set_ne false h2] at h
  exact h

/-- Whichever order comes from here on; behind each operation what is told holds till its mark. -/
def wpTill (P : Program) (md : Region.Mode) (ops : Array Oper) (Q : Exit → Act → World → Prop) (m1 : Nat) (A1 : World → Prop) (m2 : Nat) (A2 : World → Prop) : Nat → Array Bool → Act → World → Prop
  | 0, l, a, w => Region.ready md ops l = [] ∧ Q .normal a w
  | n + 1, l, a, w => (Region.ready md ops l = [] → Q .normal a w) ∧ ∀ i ∈ Region.ready md ops l, wpOp P ops Q i (fun a' w' => Till m1 A1 m2 A2 (l.setIfInBounds i true) w' ∧ wpTill P md ops Q m1 A1 m2 A2 n (l.setIfInBounds i true) a' w') a w
theorem wpAny_of_till : ∀ (n : Nat) (l : Array Bool) (a : Act) (w : World), wpTill P md ops Q m1 A1 m2 A2 n l a w → wpAny P md ops Q n l a w
  | 0, _, _, _, h => h
  | n + 1, _, _, _, h => ⟨h.1, fun i hi => wpOp_mono (fun a' w' k => wpAny_of_till n _ a' w' k.2) (h.2 i hi)⟩

/-- Number i, which only reads what B tells, may be walked first, if B holds wherever i may yet come up. -/
theorem till_first {i : Nat} {oi : Oper} {v : Value} {B : World → Prop} (hi : ops[i]? = some oi) (hsel : Region.noSelect ops = true) (hQ : ∀ c a w, Q (.panic c) (a.put oi.dst v) w → Q (.panic c) a w) (h1 : i ≠ m1) (h2 : i ≠ m2)
    (hB : ∀ l w, Ripe md ops l → l.getD i false = false → Till m1 A1 m2 A2 l w → B w) :
    ∀ (n : Nat) (l : Array Bool) (a : Act) (w : World), Ripe md ops l → Till m1 A1 m2 A2 l w →
      (∀ j oj, ops[j]? = some oj → j ≠ i → l.getD j true = false → (∀ e ∈ oj.after, Region.binds md e = true → e.on ≠ i) → oi.apart ops oj = true) →
      i ∈ Region.ready md ops l → YieldsIf P ops B oi v a → wpTill P md ops Q m1 A1 m2 A2 n (l.setIfInBounds i true) (a.put oi.dst v) w → wpTill P md ops Q m1 A1 m2 A2 (n + 1) l a w := by
  have sel := Region.noSelect_spec hsel
  intro n
  induction n with
  | zero =>
    intro l a w hr ht hfree hrd hy H
    refine ⟨fun e => (by rw [e] at hrd; cases hrd), fun j hj => ?_⟩
    by_cases hji : j = i
    · subst hji
      exact hy.wpOp hi (hB l w hr (getD_both (mem_ready.1 hrd).1) ht) ⟨ht.set h1 h2, H⟩
    · have h3 := ready_mono hj hji
      rw [H.1] at h3
      cases h3
  | succ n ih =>
    intro l a w hr ht hfree hrd hy H
    have hun := getD_both (mem_ready.1 hrd).1
    have hBw := hB l w hr hun ht
    refine ⟨fun e => (by rw [e] at hrd; cases hrd), fun j hj => ?_⟩
    by_cases hji : j = i
    · subst hji
      exact hy.wpOp hi hBw ⟨ht.set h1 h2, H⟩
    · obtain ⟨hjun, oj, hoj, hall⟩ := mem_ready.1 hj
      have hnot : ∀ e ∈ oj.after, Region.binds md e = true → e.on ≠ i := fun e he hb heq => by
        have h5 := hall e he hb
        rw [heq, hun] at h5
        cases h5
      have h4 := wpOp_putIf hoj (hfree j oj hoj hji hjun hnot) (fun cs b => sel i oi cs b hi) (fun cs b => sel j oj cs b hoj) hQ hy (H.2 j (ready_mono hj hji))
      have hfree' : ∀ k ok, ops[k]? = some ok → k ≠ i → (l.setIfInBounds j true).getD k true = false → (∀ e ∈ ok.after, Region.binds md e = true → e.on ≠ i) → oi.apart ops ok = true := fun k ok hk hki hu hno => by
        by_cases hjk : j = k
        · subst hjk; exact hfree j ok hk hki hjun hno
        · rw [getD_set_ne true hjk] at hu
          exact hfree k ok hk hki hu hno
      refine wpOp_mono (fun a' w' k => ⟨k.2.1.unset hji h1 h2, ih _ a' w' (hr.set hj) (k.2.1.unset hji h1 h2) hfree' (ready_mono hrd (Ne.symm hji)) k.1 ?_⟩) h4
      rw [Array.setIfInBounds_comm _ _ hji]
      exact k.2.2

/-- Where the walk stands: all that has come up, and the state. -/
def Stand (P : Program) (md : Region.Mode) (ops : Array Oper) (Q : Exit → Act → World → Prop) (m1 : Nat) (A1 : World → Prop) (m2 : Nat) (A2 : World → Prop) (n : Nat) (l : Array Bool) (a : Act) (w : World) : Prop :=
  Ripe md ops l → Till m1 A1 m2 A2 l w → wpTill P md ops Q m1 A1 m2 A2 n l a w

theorem nth_of {i : Nat} {oi : Oper} {r : List Oper} (h : ops.toList.drop i = oi :: r) : ops[i]? = some oi := by
  have h1 : (ops.toList.drop i)[0]? = some oi := by rw [h]; rfl
  rw [List.getElem?_drop] at h1
  simpa using h1
theorem stand_start {id : Nat} {a : Act} {w : World} (hm : P.follows .mixedOrders = true) (m1 : Nat) (A1 : World → Prop) (m2 : Nat) (A2 : World → Prop) (h1 : A1 w.drew) (h2 : A2 w.drew)
    (h : Stand P .any ops Q m1 A1 m2 A2 ops.size (Array.replicate ops.size false) a w.drew) : (Code.region id ops true).wp P Q a w :=
  wp_region_any hm (wpAny_of_till _ _ _ _ (h ⟨by simp, fun j oj _ hl => by rw [getD_replicate_false] at hl; cases hl⟩ ⟨fun _ => h1, fun _ => h2⟩))
theorem put_laid (L : List Value) (ds) (d : Nat) (v : Value) : Act.put ⟨L.toArray, ds⟩ (some d) v = ⟨(L.set d v).toArray, ds⟩ := by simp [Act.put]
/-- An operation that yields in whatever world. -/
theorem stand_take {i : Nat} {oi : Oper} {rs : List Oper} {v : Value} {n d : Nat} {l : Array Bool} {L : List Value} {ds} {w : World} (hi' : ops.toList.drop i = oi :: rs) (hs : Region.noSelect ops = true) (hf : Region.free md ops l i = true) (hr : (Region.ready md ops l).contains i = true)
    (hd : oi.dst = some d) (hQ : ∀ c a w, Q (.panic c) (a.put (some d) v) w → Q (.panic c) a w) (h1 : i ≠ m1) (h2 : i ≠ m2) (hw : Region.wanted oi (yielded ops L.toArray) = true) (hy : ∀ w, (execOp (Act.eval ⟨L.toArray, ds⟩) oi).run P w = .ok (.value v) w)
    (h : Stand P md ops Q m1 A1 m2 A2 n (l.setIfInBounds i true) ⟨(L.set d v).toArray, ds⟩ w) : Stand P md ops Q m1 A1 m2 A2 (n + 1) l ⟨L.toArray, ds⟩ w := fun k t => by
  have hi := nth_of hi'
  rw [← put_laid, ← hd] at h
  rw [← hd] at hQ
  have hr' : i ∈ Region.ready md ops l := by simpa using hr
  exact till_first (B := fun _ => True) hi hs hQ h1 h2 (fun _ _ _ _ _ => trivial) n l _ w k t (Region.free_spec hi hf) hr' (Or.inl ⟨hw, fun w _ => hy w⟩) (h (k.set hr') (t.set h1 h2))
/-- A load of what A1 tells. -/
theorem stand_load1 {i : Nat} {oi : Oper} {rs : List Oper} {v : Value} {n d : Nat} {l : Array Bool} {L : List Value} {ds} {w : World} (hi' : ops.toList.drop i = oi :: rs) (hs : Region.noSelect ops = true) (hf : Region.free md ops l i = true) (hr : (Region.ready md ops l).contains i = true)
    (hd : oi.dst = some d) (hQ : ∀ c a w, Q (.panic c) (a.put (some d) v) w → Q (.panic c) a w) (h1 : i ≠ m1) (h2 : i ≠ m2) (hb : behind md ops ops.size m1 i = true) (hw : Region.wanted oi (yielded ops L.toArray) = true) (hy : ∀ w, A1 w → (execOp (Act.eval ⟨L.toArray, ds⟩) oi).run P w = .ok (.value v) w)
    (h : Stand P md ops Q m1 A1 m2 A2 n (l.setIfInBounds i true) ⟨(L.set d v).toArray, ds⟩ w) : Stand P md ops Q m1 A1 m2 A2 (n + 1) l ⟨L.toArray, ds⟩ w := fun k t => by
  have hi := nth_of hi'
  rw [← put_laid, ← hd] at h
  rw [← hd] at hQ
  have hr' : i ∈ Region.ready md ops l := by simpa using hr
  refine till_first (B := A1) hi hs hQ h1 h2 (fun l w r hl t => t.1 ?_) n l _ w k t (Region.free_spec hi hf) hr' (Or.inl ⟨hw, hy⟩) (h (k.set hr') (t.set h1 h2))
  cases hm : l.getD m1 false with
  | false => rfl
  | true => rw [behind_spec r i _ _ hb hm] at hl; cases hl
/-- A load of what A2 tells. -/
theorem stand_load2 {i : Nat} {oi : Oper} {rs : List Oper} {v : Value} {n d : Nat} {l : Array Bool} {L : List Value} {ds} {w : World} (hi' : ops.toList.drop i = oi :: rs) (hs : Region.noSelect ops = true) (hf : Region.free md ops l i = true) (hr : (Region.ready md ops l).contains i = true)
    (hd : oi.dst = some d) (hQ : ∀ c a w, Q (.panic c) (a.put (some d) v) w → Q (.panic c) a w) (h1 : i ≠ m1) (h2 : i ≠ m2) (hb : behind md ops ops.size m2 i = true) (hw : Region.wanted oi (yielded ops L.toArray) = true) (hy : ∀ w, A2 w → (execOp (Act.eval ⟨L.toArray, ds⟩) oi).run P w = .ok (.value v) w)
    (h : Stand P md ops Q m1 A1 m2 A2 n (l.setIfInBounds i true) ⟨(L.set d v).toArray, ds⟩ w) : Stand P md ops Q m1 A1 m2 A2 (n + 1) l ⟨L.toArray, ds⟩ w := fun k t => by
  have hi := nth_of hi'
  rw [← put_laid, ← hd] at h
  rw [← hd] at hQ
  have hr' : i ∈ Region.ready md ops l := by simpa using hr
  refine till_first (B := A2) hi hs hQ h1 h2 (fun l w r hl t => t.2 ?_) n l _ w k t (Region.free_spec hi hf) hr' (Or.inl ⟨hw, hy⟩) (h (k.set hr') (t.set h1 h2))
  cases hm : l.getD m2 false with
  | false => rfl
  | true => rw [behind_spec r i _ _ hb hm] at hl; cases hl
/-- A fact that no tactic looks into. -/
def Shut' (p : Prop) : Prop := p
theorem Shut'.out {p : Prop} (h : Shut' p) : p := h
/-- One operation alone may come up: it is carried out, and what is told is shown anew till its mark. -/
theorem stand_step {i : Nat} {o : Oper} {rs : List Oper} {n : Nat} {l : Array Bool} {a : Act} {w : World} (hr : Region.ready md ops l = [i]) (ho : ops.toList.drop i = o :: rs)
    (h : ∀ K : Act → World → Prop, Shut' (∀ a w, ((l.setIfInBounds i true).getD m1 false = false → A1 w) → ((l.setIfInBounds i true).getD m2 false = false → A2 w) → Stand P md ops Q m1 A1 m2 A2 n (l.setIfInBounds i true) a w → K a w) →
      if Region.wanted o (yielded ops a.tmps) = true then Oper.wp P o a w K Q else K (a.put o.dst undef) w) : Stand P md ops Q m1 A1 m2 A2 (n + 1) l a w := fun k t => by
  refine ⟨fun e => (by rw [hr] at e; cases e), fun j hj => ?_⟩
  have hj0 := hj
  rw [hr] at hj
  have e : j = i := by simpa using hj
  subst e
  exact wpOp_step (nth_of ho) fun K' hK => h K' fun a w x y hS => hK a w ⟨⟨x, y⟩, hS (k.set hj0) ⟨x, y⟩⟩
/-- One of two operations may come up. -/
theorem stand_two {i j : Nat} {o o' : Oper} {rs rs' : List Oper} {n : Nat} {l : Array Bool} {a : Act} {w : World} (hr : Region.ready md ops l = [i, j]) (ho : ops.toList.drop i = o :: rs) (ho' : ops.toList.drop j = o' :: rs')
    (h : ∀ K : Act → World → Prop, Shut' (∀ a w, ((l.setIfInBounds i true).getD m1 false = false → A1 w) → ((l.setIfInBounds i true).getD m2 false = false → A2 w) → Stand P md ops Q m1 A1 m2 A2 n (l.setIfInBounds i true) a w → K a w) →
      if Region.wanted o (yielded ops a.tmps) = true then Oper.wp P o a w K Q else K (a.put o.dst undef) w)
    (h' : ∀ K : Act → World → Prop, Shut' (∀ a w, ((l.setIfInBounds j true).getD m1 false = false → A1 w) → ((l.setIfInBounds j true).getD m2 false = false → A2 w) → Stand P md ops Q m1 A1 m2 A2 n (l.setIfInBounds j true) a w → K a w) →
      if Region.wanted o' (yielded ops a.tmps) = true then Oper.wp P o' a w K Q else K (a.put o'.dst undef) w) : Stand P md ops Q m1 A1 m2 A2 (n + 1) l a w := fun k t => by
  refine ⟨fun e => (by rw [hr] at e; cases e), fun x hx => ?_⟩
  have hx0 := hx
  rw [hr] at hx
  have e : x = i ∨ x = j := by simpa using hx
  rcases e with e | e
  · subst e
    exact wpOp_step (nth_of ho) fun K' hK => h K' fun a w x y hS => hK a w ⟨⟨x, y⟩, hS (k.set hx0) ⟨x, y⟩⟩
  · subst e
    exact wpOp_step (nth_of ho') fun K' hK => h' K' fun a w x y hS => hK a w ⟨⟨x, y⟩, hS (k.set hx0) ⟨x, y⟩⟩
theorem stand_done {n : Nat} {l : Array Bool} {a : Act} {w : World} (hr : Region.ready md ops l = []) (h : Q .normal a w) : Stand P md ops Q m1 A1 m2 A2 n l a w := fun _ _ => by
  cases n with
  | zero => exact ⟨hr, h⟩
  | succ n => exact ⟨fun _ => h, by rw [hr]; simp⟩
theorem past {b : Bool} {p : Prop} (e : b = true) : b = false → p := fun h => by rw [e] at h; cases h
end

end Go.Proofs.Ytenbafkgfdlfpaa
