/- Calls that race: several calls of a region that draws its order, of which each makes memory of its own and changes nothing that was. General, over any program. -/
import Derived.Test.YtenbafkgfdlfpaaGTill
namespace Go.Proofs.Ytenbafkgfdlfpaa
open Go.RowKit

section
variable {P : Program} {ops : Array Oper} {Q : Exit → Act → World → Prop} {md : Region.Mode} {m1 m2 : Nat} {A1 A2 : World → Prop}

/-- These have come up too. -/
def marks (l : Array Bool) (D : List Nat) : Array Bool := D.foldl (fun l i => l.setIfInBounds i true) l
theorem marks_get (D : List Nat) : ∀ (l : Array Bool) (j : Nat), (marks l D)[j]? = if j ∈ D then l[j]?.map (fun _ => true) else l[j]? := by
  induction D with
  | nil => intro l j; simp [marks]
  | cons i D ih =>
    intro l j
    show (marks (l.setIfInBounds i true) D)[j]? = _
    rw [ih, Array.getElem?_setIfInBounds]
    by_cases hj : j ∈ D
    · by_cases hi : i = j
      · subst hi
        by_cases hl : i < l.size
        · simp [hj, hl]
        · simp [hj, hl]
      · simp [hj, hi]
    · by_cases hi : i = j
      · subst hi
        by_cases hl : i < l.size
        · simp [hj, hl]
        · simp [hj, hl]
      · simp [hj, hi, show ¬ j = i from fun e => hi e.symm]
theorem marks_same (l : Array Bool) {D E : List Nat} (h : ∀ j, j ∈ D ↔ j ∈ E) : marks l D = marks l E := by
  apply Array.ext_getElem?
  intro j
  rw [marks_get, marks_get]
  by_cases hj : j ∈ D
  · rw [if_pos hj, if_pos ((h j).1 hj)]
  · rw [if_neg hj, if_neg (fun e => hj ((h j).2 e))]
theorem marks_snoc (l : Array Bool) (D : List Nat) (i : Nat) : marks l (D ++ [i]) = (marks l D).setIfInBounds i true := by simp [marks]

def subs : List Nat → List (List Nat)
  | [] => [[]]
  | i :: I => subs I ++ (subs I).map (i :: ·)
theorem filter_subs (p : Nat → Bool) : ∀ I : List Nat, I.filter p ∈ subs I := by
  intro I
  induction I with
  | nil => simp [subs]
  | cons i I ih =>
    cases h : p i
    · rw [List.filter_cons_of_neg (by simp [h])]
      exact List.mem_append_left _ ih
    · rw [List.filter_cons_of_pos h]
      exact List.mem_append_right _ (List.mem_map.2 ⟨_, ih, rfl⟩)
/-- From where those of J have come up on: till a stop, some others may come up, and nothing else. -/
def races (md : Region.Mode) (ops : Array Oper) (l : Array Bool) (I : List Nat) (stops : List (List Nat)) : Nat → List Nat → Bool
  | 0, J => stops.contains J
  | k + 1, J => stops.contains J || (!(Region.ready md ops (marks l J)).isEmpty && (Region.ready md ops (marks l J)).all fun j => I.contains j && (!J.contains j && races md ops l I stops k (I.filter fun i => J.contains i || i == j)))
/-- They look at nothing that another one of them puts. -/
def parted (ops : Array Oper) (I : List Nat) : Bool :=
  I.all fun i => I.all fun j => i == j || match ops[i]?, ops[j]? with | some oi, some oj => oi.apart ops oj | _, _ => false

/-- Their answers, put where they go. -/
def puts (ops : Array Oper) (V : Nat → Value) (a : Act) (D : List Nat) : Act := D.foldl (fun a i => a.put ((ops[i]?).bind (·.dst)) (V i)) a
theorem puts_snoc (V : Nat → Value) (a : Act) (D : List Nat) (i : Nat) : puts ops V a (D ++ [i]) = (puts ops V a D).put ((ops[i]?).bind (·.dst)) (V i) := by simp [puts]
theorem puts_congr {V V' : Nat → Value} (a : Act) (D : List Nat) (h : ∀ i ∈ D, V i = V' i) : puts ops V a D = puts ops V' a D := by
  induction D generalizing a with
  | nil => rfl
  | cons i D ih =>
    show puts ops V (a.put _ (V i)) D = puts ops V' (a.put _ (V' i)) D
    rw [h i (by simp)]
    exact ih _ (fun j hj => h j (by simp [hj]))

/-- What is asked of one of them: a call, or an operation that yields; in whatever world, it makes memory of its own alone, and of its answer this holds. -/
structure Racer (P : Program) (ops : Array Oper) (a : Act) (w : World) (i : Nat) (R : Nat → Nat → Value → World → Prop) : Prop where
  run : ∃ o, ops[i]? = some o ∧ o.guard = none ∧ (∀ cs b, o.op ≠ .select cs b) ∧
    ((∃ f args, (∀ w', (execOp a.eval o).run P w' = .ok (.enter f args) w') ∧ ∀ w', Turn (fun _ => False) w w' → Calls P f args w' fun e w'' => ∃ v, e = .returned v ∧ Turn (fun _ => False) w' w'' ∧ R w'.heap.size w''.heap.size v w'') ∨
    ∀ w', Turn (fun _ => False) w w' → ∃ v w'', (execOp a.eval o).run P w' = .ok (.value v) w'' ∧ Turn (fun _ => False) w' w'' ∧ R w'.heap.size w''.heap.size v w'')
  stay : ∀ lo hi v w' w'', R lo hi v w' → Turn (fun _ => False) w' w'' → R lo hi v w''

/-- What has been come to, where those of D have come up: each in a stretch of memory of its own. -/
structure Raced (w : World) (R : Nat → Nat → Nat → Value → World → Prop) (D : List Nat) (V : Nat → Value) (lo hi : Nat → Nat) (w' : World) : Prop where
  t : Turn (fun _ => False) w w'
  got : ∀ i ∈ D, R i (lo i) (hi i) (V i) w'
  lim : ∀ i ∈ D, w.heap.size ≤ lo i ∧ lo i ≤ hi i ∧ hi i ≤ w'.heap.size
  off : ∀ i ∈ D, ∀ j ∈ D, i ≠ j → hi i ≤ lo j ∨ hi j ≤ lo i

theorem Raced.sub {w : World} {R : Nat → Nat → Nat → Value → World → Prop} {D J : List Nat} {V : Nat → Value} {lo hi : Nat → Nat} {w' : World} (h : Raced w R D V lo hi w') (hJ : ∀ i ∈ J, i ∈ D) : Raced w R J V lo hi w' :=
  ⟨h.t, fun i hi => h.got i (hJ i hi), fun i hi => h.lim i (hJ i hi), fun i hi j hj => h.off i (hJ i hi) j (hJ j hj)⟩
/-- An operation that yields at a step. -/
theorem step_at {o : Oper} {a : Act} {w w' : World} {K : Act → World → Prop} {F : Prop} {v : Value} {φ : World → Prop} (hg : o.guard = none) (hr : (execOp a.eval o).run P w = .ok (.value v) w') (h : φ w') (k : ∀ w', φ w' → K (a.put o.dst v) w') :
    if Region.wanted o (yielded ops a.tmps) = true then Oper.wp P o a w K Q else F := by
  have hw : Region.wanted o (yielded ops a.tmps) = true := by simp [Region.wanted, hg]
  rw [if_pos hw]
  unfold Oper.wp
  rw [hr, Oper.upon_value]
  exact k w' h

theorem execOp_puts {o : Oper} {a : Act} (V : Nat → Value) (D : List Nat) (hs : ∀ cs b, o.op ≠ .select cs b) (h : ∀ i ∈ D, ∀ d, (ops[i]?).bind (·.dst) = some d → d ∉ o.looksAt ops) : execOp (puts ops V a D).eval o = execOp a.eval o := by
  induction D generalizing a with
  | nil => rfl
  | cons i D ih =>
    show execOp (puts ops V (a.put _ (V i)) D).eval o = _
    rw [ih (fun j hj => h j (by simp [hj]))]
    exact execOp_put o hs a _ (V i) (h i (by simp))

theorem stand_race (I : List Nat) (stops : List (List Nat)) (R : Nat → Nat → Nat → Value → World → Prop) {n : Nat} {l : Array Bool} {a : Act} {w : World} (hI : I.Nodup) (hr : races md ops l I stops I.length [] = true) (hp : parted ops I = true)
    (hc : ∀ i ∈ I, Racer P ops a w i (R i)) (h1 : ∀ w', Turn (fun _ => False) w w' → A1 w') (h2 : ∀ w', Turn (fun _ => False) w w' → A2 w')
    (hend : ∀ J ∈ stops, ∀ V lo hi w', Raced w R J V lo hi w' → Stand P md ops Q m1 A1 m2 A2 (n + (I.length - J.length)) (marks l J) (puts ops V a J) w') :
    Stand P md ops Q m1 A1 m2 A2 (n + I.length) l a w := by
  have hpart : ∀ i ∈ I, ∀ j ∈ I, i ≠ j → ∃ oi oj, ops[i]? = some oi ∧ ops[j]? = some oj ∧ oi.apart ops oj = true := by
    intro i hi j hj hij
    have h := List.all_eq_true.1 (List.all_eq_true.1 hp i hi) j hj
    rcases Bool.or_eq_true_iff.1 h with e | e
    · exact absurd (by simpa using e) hij
    · cases hoi : ops[i]? with
      | none => rw [hoi] at e; cases e
      | some oi =>
        cases hoj : ops[j]? with
        | none => rw [hoi, hoj] at e; cases e
        | some oj =>
          rw [hoi, hoj] at e
          exact ⟨oi, oj, rfl, rfl, e⟩
  have main : ∀ (k : Nat) (D E : List Nat) (V : Nat → Value) (lo hi : Nat → Nat) (w' : World), (D ++ E).Perm I → E.length = k → races md ops l I stops k (I.filter (fun i => D.contains i)) = true → Raced w R D V lo hi w' →
      Stand P md ops Q m1 A1 m2 A2 (n + k) (marks l D) (puts ops V a D) w' := by
    intro k
    have hstop : ∀ (k : Nat) (D E : List Nat) (V : Nat → Value) (lo hi : Nat → Nat) (w' : World), (D ++ E).Perm I → E.length = k → Raced w R D V lo hi w' → I.filter (fun i => D.contains i) ∈ stops → Stand P md ops Q m1 A1 m2 A2 (n + k) (marks l D) (puts ops V a D) w' := by
      intro k D E V lo hi w' hDE hlen hR hJ
      have hsub : ∀ i ∈ D, i ∈ I := fun i hi => hDE.mem_iff.1 (List.mem_append_left _ hi)
      have hnd : (D ++ E).Nodup := hDE.nodup_iff.2 hI
      have hD := (List.nodup_append.1 hnd).1
      have hmem : ∀ j, j ∈ D ↔ j ∈ I.filter (fun i => D.contains i) := fun j => by
        rw [List.mem_filter]
        constructor
        · intro h; exact ⟨hsub j h, by simpa using h⟩
        · intro h; simpa using h.2
      have hperm : D.Perm (I.filter (fun i => D.contains i)) := (List.perm_ext_iff_of_nodup hD (hI.filter _)).2 hmem
      have e1 : puts ops V a D = puts ops V a (I.filter (fun i => D.contains i)) := by
        refine List.Perm.foldl_eq' hperm (fun x hx y hy z => ?_) a
        by_cases hxy : x = y
        · subst hxy; rfl
        · obtain ⟨ox, oy, hox, hoy, hap⟩ := hpart x (hsub x hx) y (hsub y hy) hxy
          simp only [hox, hoy, Option.bind_some]
          exact Act.put_comm z _ _ (Oper.apart_spec hap).2.1
      have hk : k = I.length - (I.filter (fun i => D.contains i)).length := by
        have h1 := hperm.length_eq
        have h2 := hDE.length_eq
        rw [List.length_append] at h2
        omega
      rw [marks_same l hmem, e1, hk]
      exact hend _ hJ V lo hi w' ⟨hR.t, fun i hi => hR.got i ((hmem i).2 hi), fun i hi => hR.lim i ((hmem i).2 hi), fun i hi j hj => hR.off i ((hmem i).2 hi) j ((hmem j).2 hj)⟩
    induction k with
    | zero =>
      intro D E V lo hi w' hDE hlen hq hR
      exact hstop 0 D E V lo hi w' hDE hlen hR (List.contains_iff_mem.1 hq)
    | succ k ih =>
      intro D E V lo hi w' hDE hlen hq hR
      by_cases hst : I.filter (fun i => D.contains i) ∈ stops
      · exact hstop (k + 1) D E V lo hi w' hDE hlen hR hst
      have hsub : ∀ i ∈ D, i ∈ I := fun i hi => hDE.mem_iff.1 (List.mem_append_left _ hi)
      have hnd : (D ++ E).Nodup := hDE.nodup_iff.2 hI
      obtain ⟨hD, hE, hDE0⟩ := List.nodup_append.1 hnd
      obtain ⟨r, hrE⟩ : ∃ r, r ∈ E := by
        cases E with
        | nil => simp at hlen
        | cons r _ => exact ⟨r, by simp⟩
      have hrI : r ∈ I := hDE.mem_iff.1 (List.mem_append_right _ hrE)
      have hrD : r ∉ D := fun h => hDE0 r h r hrE rfl
      have hsame : ∀ j, j ∈ I.filter (fun i => D.contains i) ↔ j ∈ D := fun j => by
        rw [List.mem_filter]
        constructor
        · intro h; simpa using h.2
        · intro h; exact ⟨hsub j h, by simpa using h⟩
      have hready : (Region.ready md ops (marks l D)) ≠ [] ∧ ∀ j ∈ Region.ready md ops (marks l D), j ∈ I ∧ j ∉ D ∧ races md ops l I stops k (I.filter fun i => (D ++ [j]).contains i) = true := by
        rcases Bool.or_eq_true_iff.1 hq with e | e
        · exact absurd (List.contains_iff_mem.1 e) hst
        · rw [marks_same l hsame] at e
          obtain ⟨e1, e2⟩ := Bool.and_eq_true_iff.1 e
          refine ⟨fun h0 => by rw [h0] at e1; simp at e1, fun j hj => ?_⟩
          have h3 := List.all_eq_true.1 e2 j hj
          obtain ⟨h4, h5⟩ := Bool.and_eq_true_iff.1 h3
          obtain ⟨h5, h6⟩ := Bool.and_eq_true_iff.1 h5
          refine ⟨by simpa using h4, fun hjD => ?_, ?_⟩
          · have h7 : (I.filter (fun i => D.contains i)).contains j = true := List.contains_iff_mem.2 ((hsame j).2 hjD)
            rw [h7] at h5
            simp at h5
          · rw [← h6]
            congr 1
            refine List.filter_congr (fun x hx => ?_)
            rw [Bool.eq_iff_iff]
            have := hsame x
            simp only [List.contains_iff_mem, List.mem_append, List.mem_singleton, Bool.or_eq_true, beq_iff_eq]
            rw [this]
      intro hripe htill
      refine ⟨fun e => ?_, fun j hj => ?_⟩
      · exact absurd e hready.1
      · have hj0 := hj
        obtain ⟨hjI, hjD, hjr⟩ := hready.2 j hj
        obtain ⟨⟨o, ho, hg, hs, hrun⟩, hstay⟩ := hc j hjI
        have hloop : execOp (puts ops V a D).eval o = execOp a.eval o := by
          refine execOp_puts V D hs (fun i hi d hd => ?_)
          obtain ⟨oi, oj, hoi, hoj, hap⟩ := hpart i (hsub i hi) j hjI (fun e => hjD (e ▸ hi))
          obtain rfl : oj = o := Option.some.inj (hoj.symm.trans ho)
          rw [hoi] at hd
          exact (Oper.apart_spec hap).1 d hd
        unfold wpOp
        rw [ho]
        have hw : Region.wanted o (yielded ops (puts ops V a D).tmps) = true := by simp [Region.wanted, hg]
        simp only [hw, if_true]
        left
        have key : ∀ v w'', Turn (fun _ => False) w' w'' → R j w'.heap.size w''.heap.size v w'' → Till m1 A1 m2 A2 ((marks l D).setIfInBounds j true) w'' ∧ wpTill P md ops Q m1 A1 m2 A2 (n + k) ((marks l D).setIfInBounds j true) ((puts ops V a D).put o.dst v) w'' := by
          intro v w'' t hRv
          have hne : ∀ i ∈ D, i ≠ j := fun i hi e => hjD (e ▸ hi)
          let V' : Nat → Value := fun i => if i = j then v else V i
          let lo' : Nat → Nat := fun i => if i = j then w'.heap.size else lo i
          let hi' : Nat → Nat := fun i => if i = j then w''.heap.size else hi i
          have eV : puts ops V a D = puts ops V' a D := puts_congr a D (fun i hi => by simp [V', hne i hi])
          have T' := hR.t.trans t
          have hR' : Raced w R (D ++ [j]) V' lo' hi' w'' := by
            refine ⟨T', fun i hi => ?_, fun i hi => ?_, fun i hi k hk hik => ?_⟩
            · rcases List.mem_append.1 hi with h | h
              · simp only [V', lo', hi', if_neg (hne i h)]
                exact (hc i (hsub i h)).stay _ _ _ _ _ (hR.got i h) t
              · obtain rfl : i = j := by simpa using h
                simpa [V', lo', hi'] using hRv
            · rcases List.mem_append.1 hi with h | h
              · simp only [lo', hi', if_neg (hne i h)]
                have := hR.lim i h
                have := t.size
                omega
              · obtain rfl : i = j := by simpa using h
                simp only [lo', hi', if_true]
                have := hR.t.size
                have := t.size
                omega
            · rcases List.mem_append.1 hi with h | h
              · rcases List.mem_append.1 hk with h' | h'
                · simp only [lo', hi', if_neg (hne i h), if_neg (hne k h')]
                  exact hR.off i h k h' hik
                · obtain rfl : k = j := by simpa using h'
                  simp only [lo', hi', if_neg (hne i h), if_true]
                  left
                  exact (hR.lim i h).2.2
              · obtain rfl : i = j := by simpa using h
                rcases List.mem_append.1 hk with h' | h'
                · simp only [lo', hi', if_neg (hne k h'), if_true]
                  right
                  exact (hR.lim k h').2.2
                · obtain rfl : k = i := by simpa using h'
                  exact absurd rfl hik
          have hjE : j ∈ E := (List.mem_append.1 (hDE.mem_iff.2 hjI)).resolve_left hjD
          have hS := ih (D ++ [j]) (E.erase j) V' lo' hi' w'' (by
              rw [List.append_assoc]
              exact ((List.perm_cons_erase hjE).symm.append_left D).trans hDE) (by rw [List.length_erase_of_mem hjE]; omega) hjr hR'
          rw [marks_snoc, puts_snoc, ho, ← eV] at hS
          have hT : Till m1 A1 m2 A2 ((marks l D).setIfInBounds j true) w'' := ⟨fun _ => h1 w'' T', fun _ => h2 w'' T'⟩
          have hS' := hS (hripe.set hj0) hT
          simp only [V', if_true, Option.bind_some] at hS'
          exact ⟨hT, hS'⟩
        unfold Oper.wp
        rw [hloop]
        rcases hrun with ⟨f, args, hrun, hcall⟩ | hrun
        · rw [hrun w', Oper.upon_enter]
          refine (hcall w' hR.t).mono ?_
          rintro e w'' ⟨v, rfl, t, hRv⟩
          exact key v w'' t hRv
        · obtain ⟨v, w'', hr', t, hRv⟩ := hrun w' hR.t
          rw [hr', Oper.upon_value]
          exact key v w'' t hRv
  have := main I.length [] I (fun _ => .bool false) (fun _ => 0) (fun _ => 0) w (List.Perm.refl _) rfl (by rw [show I.filter (fun i => ([] : List Nat).contains i) = [] from List.filter_eq_nil_iff.2 (by simp)]; exact hr) ⟨Turn.refl _ _, by simp, by simp, by simp⟩
  simpa [marks, puts] using this
/-- Values, put into slots. -/
def setAll : List Value → List Nat → List Value → List Value
  | L, d :: D, v :: V => setAll (L.set d v) D V
  | L, _, _ => L
theorem puts_laid (V : Nat → Value) : ∀ (I D : List Nat) (L : List Value) (ds), I.map (fun i => (ops[i]?).bind (·.dst)) = D.map some → puts ops V ⟨L.toArray, ds⟩ I = ⟨(setAll L D (I.map V)).toArray, ds⟩
  | [], [], L, ds, _ => rfl
  | i :: I, d :: D, L, ds, h => by
    simp only [List.map_cons, List.cons.injEq] at h
    show puts ops V (Act.put ⟨L.toArray, ds⟩ ((ops[i]?).bind (·.dst)) (V i)) I = _
    rw [h.1, put_laid]
    exact puts_laid V I D _ ds h.2
  | [], _ :: _, _, _, h => by simp at h
  | _ :: _, [], _, _, h => by simp at h
/-- Such a race, from a state that is laid out; it stops where all but one (of a list) have come up, or all. -/
theorem stand_race_laid (I D I' D' : List Nat) (R : Nat → Nat → Nat → Value → World → Prop) {n : Nat} {l : Array Bool} {L : List Value} {ds} {w : World} (hI : I.Nodup) (hr : races md ops l I [I, I'] I.length [] = true) (hp : parted ops I = true) (hD : I.map (fun i => (ops[i]?).bind (·.dst)) = D.map some) (hD' : I'.map (fun i => (ops[i]?).bind (·.dst)) = D'.map some)
    (hc : ∀ i ∈ I, Racer P ops ⟨L.toArray, ds⟩ w i (R i)) (h1 : ∀ w', Turn (fun _ => False) w w' → A1 w') (h2 : ∀ w', Turn (fun _ => False) w w' → A2 w')
    (hend : ∀ V lo hi w', Raced w R I V lo hi w' → Stand P md ops Q m1 A1 m2 A2 n (marks l I) ⟨(setAll L D (I.map V)).toArray, ds⟩ w')
    (hend' : ∀ V lo hi w', Raced w R I' V lo hi w' → Stand P md ops Q m1 A1 m2 A2 (n + (I.length - I'.length)) (marks l I') ⟨(setAll L D' (I'.map V)).toArray, ds⟩ w') :
    Stand P md ops Q m1 A1 m2 A2 (n + I.length) l ⟨L.toArray, ds⟩ w :=
  stand_race I [I, I'] R hI hr hp hc h1 h2 fun J hJ V lo hi w' h => by
    simp only [List.mem_cons, List.not_mem_nil, or_false] at hJ
    rcases hJ with rfl | rfl
    · rw [puts_laid V J D L ds hD, Nat.sub_self, Nat.add_zero]
      exact hend V lo hi w' h
    · rw [puts_laid V J D' L ds hD']
      exact hend' V lo hi w' h
end

end Go.Proofs.Ytenbafkgfdlfpaa
