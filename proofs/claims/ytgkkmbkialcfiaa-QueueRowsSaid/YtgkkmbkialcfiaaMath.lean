/- Mathematics of rows that are tied: a chain of things, ahead and behind; what push and drop make of it. -/
import Derived.Test.YtgkkmbkialcfiaaGStep
namespace Go.Proofs.Ytgkkmbkialcfiaa
set_option linter.unusedVariables false

def updM (M : Nat → List Int) (i : Nat) (l : List Int) : Nat → List Int := fun k => if k = i then l else M k
theorem updM_same (M : Nat → List Int) (i : Nat) (l : List Int) : updM M i l i = l := if_pos rfl
theorem updM_other (M : Nat → List Int) {i k : Nat} (l : List Int) (h : k ≠ i) : updM M i l k = M k := if_neg h
def upd (T : Nat → Int) (i : Nat) (x : Int) : Nat → Int := fun k => if k = i then x else T k
theorem upd_same (T : Nat → Int) (i : Nat) (x : Int) : upd T i x i = x := if_pos rfl
theorem upd_other (T : Nat → Int) {i k : Nat} (x : Int) (h : k ≠ i) : upd T i x k = T k := if_neg h

/-- Numbers from 0 on below m, each once: no more than m. -/
theorem few (m : Nat) : ∀ l : List Int, l.Nodup → (∀ v ∈ l, 0 ≤ v ∧ v < (m : Int)) → l.length ≤ m := by
  induction m with
  | zero =>
    intro l _ h
    cases l with
    | nil => simp
    | cons a l => have := h a (by simp); omega
  | succ m ih =>
    intro l hn h
    have h1 : (l.erase (m : Int)).Nodup := hn.erase _
    have h2 : ∀ v ∈ l.erase (m : Int), 0 ≤ v ∧ v < (m : Int) := by
      intro v hv
      have hv' := List.mem_of_mem_erase hv
      have := h v hv'
      have hne : v ≠ (m : Int) := by
        intro e
        subst e
        exact (List.Nodup.mem_erase_iff hn).1 hv |>.1 rfl
      omega
    have h3 := ih _ h1 h2
    have h4 := List.length_erase (a := (m : Int)) (l := l)
    split at h4 <;> omega

/-- From a through l to b: nx tells what is behind, pv what is ahead. -/
def Seg (nx pv : Int → Int) : Int → List Int → Int → Prop
  | a, [], b => nx a = b ∧ pv b = a
  | a, x :: l, b => nx a = x ∧ pv x = a ∧ Seg nx pv x l b
section
variable {nx pv nx' pv' : Int → Int} {a b x : Int} {u v l : List Int}
theorem seg_frame (h : Seg nx pv a l b) (h1 : ∀ y ∈ a :: l, nx' y = nx y) (h2 : ∀ y ∈ l ++ [b], pv' y = pv y) : Seg nx' pv' a l b := by
  induction l generalizing a with
  | nil =>
    refine ⟨?_, ?_⟩
    · rw [h1 a (by simp)]; exact h.1
    · rw [h2 b (by simp)]; exact h.2
  | cons y l ih =>
    refine ⟨?_, ?_, ih h.2.2 (fun z hz => h1 z (by simp at hz ⊢; exact Or.inr hz)) (fun z hz => h2 z (by simp at hz ⊢; exact Or.inr hz))⟩
    · rw [h1 a (by simp)]; exact h.1
    · rw [h2 y (by simp)]; exact h.2.1
theorem seg_cut : Seg nx pv a (u ++ x :: v) b ↔ Seg nx pv a u x ∧ Seg nx pv x v b := by
  induction u generalizing a with
  | nil => exact ⟨fun h => ⟨⟨h.1, h.2.1⟩, h.2.2⟩, fun h => ⟨h.1.1, h.1.2, h.2⟩⟩
  | cons y u ih => exact ⟨fun h => ⟨⟨h.1, h.2.1, (ih.1 h.2.2).1⟩, (ih.1 h.2.2).2⟩, fun h => ⟨h.1.1, h.1.2.1, ih.2 ⟨h.1.2.2, h.2⟩⟩⟩
theorem seg_pv (h : Seg nx pv a l b) : pv b ∈ a :: l := by
  induction l generalizing a with
  | nil => rw [h.2]; simp
  | cons y l ih => exact List.mem_cons_of_mem _ (ih h.2.2)
theorem seg_nx (h : Seg nx pv a l b) : nx a ∈ l ++ [b] := by
  cases l with
  | nil => rw [h.1]; simp
  | cons y l => rw [h.1]; simp
theorem seg_drop (h : Seg nx pv a (u ++ x :: v) b) (hn : (u ++ x :: v).Nodup) (ha : a ∉ u ++ x :: v) (hb : b ∉ u ++ x :: v) (h1 : nx' (pv x) = nx x) (h2 : pv' (nx x) = pv x)
    (h3 : ∀ y, y ≠ pv x → y ≠ x → nx' y = nx y) (h4 : ∀ y, y ≠ nx x → y ≠ x → pv' y = pv y) : Seg nx' pv' a (u ++ v) b := by
  induction u generalizing a with
  | nil =>
    have hs := seg_cut.1 h
    have e : pv x = a := hs.1.2
    rw [e] at h1 h2 h3
    simp only [List.nil_append] at ha hb hn ⊢
    cases v with
    | nil =>
      have e2 : nx x = b := hs.2.1
      rw [e2] at h1 h2
      exact ⟨h1, h2⟩
    | cons z v =>
      have e2 : nx x = z := hs.2.1
      rw [e2] at h1 h2 h4
      refine ⟨h1, h2, seg_frame hs.2.2.2 (fun y hy => h3 y ?_ ?_) (fun y hy => h4 y ?_ ?_)⟩
      · intro e3; subst e3; exact ha (List.mem_cons_of_mem _ hy)
      · intro e3; subst e3; exact (List.nodup_cons.1 hn).1 hy
      · intro e3
        subst e3
        have h5 := (List.nodup_cons.1 (List.nodup_cons.1 hn).2).1
        rcases List.mem_append.1 hy with h6 | h6
        · exact h5 h6
        · have : y = b := by simpa using h6
          subst this
          exact hb (by simp)
      · intro e3
        subst e3
        have h5 := (List.nodup_cons.1 hn).1
        rcases List.mem_append.1 hy with h6 | h6
        · exact h5 (List.mem_cons_of_mem _ h6)
        · have : y = b := by simpa using h6
          subst this
          exact hb (by simp)
  | cons y u ih =>
    have hn' := List.nodup_cons.1 (show (y :: (u ++ x :: v)).Nodup from hn)
    have ha' : a ≠ y ∧ a ∉ u ++ x :: v := ⟨fun e => ha (by rw [e]; simp), fun e => ha (List.mem_cons_of_mem y e)⟩
    have hb' : b ≠ y ∧ b ∉ u ++ x :: v := ⟨fun e => hb (by rw [e]; simp), fun e => hb (List.mem_cons_of_mem y e)⟩
    have hs := seg_cut.1 (show Seg nx pv y (u ++ x :: v) b from h.2.2)
    refine ⟨?_, ?_, ih h.2.2 hn'.2 hn'.1 hb'.2⟩
    · rw [h3 a ?_ ?_]; exact h.1
      · intro e
        have := seg_pv hs.1
        rw [← e] at this
        rcases List.mem_cons.1 this with h5 | h5
        · exact ha'.1 h5
        · exact ha'.2 (List.mem_append_left _ h5)
      · intro e; exact ha'.2 (by rw [e]; simp)
    · rw [h4 y ?_ ?_]; exact h.2.1
      · intro e
        have := seg_nx hs.2
        rw [← e] at this
        rcases List.mem_append.1 this with h5 | h5
        · exact hn'.1 (List.mem_append_right _ (List.mem_cons_of_mem _ h5))
        · exact hb'.1 (by have : y = b := by simpa using h5
                          exact this.symm)
      · intro e; exact hn'.1 (by rw [e]; simp)
theorem seg_end (h : Seg nx pv a l b) (hn : l.Nodup) (ha : a ∉ l) (hb : b ∉ l) (hx : x ∉ l) (hax : a ≠ x) (h1 : nx' (pv b) = x) (h2 : pv' x = pv b) (h3 : ∀ y, y ≠ pv b → y ≠ x → nx' y = nx y) (h4 : ∀ y, y ≠ b → y ≠ x → pv' y = pv y) : Seg nx' pv' a l x := by
  induction l generalizing a with
  | nil =>
    have e : pv b = a := h.2
    rw [e] at h1 h2
    exact ⟨h1, h2⟩
  | cons y l ih =>
    have hn' := List.nodup_cons.1 hn
    have hxy : y ≠ x := fun e => hx (by rw [e]; simp)
    refine ⟨?_, ?_, ih h.2.2 hn'.2 hn'.1 (fun e => hb (List.mem_cons_of_mem _ e)) (fun e => hx (List.mem_cons_of_mem _ e)) hxy⟩
    · rw [h3 a ?_ hax]; exact h.1
      intro e
      have := seg_pv h.2.2
      rw [← e] at this
      exact ha this
    · rw [h4 y (fun e => hb (by rw [e]; simp)) hxy]; exact h.2.1
theorem seg_push (h : Seg nx pv a l a) (hn : l.Nodup) (ha : a ∉ l) (hx : x ∉ l) (hax : a ≠ x) (h1 : nx' (pv a) = x) (h2 : pv' x = pv a) (h5 : nx' x = a) (h6 : pv' a = x) (h3 : ∀ y, y ≠ pv a → y ≠ x → nx' y = nx y) (h4 : ∀ y, y ≠ a → y ≠ x → pv' y = pv y) : Seg nx' pv' a (l ++ [x]) a :=
  seg_cut.2 ⟨seg_end h hn ha ha hx hax h1 h2 h3 h4, h5, h6⟩
end

/-- What the cells say: of the thing j its queue, the one ahead, the one behind at 3j, 3j+1, 3j+2; of the queue k its first and last at 2k, 2k+1. -/
structure Cl where
  T : Nat → Int
  E : Nat → Int
def Cl.nx (c : Cl) (k : Nat) (x : Int) : Int := if x = -1 then c.E (2 * k) else c.T (3 * x.toNat + 2)
def Cl.pv (c : Cl) (k : Nat) (x : Int) : Int := if x = -1 then c.E (2 * k + 1) else c.T (3 * x.toNat + 1)
def Cl.beh (c : Cl) (k : Nat) (a b : Int) : Cl := if a = -1 then ⟨c.T, upd c.E (2 * k) b⟩ else ⟨upd c.T (3 * a.toNat + 2) b, c.E⟩
def Cl.ahe (c : Cl) (k : Nat) (a b : Int) : Cl := if a = -1 then ⟨c.T, upd c.E (2 * k + 1) b⟩ else ⟨upd c.T (3 * a.toNat + 1) b, c.E⟩
def Cl.tie (c : Cl) (x : Nat) (q a b : Int) : Cl := ⟨upd (upd (upd c.T (3 * x) q) (3 * x + 1) a) (3 * x + 2) b, c.E⟩
/-- A thing, or none. -/
def Ok (x : Int) : Prop := x = -1 ∨ 0 ≤ x
instance (x : Int) : Decidable (Ok x) := inferInstanceAs (Decidable (x = -1 ∨ 0 ≤ x))
section
variable (c : Cl) (k : Nat) (a b y q : Int)
theorem beh_nx (ha : Ok a) (hy : Ok y) (j : Nat) : (c.beh k a b).nx j y = if y = a ∧ (a = -1 → j = k) then b else c.nx j y := by
  unfold Cl.beh Cl.nx upd
  rcases ha with rfl | ha
  · rw [if_pos rfl]
    by_cases e : y = -1
    · subst e
      by_cases e2 : j = k
      · subst e2; simp
      · rw [if_pos rfl, if_pos rfl, if_neg (show ¬ ((-1 : Int) = -1 ∧ ((-1 : Int) = -1 → j = k)) from fun h => e2 (h.2 rfl))]
        exact if_neg (by omega)
    · rw [if_neg e, if_neg (fun h => e h.1), if_neg e]
  · rw [if_neg (show a ≠ -1 by omega)]
    by_cases e : y = -1
    · subst e
      rw [if_pos rfl, if_neg (fun h => by omega), if_pos rfl]
    · rw [if_neg e, if_neg e]
      have hy' : 0 ≤ y := by rcases hy with h | h; exact absurd h e; exact h
      by_cases e2 : y = a
      · subst e2
        rw [if_pos ⟨rfl, fun h => absurd h e⟩]
        exact if_pos rfl
      · rw [if_neg (fun h => e2 h.1)]
        exact if_neg (by omega)
theorem beh_pv (ha : Ok a) (hy : Ok y) (j : Nat) : (c.beh k a b).pv j y = c.pv j y := by
  unfold Cl.beh Cl.pv
  rcases ha with rfl | ha
  · rw [if_pos rfl]
    by_cases e : y = -1
    · rw [if_pos e, if_pos e]; exact if_neg (by omega)
    · rw [if_neg e, if_neg e]
  · rw [if_neg (show a ≠ -1 by omega)]
    by_cases e : y = -1
    · rw [if_pos e, if_pos e]
    · rw [if_neg e, if_neg e]; exact if_neg (by omega)
theorem beh_q (ha : Ok a) (j : Nat) : (c.beh k a b).T (3 * j) = c.T (3 * j) := by
  unfold Cl.beh
  rcases ha with rfl | ha
  · rw [if_pos rfl]
  · rw [if_neg (show a ≠ -1 by omega)]; exact if_neg (by omega)
theorem ahe_pv (ha : Ok a) (hy : Ok y) (j : Nat) : (c.ahe k a b).pv j y = if y = a ∧ (a = -1 → j = k) then b else c.pv j y := by
  unfold Cl.ahe Cl.pv upd
  rcases ha with rfl | ha
  · rw [if_pos rfl]
    by_cases e : y = -1
    · subst e
      by_cases e2 : j = k
      · subst e2; simp
      · rw [if_pos rfl, if_pos rfl, if_neg (show ¬ ((-1 : Int) = -1 ∧ ((-1 : Int) = -1 → j = k)) from fun h => e2 (h.2 rfl))]
        exact if_neg (by omega)
    · rw [if_neg e, if_neg (fun h => e h.1), if_neg e]
  · rw [if_neg (show a ≠ -1 by omega)]
    by_cases e : y = -1
    · subst e
      rw [if_pos rfl, if_neg (fun h => by omega), if_pos rfl]
    · rw [if_neg e, if_neg e]
      have hy' : 0 ≤ y := by rcases hy with h | h; exact absurd h e; exact h
      by_cases e2 : y = a
      · subst e2
        rw [if_pos ⟨rfl, fun h => absurd h e⟩]
        exact if_pos rfl
      · rw [if_neg (fun h => e2 h.1)]
        exact if_neg (by omega)
theorem ahe_nx (ha : Ok a) (hy : Ok y) (j : Nat) : (c.ahe k a b).nx j y = c.nx j y := by
  unfold Cl.ahe Cl.nx
  rcases ha with rfl | ha
  · rw [if_pos rfl]
    by_cases e : y = -1
    · rw [if_pos e, if_pos e]; exact if_neg (by omega)
    · rw [if_neg e, if_neg e]
  · rw [if_neg (show a ≠ -1 by omega)]
    by_cases e : y = -1
    · rw [if_pos e, if_pos e]
    · rw [if_neg e, if_neg e]; exact if_neg (by omega)
theorem ahe_q (ha : Ok a) (j : Nat) : (c.ahe k a b).T (3 * j) = c.T (3 * j) := by
  unfold Cl.ahe
  rcases ha with rfl | ha
  · rw [if_pos rfl]
  · rw [if_neg (show a ≠ -1 by omega)]; exact if_neg (by omega)
theorem tie_nx (x : Nat) (hy : Ok y) (j : Nat) : (c.tie x q a b).nx j y = if y = x then b else c.nx j y := by
  unfold Cl.tie Cl.nx upd
  by_cases e : y = -1
  · rw [if_pos e, if_pos e, if_neg (by omega)]
  · have hy' : 0 ≤ y := by rcases hy with h | h; exact absurd h e; exact h
    rw [if_neg e, if_neg e]
    by_cases e2 : y = x
    · rw [if_pos e2]; exact if_pos (by omega)
    · rw [if_neg e2]
      show (if _ then _ else if _ then _ else if _ then _ else _) = _
      rw [if_neg (by omega), if_neg (by omega), if_neg (by omega)]
theorem tie_pv (x : Nat) (hy : Ok y) (j : Nat) : (c.tie x q a b).pv j y = if y = x then a else c.pv j y := by
  unfold Cl.tie Cl.pv upd
  by_cases e : y = -1
  · rw [if_pos e, if_pos e, if_neg (by omega)]
  · have hy' : 0 ≤ y := by rcases hy with h | h; exact absurd h e; exact h
    rw [if_neg e, if_neg e]
    by_cases e2 : y = x
    · rw [if_pos e2]
      show (if _ then _ else if _ then _ else if _ then _ else _) = _
      rw [if_neg (by omega), if_pos (by omega)]
    · rw [if_neg e2]
      show (if _ then _ else if _ then _ else if _ then _ else _) = _
      rw [if_neg (by omega), if_neg (by omega), if_neg (by omega)]
theorem tie_q (x j : Nat) : (c.tie x q a b).T (3 * j) = if j = x then q else c.T (3 * j) := by
  show (if _ then _ else if _ then _ else if _ then _ else _) = _
  by_cases e : j = x
  · rw [if_neg (by omega), if_neg (by omega), if_pos (by omega), if_pos e]
  · rw [if_neg (by omega), if_neg (by omega), if_neg (by omega), if_neg e]
end

/-- What the queues are: how many things, how many queues, their rows. -/
structure St where
  n : Nat
  m : Nat
  M : Nat → List Int
def St.put (s : St) (k : Nat) (l : List Int) : St := ⟨s.n, s.m, updM s.M k l⟩
structure Good (s : St) (c : Cl) : Prop where
  n : s.n ≤ 64
  m : s.m ≤ 64
  mem : ∀ k, k < s.m → ∀ x ∈ s.M k, 0 ≤ x ∧ x < (s.n : Int) ∧ c.T (3 * x.toNat) = (k : Int)
  out : ∀ j : Nat, j < s.n → c.T (3 * j) = -1 ∨ ∃ k : Nat, k < s.m ∧ c.T (3 * j) = (k : Int) ∧ (j : Int) ∈ s.M k
  nd : ∀ k, k < s.m → (s.M k).Nodup
  seg : ∀ k, k < s.m → Seg (c.nx k) (c.pv k) (-1) (s.M k) (-1)
/-- The rows alone. -/
structure Fine (s : St) : Prop where
  n : s.n ≤ 64
  m : s.m ≤ 64
  mem : ∀ k, k < s.m → ∀ x ∈ s.M k, 0 ≤ x ∧ x < (s.n : Int)
  nd : ∀ k, k < s.m → (s.M k).Nodup
  one : ∀ k j, k < s.m → j < s.m → ∀ x, x ∈ s.M k → x ∈ s.M j → k = j
theorem Fine.len {s : St} (h : Fine s) {k : Nat} (hk : k < s.m) : (s.M k).length ≤ 64 := Nat.le_trans (few s.n _ (h.nd k hk) (h.mem k hk)) h.n
section
variable {s : St} {c : Cl}
theorem Good.fine (h : Good s c) : Fine s := ⟨h.n, h.m, fun k hk x hx => ⟨(h.mem k hk x hx).1, (h.mem k hk x hx).2.1⟩, h.nd, fun k j hk hj x hx hx' => by
  have h1 := (h.mem k hk x hx).2.2
  have h2 := (h.mem j hj x hx').2.2
  omega⟩
theorem Good.ok (h : Good s c) {k : Nat} (hk : k < s.m) {y : Int} (hy : y ∈ s.M k) : Ok y := Or.inr (h.mem k hk y hy).1
theorem Good.none (h : Good s c) {k : Nat} (hk : k < s.m) : (-1 : Int) ∉ s.M k := fun e => by have := (h.mem k hk _ e).1; omega
theorem Good.ok1 (h : Good s c) {k : Nat} (hk : k < s.m) {y : Int} (hy : y ∈ (-1 : Int) :: s.M k) : Ok y := by
  rcases List.mem_cons.1 hy with e | e
  · exact Or.inl e
  · exact h.ok hk e
theorem Good.ok2 (h : Good s c) {k : Nat} (hk : k < s.m) {y : Int} (hy : y ∈ s.M k ++ [(-1 : Int)]) : Ok y := by
  rcases List.mem_append.1 hy with e | e
  · exact h.ok hk e
  · exact Or.inl (by simpa using e)
/-- The last one of a queue, or none. -/
theorem Good.last (h : Good s c) {k : Nat} (hk : k < s.m) : c.E (2 * k + 1) ∈ (-1 : Int) :: s.M k := by
  have := seg_pv (h.seg k hk)
  unfold Cl.pv at this
  rwa [if_pos rfl] at this
theorem Good.first (h : Good s c) {k : Nat} (hk : k < s.m) : c.E (2 * k) ∈ s.M k ++ [(-1 : Int)] := by
  have := seg_nx (h.seg k hk)
  unfold Cl.nx at this
  rwa [if_pos rfl] at this

def Cl.pushed (c : Cl) (k x : Nat) : Cl := (((c.tie x k (c.E (2 * k + 1)) (-1)).beh k (c.E (2 * k + 1)) x).ahe k (-1) x)
theorem Good.push (h : Good s c) {k x : Nat} (hk : k < s.m) (hx : x < s.n) (hq : c.T (3 * x) = -1) : Good (s.put k (s.M k ++ [(x : Int)])) (c.pushed k x) := by
  have hl := h.last hk
  have okl := h.ok1 hk hl
  have okx : Ok (x : Int) := Or.inr (by omega)
  have okn : Ok (-1) := Or.inl rfl
  have notin : ∀ j, j < s.m → (x : Int) ∉ s.M j := fun j hj e => by
    have := (h.mem j hj _ e).2.2
    rw [Int.toNat_natCast, hq] at this
    omega
  have hq' : ∀ j, (c.pushed k x).T (3 * j) = if j = x then (k : Int) else c.T (3 * j) := fun j => by
    unfold Cl.pushed
    rw [ahe_q _ _ _ _ okn, beh_q _ _ _ _ okl, tie_q]
  have hnx : ∀ j y, Ok y → (c.pushed k x).nx j y = if y = c.E (2 * k + 1) ∧ (c.E (2 * k + 1) = -1 → j = k) then (x : Int) else if y = x then -1 else c.nx j y := fun j y hy => by
    unfold Cl.pushed
    rw [ahe_nx _ _ _ _ _ okn hy, beh_nx _ _ _ _ _ okl hy, tie_nx _ _ _ _ _ _ hy]
  have hpv : ∀ j y, Ok y → (c.pushed k x).pv j y = if y = -1 ∧ (True → j = k) then (x : Int) else if y = x then c.E (2 * k + 1) else c.pv j y := fun j y hy => by
    unfold Cl.pushed
    rw [ahe_pv _ _ _ _ _ okn hy, beh_pv _ _ _ _ _ okl hy, tie_pv _ _ _ _ _ _ hy]
    simp
  have hpe : c.pv k (-1) = c.E (2 * k + 1) := if_pos rfl
  have lx : c.E (2 * k + 1) ≠ x := fun e => by
    rw [e] at hl
    rcases List.mem_cons.1 hl with h1 | h1
    · omega
    · exact notin k hk h1
  refine ⟨h.n, h.m, fun j hj y hy => ?_, fun j hj => ?_, fun j hj => ?_, fun j hj => ?_⟩
  · have hj' : j < s.m := hj
    have hy' : y ∈ updM s.M k (s.M k ++ [(x : Int)]) j := hy
    show 0 ≤ y ∧ y < (s.n : Int) ∧ _
    rw [hq']
    by_cases e : j = k
    · subst e
      rw [updM_same] at hy'
      rcases List.mem_append.1 hy' with h1 | h1
      · have h2 := h.mem j hj' y h1
        refine ⟨h2.1, h2.2.1, ?_⟩
        rw [if_neg (fun e => notin j hj' (by rw [← e]; have := h2.1; rwa [Int.toNat_of_nonneg this]))]
        exact h2.2.2
      · have : y = x := by simpa using h1
        subst this
        refine ⟨by omega, by omega, if_pos (by omega)⟩
    · rw [updM_other _ _ e] at hy'
      have h2 := h.mem j hj' y hy'
      refine ⟨h2.1, h2.2.1, ?_⟩
      rw [if_neg (fun e => notin j hj' (by rw [← e]; have := h2.1; rwa [Int.toNat_of_nonneg this]))]
      exact h2.2.2
  · rw [hq']
    by_cases e : j = x
    · subst e
      rw [if_pos rfl]
      exact Or.inr ⟨k, hk, rfl, by show _ ∈ updM s.M k _ k; rw [updM_same]; simp⟩
    · rw [if_neg e]
      rcases h.out j hj with h1 | ⟨i, hi, h1, h2⟩
      · exact Or.inl h1
      · refine Or.inr ⟨i, hi, h1, ?_⟩
        show _ ∈ updM s.M k _ i
        by_cases e2 : i = k
        · subst e2; rw [updM_same]; exact List.mem_append_left _ h2
        · rw [updM_other _ _ e2]; exact h2
  · show (updM s.M k _ j).Nodup
    by_cases e : j = k
    · subst e
      rw [updM_same]
      refine List.nodup_append.2 ⟨h.nd j hj, by simp, fun a ha b hb e => ?_⟩
      have : b = x := by simpa using hb
      subst this
      subst e
      exact notin j hj ha
    · rw [updM_other _ _ e]; exact h.nd j hj
  · have hj' : j < s.m := hj
    show Seg _ _ _ (updM s.M k _ j) _
    by_cases e : j = k
    · subst e
      rw [updM_same]
      have okrow : ∀ y, y ∈ s.M j → Ok y := fun y hy => h.ok hj' hy
      -- outside of things nothing is asked: frame by Ok
      have base := h.seg j hj'
      refine seg_push (nx := fun y => if Ok y then c.nx j y else (c.pushed j x).nx j y) (pv := fun y => if Ok y then c.pv j y else (c.pushed j x).pv j y) ?_ (h.nd j hj') (h.none hj') (notin j hj') (by omega) ?_ ?_ ?_ ?_ ?_ ?_
      · refine seg_frame base (fun y hy => if_pos (h.ok1 hj' hy)) (fun y hy => if_pos (h.ok2 hj' hy))
      · show (c.pushed j x).nx j (if Ok (-1) then c.pv j (-1) else _) = _
        rw [if_pos okn, hpe, hnx _ _ okl, if_pos ⟨rfl, fun _ => rfl⟩]
      · show _ = (if Ok (-1) then c.pv j (-1) else _)
        rw [if_pos okn, hpe, hpv _ _ okx, if_neg (fun e => by omega), if_pos rfl]
      · rw [hnx _ _ okx, if_neg (fun e => lx e.1.symm), if_pos rfl]
      · rw [hpv _ _ okn, if_pos ⟨rfl, fun _ => rfl⟩]
      · intro y h1 h2
        have h1' : y ≠ c.E (2 * j + 1) := by
          intro e
          refine h1 ?_
          show y = if Ok (-1) then c.pv j (-1) else _
          rw [if_pos okn, hpe]; exact e
        by_cases ho : Ok y
        · show _ = if Ok y then _ else _
          rw [if_pos ho, hnx _ _ ho, if_neg (fun e => h1' e.1), if_neg h2]
        · show _ = if Ok y then _ else _
          rw [if_neg ho]
      · intro y h1 h2
        by_cases ho : Ok y
        · show _ = if Ok y then _ else _
          rw [if_pos ho, hpv _ _ ho, if_neg (fun e => h1 e.1), if_neg h2]
        · show _ = if Ok y then _ else _
          rw [if_neg ho]
    · rw [updM_other _ _ e]
      refine seg_frame (h.seg j hj') (fun y hy => ?_) (fun y hy => ?_)
      · have ho := h.ok1 hj' hy
        rw [hnx _ _ ho]
        rw [if_neg, if_neg]
        · intro e1
          subst e1
          rcases List.mem_cons.1 hy with e1 | e1
          · omega
          · exact notin j hj' e1
        · rintro ⟨e1, e2⟩
          rcases List.mem_cons.1 hl with e3 | e3
          · exact e (e2 e3)
          · rcases List.mem_cons.1 hy with e4 | e4
            · rw [← e1, e4] at e3; exact h.none hk e3
            · rw [← e1] at e3
              exact e (h.fine.one j k hj' hk y e4 e3)
      · have ho := h.ok2 hj' hy
        rw [hpv _ _ ho, if_neg (fun h => e (h.2 trivial)), if_neg]
        intro e1
        subst e1
        rcases List.mem_append.1 hy with e1 | e1
        · exact notin j hj' e1
        · have : ((x : Nat) : Int) = -1 := List.mem_singleton.1 e1
          omega

def without (l : List Int) (x : Int) : List Int := l.filter fun y => y != x
theorem without_mid {u v : List Int} {x : Int} (h : (u ++ x :: v).Nodup) : without (u ++ x :: v) x = u ++ v := by
  obtain ⟨h1, h2, h3⟩ := List.nodup_append.1 h
  have hu : ∀ y ∈ u, (y != x) = true := fun y hy => by
    have := h3 y hy x (by simp)
    simpa using this
  have hv : ∀ y ∈ v, (y != x) = true := fun y hy => by
    have : y ≠ x := fun e => (List.nodup_cons.1 h2).1 (by rw [← e]; exact hy)
    simpa using this
  unfold without
  rw [List.filter_append, List.filter_cons_of_neg (by simp), List.filter_eq_self.2 hu, List.filter_eq_self.2 hv]
theorem without_mem {l : List Int} {x y : Int} : y ∈ without l x ↔ y ∈ l ∧ y ≠ x := by
  unfold without
  simp [List.mem_filter]
def Cl.dropped (c : Cl) (k x : Nat) : Cl := (((c.beh k (c.T (3 * x + 1)) (c.T (3 * x + 2))).ahe k (c.T (3 * x + 2)) (c.T (3 * x + 1))).tie x (-1) (-1) (-1))
theorem Good.ties (h : Good s c) {k x : Nat} (hk : k < s.m) (hx : (x : Int) ∈ s.M k) : c.T (3 * x + 1) ∈ (-1 : Int) :: s.M k ∧ c.T (3 * x + 2) ∈ s.M k ++ [(-1 : Int)] ∧ c.T (3 * x + 1) ≠ x ∧ c.T (3 * x + 2) ≠ x := by
  obtain ⟨u, v, e⟩ := List.append_of_mem hx
  have hs := h.seg k hk
  have hn := h.nd k hk
  rw [e] at hs hn
  have h1 := (seg_cut.1 hs).1
  have h2 := (seg_cut.1 hs).2
  have h3 := seg_pv h1
  have h4 := seg_nx h2
  have e1 : c.pv k x = c.T (3 * x + 1) := by
    unfold Cl.pv
    rw [if_neg (by omega)]
    rfl
  have e2 : c.nx k x = c.T (3 * x + 2) := by
    unfold Cl.nx
    rw [if_neg (by omega)]
    rfl
  rw [e1] at h3
  rw [e2] at h4
  obtain ⟨n1, n2, n3⟩ := List.nodup_append.1 hn
  refine ⟨?_, ?_, ?_, ?_⟩
  · rw [e]
    rcases List.mem_cons.1 h3 with e | e
    · rw [e]; simp
    · exact List.mem_cons_of_mem _ (List.mem_append_left _ e)
  · rw [e]
    rcases List.mem_append.1 h4 with e | e
    · exact List.mem_append_left _ (List.mem_append_right _ (List.mem_cons_of_mem _ e))
    · exact List.mem_append_right _ e
  · intro e3
    rw [e3] at h3
    rcases List.mem_cons.1 h3 with e | e
    · omega
    · exact n3 _ e x (by simp) rfl
  · intro e3
    rw [e3] at h4
    rcases List.mem_append.1 h4 with e | e
    · exact (List.nodup_cons.1 n2).1 e
    · have : ((x : Nat) : Int) = -1 := List.mem_singleton.1 e
      omega
theorem Good.drop (h : Good s c) {k x : Nat} (hk : k < s.m) (hx : (x : Int) ∈ s.M k) : Good (s.put k (without (s.M k) x)) (c.dropped k x) := by
  obtain ⟨ha, hb, hax, hbx⟩ := h.ties hk hx
  have oka := h.ok1 hk ha
  have okb := h.ok2 hk hb
  have okx : Ok (x : Int) := Or.inr (by omega)
  have hxn : x < s.n := by have := (h.mem k hk _ hx).2.1; omega
  have hq' : ∀ j, (c.dropped k x).T (3 * j) = if j = x then (-1 : Int) else c.T (3 * j) := fun j => by
    unfold Cl.dropped
    rw [tie_q, ahe_q _ _ _ _ okb, beh_q _ _ _ _ oka]
  have hnx : ∀ j y, Ok y → (c.dropped k x).nx j y = if y = x then -1 else if y = c.T (3 * x + 1) ∧ (c.T (3 * x + 1) = -1 → j = k) then c.T (3 * x + 2) else c.nx j y := fun j y hy => by
    unfold Cl.dropped
    rw [tie_nx _ _ _ _ _ _ hy, ahe_nx _ _ _ _ _ okb hy, beh_nx _ _ _ _ _ oka hy]
  have hpv : ∀ j y, Ok y → (c.dropped k x).pv j y = if y = x then -1 else if y = c.T (3 * x + 2) ∧ (c.T (3 * x + 2) = -1 → j = k) then c.T (3 * x + 1) else c.pv j y := fun j y hy => by
    unfold Cl.dropped
    rw [tie_pv _ _ _ _ _ _ hy, ahe_pv _ _ _ _ _ okb hy, beh_pv _ _ _ _ _ oka hy]
  have e1 : c.pv k x = c.T (3 * x + 1) := by
    unfold Cl.pv
    rw [if_neg (by omega)]
    rfl
  have e2 : c.nx k x = c.T (3 * x + 2) := by
    unfold Cl.nx
    rw [if_neg (by omega)]
    rfl
  have other : ∀ j, j < s.m → j ≠ k → (x : Int) ∉ s.M j := fun j hj e hx' => e (h.fine.one j k hj hk _ hx' hx)
  refine ⟨h.n, h.m, fun j hj y hy => ?_, fun j hj => ?_, fun j hj => ?_, fun j hj => ?_⟩
  · have hj' : j < s.m := hj
    have hy' : y ∈ updM s.M k (without (s.M k) x) j := hy
    show 0 ≤ y ∧ y < (s.n : Int) ∧ _
    rw [hq']
    have key : y ∈ s.M j ∧ y ≠ x := by
      by_cases e : j = k
      · subst e
        rw [updM_same] at hy'
        exact without_mem.1 hy'
      · rw [updM_other _ _ e] at hy'
        exact ⟨hy', fun e2 => other j hj' e (by rw [← e2]; exact hy')⟩
    have h2 := h.mem j hj' y key.1
    refine ⟨h2.1, h2.2.1, ?_⟩
    rw [if_neg (fun e => key.2 (by have := h2.1; omega))]
    exact h2.2.2
  · rw [hq']
    by_cases e : j = x
    · rw [if_pos e]; exact Or.inl rfl
    · rw [if_neg e]
      rcases h.out j hj with h1 | ⟨i, hi, h1, h2⟩
      · exact Or.inl h1
      · refine Or.inr ⟨i, hi, h1, ?_⟩
        show _ ∈ updM s.M k _ i
        by_cases e2 : i = k
        · subst e2; rw [updM_same]; exact without_mem.2 ⟨h2, by omega⟩
        · rw [updM_other _ _ e2]; exact h2
  · show (updM s.M k _ j).Nodup
    by_cases e : j = k
    · subst e
      rw [updM_same]
      exact (h.nd j hj).filter _
    · rw [updM_other _ _ e]; exact h.nd j hj
  · have hj' : j < s.m := hj
    show Seg _ _ _ (updM s.M k _ j) _
    by_cases e : j = k
    · subst e
      rw [updM_same]
      obtain ⟨u, v, eu⟩ := List.append_of_mem hx
      have hn := h.nd j hj'
      have hnone := h.none hj'
      have base := h.seg j hj'
      have base2 : Seg (fun y => if Ok y then c.nx j y else (c.dropped j x).nx j y) (fun y => if Ok y then c.pv j y else (c.dropped j x).pv j y) (-1) (s.M j) (-1) := seg_frame base (fun y hy => if_pos (h.ok1 hj' hy)) (fun y hy => if_pos (h.ok2 hj' hy))
      rw [eu] at hn hnone base2 ⊢
      rw [without_mid hn]
      refine seg_drop base2 hn hnone hnone ?_ ?_ ?_ ?_
      · show (c.dropped j x).nx j (if Ok x then c.pv j x else _) = (if Ok x then c.nx j x else _)
        rw [if_pos okx, if_pos okx, e1, e2, hnx _ _ oka, if_neg hax, if_pos ⟨rfl, fun _ => rfl⟩]
      · show (c.dropped j x).pv j (if Ok x then c.nx j x else _) = (if Ok x then c.pv j x else _)
        rw [if_pos okx, if_pos okx, e1, e2, hpv _ _ okb, if_neg hbx, if_pos ⟨rfl, fun _ => rfl⟩]
      · intro y h1 h2
        have h1' : y ≠ c.T (3 * x + 1) := by
          intro e
          refine h1 ?_
          show y = if Ok x then c.pv j x else _
          rw [if_pos okx, e1]; exact e
        by_cases ho : Ok y
        · show _ = if Ok y then _ else _
          rw [if_pos ho, hnx _ _ ho, if_neg h2, if_neg (fun e => h1' e.1)]
        · show _ = if Ok y then _ else _
          rw [if_neg ho]
      · intro y h1 h2
        have h1' : y ≠ c.T (3 * x + 2) := by
          intro e
          refine h1 ?_
          show y = if Ok x then c.nx j x else _
          rw [if_pos okx, e2]; exact e
        by_cases ho : Ok y
        · show _ = if Ok y then _ else _
          rw [if_pos ho, hpv _ _ ho, if_neg h2, if_neg (fun e => h1' e.1)]
        · show _ = if Ok y then _ else _
          rw [if_neg ho]
    · rw [updM_other _ _ e]
      refine seg_frame (h.seg j hj') (fun y hy => ?_) (fun y hy => ?_)
      · have ho := h.ok1 hj' hy
        rw [hnx _ _ ho, if_neg, if_neg]
        · rintro ⟨e1, e2⟩
          rcases List.mem_cons.1 ha with e3 | e3
          · exact e (e2 e3)
          · rcases List.mem_cons.1 hy with e4 | e4
            · rw [← e1, e4] at e3; exact h.none hk e3
            · rw [← e1] at e3
              exact e (h.fine.one j k hj' hk y e4 e3)
        · intro e1
          subst e1
          rcases List.mem_cons.1 hy with e1 | e1
          · omega
          · exact other j hj' e e1
      · have ho := h.ok2 hj' hy
        rw [hpv _ _ ho, if_neg, if_neg]
        · rintro ⟨e1, e2⟩
          rcases List.mem_append.1 hb with e3 | e3
          · rcases List.mem_append.1 hy with e4 | e4
            · rw [← e1] at e3
              exact e (h.fine.one j k hj' hk y e4 e3)
            · have e5 : y = -1 := by simpa using e4
              rw [← e1, e5] at e3; exact h.none hk e3
          · exact e (e2 (by simpa using e3))
        · intro e1
          subst e1
          rcases List.mem_append.1 hy with e1 | e1
          · exact other j hj' e e1
          · have : ((x : Nat) : Int) = -1 := List.mem_singleton.1 e1
            omega
end

/-- The first queue of m that has x. -/
def whr (M : Nat → List Int) (x : Int) : Nat → Option Nat
  | 0 => none
  | m + 1 => match whr M x m with
    | some k => some k
    | none => if x ∈ M m then some m else none
theorem whr_cases (M : Nat → List Int) (x : Int) (m : Nat) : (whr M x m = none ∧ ∀ k, k < m → x ∉ M k) ∨ ∃ k, k < m ∧ x ∈ M k ∧ (∀ j, j < k → x ∉ M j) ∧ whr M x m = some k := by
  induction m with
  | zero => exact Or.inl ⟨rfl, fun k hk => by omega⟩
  | succ m ih =>
    rcases ih with ⟨e, h⟩ | ⟨k, hk, h1, h2, e⟩
    · by_cases hx : x ∈ M m
      · exact Or.inr ⟨m, by omega, hx, h, by unfold whr; rw [e]; exact if_pos hx⟩
      · refine Or.inl ⟨by unfold whr; rw [e]; exact if_neg hx, fun k hk => ?_⟩
        by_cases e2 : k = m
        · subst e2; exact hx
        · exact h k (by omega)
    · exact Or.inr ⟨k, by omega, h1, h2, by unfold whr; rw [e]⟩
def inB (s : St) (x : Int) : Bool := (whr s.M x s.m).isSome
def inV (s : St) (x : Int) : Int := match whr s.M x s.m with
  | some k => k
  | none => 0
def dropS (s : St) (x : Int) : St := match whr s.M x s.m with
  | some k => s.put k (without (s.M k) x)
  | none => s
theorem in_cases (s : St) (x : Int) : (inB s x = false ∧ inV s x = 0 ∧ dropS s x = s ∧ ∀ k, k < s.m → x ∉ s.M k) ∨ ∃ k, k < s.m ∧ x ∈ s.M k ∧ (∀ j, j < k → x ∉ s.M j) ∧ inB s x = true ∧ inV s x = (k : Int) ∧ dropS s x = s.put k (without (s.M k) x) := by
  unfold inB inV dropS
  rcases whr_cases s.M x s.m with ⟨e, h⟩ | ⟨k, hk, h1, h2, e⟩
  · rw [e]; exact Or.inl ⟨rfl, rfl, rfl, h⟩
  · rw [e]; exact Or.inr ⟨k, hk, h1, h2, rfl, rfl, rfl⟩
def isQ (s : St) (k : Int) : Bool := decide (0 ≤ k ∧ k < (s.m : Int))
def isT (s : St) (x : Int) : Bool := decide (0 ≤ x ∧ x < (s.n : Int))
def firstB (s : St) (k : Int) : Bool := isQ s k && decide (0 < (s.M k.toNat).length)
def firstV (s : St) (k : Int) : Int := if firstB s k = true then (s.M k.toNat).getD 0 0 else 0
def pushB (s : St) (k x : Int) : Bool := isQ s k && isT s x && !inB s x
def pushS (s : St) (k x : Int) : St := if pushB s k x = true then s.put k.toNat (s.M k.toNat ++ [x]) else s
def popS (s : St) (k : Int) : St := if firstB s k = true then dropS s (firstV s k) else s
theorem drop_same (s : St) (x : Int) : (dropS s x).n = s.n ∧ (dropS s x).m = s.m := by
  rcases in_cases s x with ⟨_, _, e, _⟩ | ⟨k, _, _, _, _, _, e⟩
  · rw [e]; exact ⟨rfl, rfl⟩
  · rw [e]; exact ⟨rfl, rfl⟩
theorem push_same (s : St) (k x : Int) : (pushS s k x).n = s.n ∧ (pushS s k x).m = s.m := by
  unfold pushS
  split
  · exact ⟨rfl, rfl⟩
  · exact ⟨rfl, rfl⟩
theorem pop_same (s : St) (k : Int) : (popS s k).n = s.n ∧ (popS s k).m = s.m := by
  unfold popS
  split
  · exact drop_same _ _
  · exact ⟨rfl, rfl⟩
theorem Fine.row {s : St} (h : Fine s) (k : Nat) (l : List Int) (h1 : ∀ x ∈ l, 0 ≤ x ∧ x < (s.n : Int)) (h2 : l.Nodup) (h3 : ∀ j, j < s.m → j ≠ k → ∀ x, x ∈ l → x ∉ s.M j) : Fine (s.put k l) := by
  refine ⟨h.n, h.m, fun j hj x hx => ?_, fun j hj => ?_, fun i j hi hj x hx hx' => ?_⟩
  · have hx' : x ∈ updM s.M k l j := hx
    by_cases e : j = k
    · subst e; rw [updM_same] at hx'; exact h1 x hx'
    · rw [updM_other _ _ e] at hx'; exact h.mem j hj x hx'
  · show (updM s.M k l j).Nodup
    by_cases e : j = k
    · subst e; rw [updM_same]; exact h2
    · rw [updM_other _ _ e]; exact h.nd j hj
  · have hx1 : x ∈ updM s.M k l i := hx
    have hx2 : x ∈ updM s.M k l j := hx'
    by_cases e : i = k
    · by_cases e2 : j = k
      · omega
      · subst e
        rw [updM_same] at hx1
        rw [updM_other _ _ e2] at hx2
        exact absurd hx2 (h3 j hj e2 x hx1)
    · rw [updM_other _ _ e] at hx1
      by_cases e2 : j = k
      · subst e2
        rw [updM_same] at hx2
        exact absurd hx1 (h3 i hi e x hx2)
      · rw [updM_other _ _ e2] at hx2
        exact h.one i j hi hj x hx1 hx2
theorem drop_fine {s : St} (h : Fine s) (x : Int) : Fine (dropS s x) := by
  rcases in_cases s x with ⟨_, _, e, _⟩ | ⟨k, hk, _, _, _, _, e⟩
  · rw [e]; exact h
  · rw [e]
    refine h.row k _ (fun y hy => h.mem k hk y (without_mem.1 hy).1) ((h.nd k hk).filter _) (fun j hj e2 y hy hy' => e2 (h.one j k hj hk y hy' (without_mem.1 hy).1))
theorem push_fine {s : St} (h : Fine s) (k x : Int) : Fine (pushS s k x) := by
  unfold pushS
  split
  · rename_i hb
    unfold pushB isQ isT at hb
    simp only [Bool.and_eq_true, decide_eq_true_eq, Bool.not_eq_true'] at hb
    obtain ⟨⟨h1, h2⟩, h3⟩ := hb
    have hk : k.toNat < s.m := by omega
    have hx : ∀ j, j < s.m → x ∉ s.M j := by
      rcases in_cases s x with ⟨_, _, _, e⟩ | ⟨i, _, _, _, e, _⟩
      · exact e
      · rw [e] at h3; cases h3
    refine h.row _ _ (fun y hy => ?_) ?_ (fun j hj e2 y hy hy' => ?_)
    · rcases List.mem_append.1 hy with e | e
      · exact h.mem _ hk y e
      · have : y = x := by simpa using e
        omega
    · refine List.nodup_append.2 ⟨h.nd _ hk, by simp, fun a ha b hb e => ?_⟩
      have : b = x := by simpa using hb
      subst this
      subst e
      exact hx _ hk ha
    · rcases List.mem_append.1 hy with e | e
      · exact e2 (h.one _ _ hj hk y hy' e)
      · have : y = x := by simpa using e
        subst this
        exact hx j hj hy'
  · exact h
theorem pop_fine {s : St} (h : Fine s) (k : Int) : Fine (popS s k) := by
  unfold popS
  split
  · exact drop_fine h _
  · exact h

end Go.Proofs.Ytgkkmbkialcfiaa
