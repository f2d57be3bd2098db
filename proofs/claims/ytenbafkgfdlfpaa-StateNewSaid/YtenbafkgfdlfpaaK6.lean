/- Taken from s6: Math Mem Ops List New. Made by pullk.py. -/
import Derived.Test.YtenbafkgfdlfpaaGAny
import Derived.BigQuiet
import Derived.Deep.QuietTactic
import Derived.Outline
import Derived.RegionTactic
import Derived.ChangeAlike
import Derived.Deep.CutBlock
import Derived.Deep.DeepCutAuto
import Derived.Deep.Slices
import Derived.IntWalk
namespace Go.Proofs.Ytenbafkgfdlfpaa.C6
open Go.RowKit
set_option linter.unusedVariables false

def updM (M : Nat → List Int) (i : Nat) (l : List Int) : Nat → List Int := fun k => if k = i then l else M k
theorem updM_same (M : Nat → List Int) (i : Nat) (l : List Int) : updM M i l i = l := if_pos rfl
theorem updM_other (M : Nat → List Int) {i k : Nat} (l : List Int) (h : k ≠ i) : updM M i l k = M k := if_neg h
def upd (T : Nat → Int) (i : Nat) (x : Int) : Nat → Int := fun k => if k = i then x else T k
/-- Numbers from 0 on below m, each once: no more than m. -/
theorem few (m : Nat) : ∀ l : List Int, l.Nodup → (∀ v ∈ l, 0 ≤ v ∧ v < (m : Int)) → l.length ≤ m := by
  induction m with
  | zero =>
    intro l _ h
    cases l with
    | nil => simp
    | cons a l => have := h a (by simp); omega
  | succ m ih =>
    intro l hn h
    have h1 : (l.erase (m : Int)).Nodup := hn.erase _
    have h2 : ∀ v ∈ l.erase (m : Int), 0 ≤ v ∧ v < (m : Int) := by
      intro v hv
      have hv' := List.mem_of_mem_erase hv
      have := h v hv'
      have hne : v ≠ (m : Int) := by
        intro e
        subst e
        exact (List.Nodup.mem_erase_iff hn).1 hv |>.1 rfl
      omega
    have h3 := ih _ h1 h2
    have h4 := List.length_erase (a := (m : Int)) (l := l)
    split at h4 <;> omega

/-- From a through l to b: nx tells what is behind, pv what is ahead. -/
def Seg (nx pv : Int → Int) : Int → List Int → Int → Prop
  | a, [], b => nx a = b ∧ pv b = a
  | a, x :: l, b => nx a = x ∧ pv x = a ∧ Seg nx pv x l b
section
variable {nx pv nx' pv' : Int → Int} {a b x : Int} {u v l : List Int}
theorem seg_frame (h : Seg nx pv a l b) (h1 : ∀ y ∈ a :: l, nx' y = nx y) (h2 : ∀ y ∈ l ++ [b], pv' y = pv y) : Seg nx' pv' a l b := by
  induction l generalizing a with
  | nil =>
    refine ⟨?_, ?_⟩
    · rw [h1 a (by simp)]; exact h.1
    · rw [h2 b (by simp)]; exact h.2
  | cons y l ih =>
    refine ⟨?_, ?_, ih h.2.2 (fun z hz => h1 z (by simp at hz ⊢; exact Or.inr hz)) (fun z hz => h2 z (by simp at hz ⊢; exact Or.inr hz))⟩
    · rw [h1 a (by simp)]; exact h.1
    · rw [h2 y (by simp)]; exact h.2.1

end
section
variable {nx pv nx' pv' : Int → Int} {a b x : Int} {u v l : List Int}
theorem seg_cut : Seg nx pv a (u ++ x :: v) b ↔ Seg nx pv a u x ∧ Seg nx pv x v b := by
  induction u generalizing a with
  | nil => exact ⟨fun h => ⟨⟨h.1, h.2.1⟩, h.2.2⟩, fun h => ⟨h.1.1, h.1.2, h.2⟩⟩
  | cons y u ih => exact ⟨fun h => ⟨⟨h.1, h.2.1, (ih.1 h.2.2).1⟩, (ih.1 h.2.2).2⟩, fun h => ⟨h.1.1, h.1.2.1, ih.2 ⟨h.1.2.2, h.2⟩⟩⟩

end
section
variable {nx pv nx' pv' : Int → Int} {a b x : Int} {u v l : List Int}
theorem seg_pv (h : Seg nx pv a l b) : pv b ∈ a :: l := by
  induction l generalizing a with
  | nil => rw [h.2]; simp
  | cons y l ih => exact List.mem_cons_of_mem _ (ih h.2.2)

end
section
variable {nx pv nx' pv' : Int → Int} {a b x : Int} {u v l : List Int}
theorem seg_nx (h : Seg nx pv a l b) : nx a ∈ l ++ [b] := by
  cases l with
  | nil => rw [h.1]; simp
  | cons y l => rw [h.1]; simp

end
section
variable {nx pv nx' pv' : Int → Int} {a b x : Int} {u v l : List Int}
theorem seg_end (h : Seg nx pv a l b) (hn : l.Nodup) (ha : a ∉ l) (hb : b ∉ l) (hx : x ∉ l) (hax : a ≠ x) (h1 : nx' (pv b) = x) (h2 : pv' x = pv b) (h3 : ∀ y, y ≠ pv b → y ≠ x → nx' y = nx y) (h4 : ∀ y, y ≠ b → y ≠ x → pv' y = pv y) : Seg nx' pv' a l x := by
  induction l generalizing a with
  | nil =>
    have e : pv b = a := h.2
    rw [e] at h1 h2
    exact ⟨h1, h2⟩
  | cons y l ih =>
    have hn' := List.nodup_cons.1 hn
    have hxy : y ≠ x := fun e => hx (by rw [e]; simp)
    refine ⟨?_, ?_, ih h.2.2 hn'.2 hn'.1 (fun e => hb (List.mem_cons_of_mem _ e)) (fun e => hx (List.mem_cons_of_mem _ e)) hxy⟩
    · rw [h3 a ?_ hax]; exact h.1
      intro e
      have := seg_pv h.2.2
      rw [← e] at this
      exact ha this
    · rw [h4 y (fun e => hb (by rw [e]; simp)) hxy]; exact h.2.1

end
section
variable {nx pv nx' pv' : Int → Int} {a b x : Int} {u v l : List Int}
theorem seg_push (h : Seg nx pv a l a) (hn : l.Nodup) (ha : a ∉ l) (hx : x ∉ l) (hax : a ≠ x) (h1 : nx' (pv a) = x) (h2 : pv' x = pv a) (h5 : nx' x = a) (h6 : pv' a = x) (h3 : ∀ y, y ≠ pv a → y ≠ x → nx' y = nx y) (h4 : ∀ y, y ≠ a → y ≠ x → pv' y = pv y) : Seg nx' pv' a (l ++ [x]) a :=
  seg_cut.2 ⟨seg_end h hn ha ha hx hax h1 h2 h3 h4, h5, h6⟩

end
/-- What the cells say: of the thing j its queue, the one ahead, the one behind at 3j, 3j+1, 3j+2; of the queue k its first and last at 2k, 2k+1. -/
structure Cl where
  T : Nat → Int
  E : Nat → Int
def Cl.nx (c : Cl) (k : Nat) (x : Int) : Int := if x = -1 then c.E (2 * k) else c.T (3 * x.toNat + 2)
def Cl.pv (c : Cl) (k : Nat) (x : Int) : Int := if x = -1 then c.E (2 * k + 1) else c.T (3 * x.toNat + 1)
def Cl.beh (c : Cl) (k : Nat) (a b : Int) : Cl := if a = -1 then ⟨c.T, upd c.E (2 * k) b⟩ else ⟨upd c.T (3 * a.toNat + 2) b, c.E⟩
def Cl.ahe (c : Cl) (k : Nat) (a b : Int) : Cl := if a = -1 then ⟨c.T, upd c.E (2 * k + 1) b⟩ else ⟨upd c.T (3 * a.toNat + 1) b, c.E⟩
def Cl.tie (c : Cl) (x : Nat) (q a b : Int) : Cl := ⟨upd (upd (upd c.T (3 * x) q) (3 * x + 1) a) (3 * x + 2) b, c.E⟩
/-- A thing, or none. -/
def Ok (x : Int) : Prop := x = -1 ∨ 0 ≤ x
instance (x : Int) : Decidable (Ok x) := inferInstanceAs (Decidable (x = -1 ∨ 0 ≤ x))
section
variable (c : Cl) (k : Nat) (a b y q : Int)
theorem beh_nx (ha : Ok a) (hy : Ok y) (j : Nat) : (c.beh k a b).nx j y = if y = a ∧ (a = -1 → j = k) then b else c.nx j y := by
  unfold Cl.beh Cl.nx upd
  rcases ha with rfl | ha
  · rw [if_pos rfl]
    by_cases e : y = -1
    · subst e
      by_cases e2 : j = k
      · subst e2; simp
      · rw [if_pos rfl, if_pos rfl, if_neg (show ¬ ((-1 : Int) = -1 ∧ ((-1 : Int) = -1 → j = k)) from fun h => e2 (h.2 rfl))]
        exact if_neg (by omega)
    · rw [if_neg e, if_neg (fun h => e h.1), if_neg e]
  · rw [if_neg (show a ≠ -1 by omega)]
    by_cases e : y = -1
    · subst e
      rw [if_pos rfl, if_neg (fun h => by omega), if_pos rfl]
    · rw [if_neg e, if_neg e]
      have hy' : 0 ≤ y := by rcases hy with h | h; exact absurd h e; exact h
      by_cases e2 : y = a
      · subst e2
        rw [if_pos ⟨rfl, fun h => absurd h e⟩]
        exact if_pos rfl
      · rw [if_neg (fun h => e2 h.1)]
        exact if_neg (by omega)

end
section
variable (c : Cl) (k : Nat) (a b y q : Int)
theorem beh_pv (ha : Ok a) (hy : Ok y) (j : Nat) : (c.beh k a b).pv j y = c.pv j y := by
  unfold Cl.beh Cl.pv
  rcases ha with rfl | ha
  · rw [if_pos rfl]
    by_cases e : y = -1
    · rw [if_pos e, if_pos e]; exact if_neg (by omega)
    · rw [if_neg e, if_neg e]
  · rw [if_neg (show a ≠ -1 by omega)]
    by_cases e : y = -1
    · rw [if_pos e, if_pos e]
    · rw [if_neg e, if_neg e]; exact if_neg (by omega)

end
section
variable (c : Cl) (k : Nat) (a b y q : Int)
theorem beh_q (ha : Ok a) (j : Nat) : (c.beh k a b).T (3 * j) = c.T (3 * j) := by
  unfold Cl.beh
  rcases ha with rfl | ha
  · rw [if_pos rfl]
  · rw [if_neg (show a ≠ -1 by omega)]; exact if_neg (by omega)

end
section
variable (c : Cl) (k : Nat) (a b y q : Int)
theorem ahe_pv (ha : Ok a) (hy : Ok y) (j : Nat) : (c.ahe k a b).pv j y = if y = a ∧ (a = -1 → j = k) then b else c.pv j y := by
  unfold Cl.ahe Cl.pv upd
  rcases ha with rfl | ha
  · rw [if_pos rfl]
    by_cases e : y = -1
    · subst e
      by_cases e2 : j = k
      · subst e2; simp
      · rw [if_pos rfl, if_pos rfl, if_neg (show ¬ ((-1 : Int) = -1 ∧ ((-1 : Int) = -1 → j = k)) from fun h => e2 (h.2 rfl))]
        exact if_neg (by omega)
    · rw [if_neg e, if_neg (fun h => e h.1), if_neg e]
  · rw [if_neg (show a ≠ -1 by omega)]
    by_cases e : y = -1
    · subst e
      rw [if_pos rfl, if_neg (fun h => by omega), if_pos rfl]
    · rw [if_neg e, if_neg e]
      have hy' : 0 ≤ y := by rcases hy with h | h; exact absurd h e; exact h
      by_cases e2 : y = a
      · subst e2
        rw [if_pos ⟨rfl, fun h => absurd h e⟩]
        exact if_pos rfl
      · rw [if_neg (fun h => e2 h.1)]
        exact if_neg (by omega)

end
section
variable (c : Cl) (k : Nat) (a b y q : Int)
theorem ahe_nx (ha : Ok a) (hy : Ok y) (j : Nat) : (c.ahe k a b).nx j y = c.nx j y := by
  unfold Cl.ahe Cl.nx
  rcases ha with rfl | ha
  · rw [if_pos rfl]
    by_cases e : y = -1
    · rw [if_pos e, if_pos e]; exact if_neg (by omega)
    · rw [if_neg e, if_neg e]
  · rw [if_neg (show a ≠ -1 by omega)]
    by_cases e : y = -1
    · rw [if_pos e, if_pos e]
    · rw [if_neg e, if_neg e]; exact if_neg (by omega)

end
section
variable (c : Cl) (k : Nat) (a b y q : Int)
theorem ahe_q (ha : Ok a) (j : Nat) : (c.ahe k a b).T (3 * j) = c.T (3 * j) := by
  unfold Cl.ahe
  rcases ha with rfl | ha
  · rw [if_pos rfl]
  · rw [if_neg (show a ≠ -1 by omega)]; exact if_neg (by omega)

end
section
variable (c : Cl) (k : Nat) (a b y q : Int)
theorem tie_nx (x : Nat) (hy : Ok y) (j : Nat) : (c.tie x q a b).nx j y = if y = x then b else c.nx j y := by
  unfold Cl.tie Cl.nx upd
  by_cases e : y = -1
  · rw [if_pos e, if_pos e, if_neg (by omega)]
  · have hy' : 0 ≤ y := by rcases hy with h | h; exact absurd h e; exact h
    rw [if_neg e, if_neg e]
    by_cases e2 : y = x
    · rw [if_pos e2]; exact if_pos (by omega)
    · rw [if_neg e2]
      show (if _ then _ else if _ then _ else if _ then _ else _) = _
      rw [if_neg (by omega), if_neg (by omega), if_neg (by omega)]

end
section
variable (c : Cl) (k : Nat) (a b y q : Int)
theorem tie_pv (x : Nat) (hy : Ok y) (j : Nat) : (c.tie x q a b).pv j y = if y = x then a else c.pv j y := by
  unfold Cl.tie Cl.pv upd
  by_cases e : y = -1
  · rw [if_pos e, if_pos e, if_neg (by omega)]
  · have hy' : 0 ≤ y := by rcases hy with h | h; exact absurd h e; exact h
    rw [if_neg e, if_neg e]
    by_cases e2 : y = x
    · rw [if_pos e2]
      show (if _ then _ else if _ then _ else if _ then _ else _) = _
      rw [if_neg (by omega), if_pos (by omega)]
    · rw [if_neg e2]
      show (if _ then _ else if _ then _ else if _ then _ else _) = _
      rw [if_neg (by omega), if_neg (by omega), if_neg (by omega)]

end
section
variable (c : Cl) (k : Nat) (a b y q : Int)
theorem tie_q (x j : Nat) : (c.tie x q a b).T (3 * j) = if j = x then q else c.T (3 * j) := by
  show (if _ then _ else if _ then _ else if _ then _ else _) = _
  by_cases e : j = x
  · rw [if_neg (by omega), if_neg (by omega), if_pos (by omega), if_pos e]
  · rw [if_neg (by omega), if_neg (by omega), if_neg (by omega), if_neg e]

end
/-- What the queues are: how many things, how many queues, their rows. -/
structure St where
  n : Nat
  m : Nat
  M : Nat → List Int
def St.put (s : St) (k : Nat) (l : List Int) : St := ⟨s.n, s.m, updM s.M k l⟩
structure Good (s : St) (c : Cl) : Prop where
  n : s.n ≤ 64
  m : s.m ≤ 64
  mem : ∀ k, k < s.m → ∀ x ∈ s.M k, 0 ≤ x ∧ x < (s.n : Int) ∧ c.T (3 * x.toNat) = (k : Int)
  out : ∀ j : Nat, j < s.n → c.T (3 * j) = -1 ∨ ∃ k : Nat, k < s.m ∧ c.T (3 * j) = (k : Int) ∧ (j : Int) ∈ s.M k
  nd : ∀ k, k < s.m → (s.M k).Nodup
  seg : ∀ k, k < s.m → Seg (c.nx k) (c.pv k) (-1) (s.M k) (-1)
/-- The rows alone. -/
structure Fine (s : St) : Prop where
  n : s.n ≤ 64
  m : s.m ≤ 64
  mem : ∀ k, k < s.m → ∀ x ∈ s.M k, 0 ≤ x ∧ x < (s.n : Int)
  nd : ∀ k, k < s.m → (s.M k).Nodup
  one : ∀ k j, k < s.m → j < s.m → ∀ x, x ∈ s.M k → x ∈ s.M j → k = j
theorem Fine.len {s : St} (h : Fine s) {k : Nat} (hk : k < s.m) : (s.M k).length ≤ 64 := Nat.le_trans (few s.n _ (h.nd k hk) (h.mem k hk)) h.n
section
variable {s : St} {c : Cl}
theorem Good.fine (h : Good s c) : Fine s := ⟨h.n, h.m, fun k hk x hx => ⟨(h.mem k hk x hx).1, (h.mem k hk x hx).2.1⟩, h.nd, fun k j hk hj x hx hx' => by
  have h1 := (h.mem k hk x hx).2.2
  have h2 := (h.mem j hj x hx').2.2
  omega⟩

end
section
variable {s : St} {c : Cl}
theorem Good.ok (h : Good s c) {k : Nat} (hk : k < s.m) {y : Int} (hy : y ∈ s.M k) : Ok y := Or.inr (h.mem k hk y hy).1

end
section
variable {s : St} {c : Cl}
theorem Good.none (h : Good s c) {k : Nat} (hk : k < s.m) : (-1 : Int) ∉ s.M k := fun e => by have := (h.mem k hk _ e).1; omega

end
section
variable {s : St} {c : Cl}
theorem Good.ok1 (h : Good s c) {k : Nat} (hk : k < s.m) {y : Int} (hy : y ∈ (-1 : Int) :: s.M k) : Ok y := by
  rcases List.mem_cons.1 hy with e | e
  · exact Or.inl e
  · exact h.ok hk e

end
section
variable {s : St} {c : Cl}
theorem Good.ok2 (h : Good s c) {k : Nat} (hk : k < s.m) {y : Int} (hy : y ∈ s.M k ++ [(-1 : Int)]) : Ok y := by
  rcases List.mem_append.1 hy with e | e
  · exact h.ok hk e
  · exact Or.inl (by simpa using e)

end
section
variable {s : St} {c : Cl}
/-- The last one of a queue, or none. -/
theorem Good.last (h : Good s c) {k : Nat} (hk : k < s.m) : c.E (2 * k + 1) ∈ (-1 : Int) :: s.M k := by
  have := seg_pv (h.seg k hk)
  unfold Cl.pv at this
  rwa [if_pos rfl] at this

end
section
variable {s : St} {c : Cl}
def Cl.pushed (c : Cl) (k x : Nat) : Cl := (((c.tie x k (c.E (2 * k + 1)) (-1)).beh k (c.E (2 * k + 1)) x).ahe k (-1) x)

end
section
variable {s : St} {c : Cl}
theorem Good.push (h : Good s c) {k x : Nat} (hk : k < s.m) (hx : x < s.n) (hq : c.T (3 * x) = -1) : Good (s.put k (s.M k ++ [(x : Int)])) (c.pushed k x) := by
  have hl := h.last hk
  have okl := h.ok1 hk hl
  have okx : Ok (x : Int) := Or.inr (by omega)
  have okn : Ok (-1) := Or.inl rfl
  have notin : ∀ j, j < s.m → (x : Int) ∉ s.M j := fun j hj e => by
    have := (h.mem j hj _ e).2.2
    rw [Int.toNat_natCast, hq] at this
    omega
  have hq' : ∀ j, (c.pushed k x).T (3 * j) = if j = x then (k : Int) else c.T (3 * j) := fun j => by
    unfold Cl.pushed
    rw [ahe_q _ _ _ _ okn, beh_q _ _ _ _ okl, tie_q]
  have hnx : ∀ j y, Ok y → (c.pushed k x).nx j y = if y = c.E (2 * k + 1) ∧ (c.E (2 * k + 1) = -1 → j = k) then (x : Int) else if y = x then -1 else c.nx j y := fun j y hy => by
    unfold Cl.pushed
    rw [ahe_nx _ _ _ _ _ okn hy, beh_nx _ _ _ _ _ okl hy, tie_nx _ _ _ _ _ _ hy]
  have hpv : ∀ j y, Ok y → (c.pushed k x).pv j y = if y = -1 ∧ (True → j = k) then (x : Int) else if y = x then c.E (2 * k + 1) else c.pv j y := fun j y hy => by
    unfold Cl.pushed
    rw [ahe_pv _ _ _ _ _ okn hy, beh_pv _ _ _ _ _ okl hy, tie_pv _ _ _ _ _ _ hy]
    simp
  have hpe : c.pv k (-1) = c.E (2 * k + 1) := if_pos rfl
  have lx : c.E (2 * k + 1) ≠ x := fun e => by
    rw [e] at hl
    rcases List.mem_cons.1 hl with h1 | h1
    · omega
    · exact notin k hk h1
  refine ⟨h.n, h.m, fun j hj y hy => ?_, fun j hj => ?_, fun j hj => ?_, fun j hj => ?_⟩
  · have hj' : j < s.m := hj
    have hy' : y ∈ updM s.M k (s.M k ++ [(x : Int)]) j := hy
    show 0 ≤ y ∧ y < (s.n : Int) ∧ _
    rw [hq']
    by_cases e : j = k
    · subst e
      rw [updM_same] at hy'
      rcases List.mem_append.1 hy' with h1 | h1
      · have h2 := h.mem j hj' y h1
        refine ⟨h2.1, h2.2.1, ?_⟩
        rw [if_neg (fun e => notin j hj' (by rw [← e]; have := h2.1; rwa [Int.toNat_of_nonneg this]))]
        exact h2.2.2
      · have : y = x := by simpa using h1
        subst this
        refine ⟨by omega, by omega, if_pos (by omega)⟩
    · rw [updM_other _ _ e] at hy'
      have h2 := h.mem j hj' y hy'
      refine ⟨h2.1, h2.2.1, ?_⟩
      rw [if_neg (fun e => notin j hj' (by rw [← e]; have := h2.1; rwa [Int.toNat_of_nonneg this]))]
      exact h2.2.2
  · rw [hq']
    by_cases e : j = x
    · subst e
      rw [if_pos rfl]
      exact Or.inr ⟨k, hk, rfl, by show _ ∈ updM s.M k _ k; rw [updM_same]; simp⟩
    · rw [if_neg e]
      rcases h.out j hj with h1 | ⟨i, hi, h1, h2⟩
      · exact Or.inl h1
      · refine Or.inr ⟨i, hi, h1, ?_⟩
        show _ ∈ updM s.M k _ i
        by_cases e2 : i = k
        · subst e2; rw [updM_same]; exact List.mem_append_left _ h2
        · rw [updM_other _ _ e2]; exact h2
  · show (updM s.M k _ j).Nodup
    by_cases e : j = k
    · subst e
      rw [updM_same]
      refine List.nodup_append.2 ⟨h.nd j hj, by simp, fun a ha b hb e => ?_⟩
      have : b = x := by simpa using hb
      subst this
      subst e
      exact notin j hj ha
    · rw [updM_other _ _ e]; exact h.nd j hj
  · have hj' : j < s.m := hj
    show Seg _ _ _ (updM s.M k _ j) _
    by_cases e : j = k
    · subst e
      rw [updM_same]
      have okrow : ∀ y, y ∈ s.M j → Ok y := fun y hy => h.ok hj' hy
      -- outside of things nothing is asked: frame by Ok
      have base := h.seg j hj'
      refine seg_push (nx := fun y => if Ok y then c.nx j y else (c.pushed j x).nx j y) (pv := fun y => if Ok y then c.pv j y else (c.pushed j x).pv j y) ?_ (h.nd j hj') (h.none hj') (notin j hj') (by omega) ?_ ?_ ?_ ?_ ?_ ?_
      · refine seg_frame base (fun y hy => if_pos (h.ok1 hj' hy)) (fun y hy => if_pos (h.ok2 hj' hy))
      · show (c.pushed j x).nx j (if Ok (-1) then c.pv j (-1) else _) = _
        rw [if_pos okn, hpe, hnx _ _ okl, if_pos ⟨rfl, fun _ => rfl⟩]
      · show _ = (if Ok (-1) then c.pv j (-1) else _)
        rw [if_pos okn, hpe, hpv _ _ okx, if_neg (fun e => by omega), if_pos rfl]
      · rw [hnx _ _ okx, if_neg (fun e => lx e.1.symm), if_pos rfl]
      · rw [hpv _ _ okn, if_pos ⟨rfl, fun _ => rfl⟩]
      · intro y h1 h2
        have h1' : y ≠ c.E (2 * j + 1) := by
          intro e
          refine h1 ?_
          show y = if Ok (-1) then c.pv j (-1) else _
          rw [if_pos okn, hpe]; exact e
        by_cases ho : Ok y
        · show _ = if Ok y then _ else _
          rw [if_pos ho, hnx _ _ ho, if_neg (fun e => h1' e.1), if_neg h2]
        · show _ = if Ok y then _ else _
          rw [if_neg ho]
      · intro y h1 h2
        by_cases ho : Ok y
        · show _ = if Ok y then _ else _
          rw [if_pos ho, hpv _ _ ho, if_neg (fun e => h1 e.1), if_neg h2]
        · show _ = if Ok y then _ else _
          rw [if_neg ho]
    · rw [updM_other _ _ e]
      refine seg_frame (h.seg j hj') (fun y hy => ?_) (fun y hy => ?_)
      · have ho := h.ok1 hj' hy
        rw [hnx _ _ ho]
        rw [if_neg, if_neg]
        · intro e1
          subst e1
          rcases List.mem_cons.1 hy with e1 | e1
          · omega
          · exact notin j hj' e1
        · rintro ⟨e1, e2⟩
          rcases List.mem_cons.1 hl with e3 | e3
          · exact e (e2 e3)
          · rcases List.mem_cons.1 hy with e4 | e4
            · rw [← e1, e4] at e3; exact h.none hk e3
            · rw [← e1] at e3
              exact e (h.fine.one j k hj' hk y e4 e3)
      · have ho := h.ok2 hj' hy
        rw [hpv _ _ ho, if_neg (fun h => e (h.2 trivial)), if_neg]
        intro e1
        subst e1
        rcases List.mem_append.1 hy with e1 | e1
        · exact notin j hj' e1
        · have : ((x : Nat) : Int) = -1 := List.mem_singleton.1 e1
          omega


end
section
variable {s : St} {c : Cl}
def without (l : List Int) (x : Int) : List Int := l.filter fun y => y != x

end
section
variable {s : St} {c : Cl}
theorem Good.ties (h : Good s c) {k x : Nat} (hk : k < s.m) (hx : (x : Int) ∈ s.M k) : c.T (3 * x + 1) ∈ (-1 : Int) :: s.M k ∧ c.T (3 * x + 2) ∈ s.M k ++ [(-1 : Int)] ∧ c.T (3 * x + 1) ≠ x ∧ c.T (3 * x + 2) ≠ x := by
  obtain ⟨u, v, e⟩ := List.append_of_mem hx
  have hs := h.seg k hk
  have hn := h.nd k hk
  rw [e] at hs hn
  have h1 := (seg_cut.1 hs).1
  have h2 := (seg_cut.1 hs).2
  have h3 := seg_pv h1
  have h4 := seg_nx h2
  have e1 : c.pv k x = c.T (3 * x + 1) := by
    unfold Cl.pv
    rw [if_neg (by omega)]
    rfl
  have e2 : c.nx k x = c.T (3 * x + 2) := by
    unfold Cl.nx
    rw [if_neg (by omega)]
    rfl
  rw [e1] at h3
  rw [e2] at h4
  obtain ⟨n1, n2, n3⟩ := List.nodup_append.1 hn
  refine ⟨?_, ?_, ?_, ?_⟩
  · rw [e]
    rcases List.mem_cons.1 h3 with e | e
    · rw [e]; simp
    · exact List.mem_cons_of_mem _ (List.mem_append_left _ e)
  · rw [e]
    rcases List.mem_append.1 h4 with e | e
    · exact List.mem_append_left _ (List.mem_append_right _ (List.mem_cons_of_mem _ e))
    · exact List.mem_append_right _ e
  · intro e3
    rw [e3] at h3
    rcases List.mem_cons.1 h3 with e | e
    · omega
    · exact n3 _ e x (by simp) rfl
  · intro e3
    rw [e3] at h4
    rcases List.mem_append.1 h4 with e | e
    · exact (List.nodup_cons.1 n2).1 e
    · have : ((x : Nat) : Int) = -1 := List.mem_singleton.1 e
      omega

end
/-- The first queue of m that has x. -/
def whr (M : Nat → List Int) (x : Int) : Nat → Option Nat
  | 0 => none
  | m + 1 => match whr M x m with
    | some k => some k
    | none => if x ∈ M m then some m else none
theorem whr_cases (M : Nat → List Int) (x : Int) (m : Nat) : (whr M x m = none ∧ ∀ k, k < m → x ∉ M k) ∨ ∃ k, k < m ∧ x ∈ M k ∧ (∀ j, j < k → x ∉ M j) ∧ whr M x m = some k := by
  induction m with
  | zero => exact Or.inl ⟨rfl, fun k hk => by omega⟩
  | succ m ih =>
    rcases ih with ⟨e, h⟩ | ⟨k, hk, h1, h2, e⟩
    · by_cases hx : x ∈ M m
      · exact Or.inr ⟨m, by omega, hx, h, by unfold whr; rw [e]; exact if_pos hx⟩
      · refine Or.inl ⟨by unfold whr; rw [e]; exact if_neg hx, fun k hk => ?_⟩
        by_cases e2 : k = m
        · subst e2; exact hx
        · exact h k (by omega)
    · exact Or.inr ⟨k, by omega, h1, h2, by unfold whr; rw [e]⟩
def inB (s : St) (x : Int) : Bool := (whr s.M x s.m).isSome
def inV (s : St) (x : Int) : Int := match whr s.M x s.m with
  | some k => k
  | none => 0
def dropS (s : St) (x : Int) : St := match whr s.M x s.m with
  | some k => s.put k (without (s.M k) x)
  | none => s
theorem in_cases (s : St) (x : Int) : (inB s x = false ∧ inV s x = 0 ∧ dropS s x = s ∧ ∀ k, k < s.m → x ∉ s.M k) ∨ ∃ k, k < s.m ∧ x ∈ s.M k ∧ (∀ j, j < k → x ∉ s.M j) ∧ inB s x = true ∧ inV s x = (k : Int) ∧ dropS s x = s.put k (without (s.M k) x) := by
  unfold inB inV dropS
  rcases whr_cases s.M x s.m with ⟨e, h⟩ | ⟨k, hk, h1, h2, e⟩
  · rw [e]; exact Or.inl ⟨rfl, rfl, rfl, h⟩
  · rw [e]; exact Or.inr ⟨k, hk, h1, h2, rfl, rfl, rfl⟩
def isQ (s : St) (k : Int) : Bool := decide (0 ≤ k ∧ k < (s.m : Int))
def isT (s : St) (x : Int) : Bool := decide (0 ≤ x ∧ x < (s.n : Int))
def pushB (s : St) (k x : Int) : Bool := isQ s k && isT s x && !inB s x
def pushS (s : St) (k x : Int) : St := if pushB s k x = true then s.put k.toNat (s.M k.toNat ++ [x]) else s
/-- Block g is n integers, f of each number. -/
def RowF (e : TypeId) (w : World) (g n : Nat) (f : Nat → Int) : Prop := w.heap[g]? = some (.cells ((List.range n).map fun i => Value.int .i64 (f i)).toArray e (0, 0))
section
variable {e : TypeId} {w w' : World} {g n : Nat} {f : Nat → Int} {S : Nat → Prop}
theorem RowF.cell (h : RowF e w g n f) {i : Nat} (hi : i < n) : w.cell? ⟨g, i, none⟩ = some (.int .i64 (f i)) := by
  unfold RowF at h
  simp [World.cell?, h, hi]

end
section
variable {e : TypeId} {w w' : World} {g n : Nat} {f : Nat → Int} {S : Nat → Prop}
theorem RowF.frozen (h : RowF e w g n f) (i : Nat) : w.frozen? ⟨g, i, none⟩ = false := by
  unfold RowF at h
  simp [World.frozen?, h]

end
section
variable {e : TypeId} {w w' : World} {g n : Nat} {f : Nat → Int} {S : Nat → Prop}
theorem RowF.set (h : RowF e w g n f) (i : Nat) (x : Int) : RowF e (w.setCell ⟨g, i, none⟩ (.int .i64 x)) g n (upd f i x) := by
  unfold RowF at h ⊢
  rw [heap_setCell_at h]
  congr 2
  rw [List.setIfInBounds_toArray]
  congr 1
  apply List.ext_getElem?
  intro j
  rw [List.getElem?_set]
  by_cases e : i = j
  · subst e
    by_cases hj : i < n
    · simp [hj, upd]
    · simp [hj]
  · rw [if_neg e]
    by_cases hj : j < n
    · simp [hj, upd]
      intro h; exact absurd h.symm e
    · simp [hj]

end
section
variable {e : TypeId} {w w' : World} {g n : Nat} {f : Nat → Int} {S : Nat → Prop}
theorem RowF.turn (h : RowF e w g n f) (t : Turn S w w') (hg : ¬ S g) : RowF e w' g n f := t.heap hg h

end
section
variable {e : TypeId} {w w' : World} {g n : Nat} {f : Nat → Int} {S : Nat → Prop}
theorem RowF.lt (h : RowF e w g n f) : g < w.heap.size := (Array.getElem?_eq_some_iff.1 h).1

end
structure Cells (w : World) (base p tb eb n m : Nat) (c : Cl) : Prop where
  box : w.heap[p]? = some (.cells #[.slice (some ⟨tb, 0, none⟩) n n, .slice (some ⟨eb, 0, none⟩) m m] 130 (0, 0))
  ties : RowF 132 w tb (3 * n) c.T
  ends : RowF 135 w eb (2 * m) c.E
  ne : p ≠ tb ∧ p ≠ eb ∧ tb ≠ eb
  b : base ≤ p ∧ base ≤ tb ∧ base ≤ eb
def QB (p tb eb i : Nat) : Prop := i = p ∨ i = tb ∨ i = eb
section
variable {w w' : World} {base p tb eb n m : Nat} {c : Cl} {S : Nat → Prop}
theorem Cells.c0 (h : Cells w base p tb eb n m c) : w.cell? ⟨p, 0, none⟩ = some (.slice (some ⟨tb, 0, none⟩) n n) := by simp [World.cell?, h.box]

end
section
variable {w w' : World} {base p tb eb n m : Nat} {c : Cl} {S : Nat → Prop}
theorem Cells.c1 (h : Cells w base p tb eb n m c) : w.cell? ⟨p, 1, none⟩ = some (.slice (some ⟨eb, 0, none⟩) m m) := by simp [World.cell?, h.box]

end
section
variable {w w' : World} {base p tb eb n m : Nat} {c : Cl} {S : Nat → Prop}
theorem Cells.t0 (h : Cells w base p tb eb n m c) {x : Nat} (hx : x < n) : w.cell? ⟨tb, x * 3, none⟩ = some (.int .i64 (c.T (3 * x))) := by
  rw [Nat.mul_comm]; exact h.ties.cell (by omega)

end
section
variable {w w' : World} {base p tb eb n m : Nat} {c : Cl} {S : Nat → Prop}
theorem Cells.t1 (h : Cells w base p tb eb n m c) {x : Nat} (hx : x < n) : w.cell? ⟨tb, x * 3 + 1, none⟩ = some (.int .i64 (c.T (3 * x + 1))) := by
  rw [Nat.mul_comm]; exact h.ties.cell (by omega)

end
section
variable {w w' : World} {base p tb eb n m : Nat} {c : Cl} {S : Nat → Prop}
theorem Cells.t2 (h : Cells w base p tb eb n m c) {x : Nat} (hx : x < n) : w.cell? ⟨tb, x * 3 + 2, none⟩ = some (.int .i64 (c.T (3 * x + 2))) := by
  rw [Nat.mul_comm]; exact h.ties.cell (by omega)

end
section
variable {w w' : World} {base p tb eb n m : Nat} {c : Cl} {S : Nat → Prop}
theorem Cells.e0 (h : Cells w base p tb eb n m c) {k : Nat} (hk : k < m) : w.cell? ⟨eb, k * 2, none⟩ = some (.int .i64 (c.E (2 * k))) := by
  rw [Nat.mul_comm]; exact h.ends.cell (by omega)

end
section
variable {w w' : World} {base p tb eb n m : Nat} {c : Cl} {S : Nat → Prop}
theorem Cells.e1 (h : Cells w base p tb eb n m c) {k : Nat} (hk : k < m) : w.cell? ⟨eb, k * 2 + 1, none⟩ = some (.int .i64 (c.E (2 * k + 1))) := by
  rw [Nat.mul_comm]; exact h.ends.cell (by omega)

end
section
variable {w w' : World} {base p tb eb n m : Nat} {c : Cl} {S : Nat → Prop}
theorem Cells.turn (h : Cells w base p tb eb n m c) (t : Turn S w w') (hs : ∀ i, QB p tb eb i → ¬ S i) : Cells w' base p tb eb n m c :=
  ⟨t.heap (hs p (Or.inl rfl)) h.box, h.ties.turn t (hs tb (Or.inr (Or.inl rfl))), h.ends.turn t (hs eb (Or.inr (Or.inr rfl))), h.ne, h.b⟩

end
section
variable {w w' : World} {base p tb eb n m : Nat} {c : Cl} {S : Nat → Prop}
theorem Cells.new (h : Cells w base p tb eb n m c) (t : Turn (fun _ => False) w w') : Cells w' base p tb eb n m c := h.turn t (fun _ _ => id)

end
section
variable {w w' : World} {base p tb eb n m : Nat} {c : Cl} {S : Nat → Prop}
theorem Cells.less {base' : Nat} (h : Cells w base p tb eb n m c) (hb : base' ≤ base) : Cells w base' p tb eb n m c := ⟨h.box, h.ties, h.ends, h.ne, by have := h.b; omega⟩

end
section
variable {w w' : World} {base p tb eb n m : Nat} {c : Cl} {S : Nat → Prop}
theorem Cells.lt (h : Cells w base p tb eb n m c) : p < w.heap.size ∧ tb < w.heap.size ∧ eb < w.heap.size := ⟨(Array.getElem?_eq_some_iff.1 h.box).1, h.ties.lt, h.ends.lt⟩

end
section
variable {w w' : World} {base p tb eb n m : Nat} {c : Cl} {S : Nat → Prop}
theorem Cells.blocks (h : Cells w base p tb eb n m c) {i : Nat} (hi : QB p tb eb i) : base ≤ i ∧ i < w.heap.size := by
  have := h.b
  have := h.lt
  rcases hi with e | e | e <;> omega

end
section
variable {w w' : World} {base p tb eb n m : Nat} {c : Cl} {S : Nat → Prop}
theorem Cells.putT (h : Cells w base p tb eb n m c) (i : Nat) (x : Int) : Cells (w.setCell ⟨tb, i, none⟩ (.int .i64 x)) base p tb eb n m ⟨upd c.T i x, c.E⟩ :=
  ⟨(Below.heap_setCell _ _ _ _ h.ne.1).trans h.box, h.ties.set i x, (Below.heap_setCell _ _ _ _ (Ne.symm h.ne.2.2)).trans h.ends, h.ne, h.b⟩

end
section
variable {w w' : World} {base p tb eb n m : Nat} {c : Cl} {S : Nat → Prop}
theorem Cells.putE (h : Cells w base p tb eb n m c) (i : Nat) (x : Int) : Cells (w.setCell ⟨eb, i, none⟩ (.int .i64 x)) base p tb eb n m ⟨c.T, upd c.E i x⟩ :=
  ⟨(Below.heap_setCell _ _ _ _ h.ne.2.1).trans h.box, (Below.heap_setCell _ _ _ _ h.ne.2.2).trans h.ties, h.ends.set i x, h.ne, h.b⟩

end
section
variable {w w' : World} {base p tb eb n m : Nat} {c : Cl} {S : Nat → Prop}
theorem Cells.putT_turn (h : Cells w base p tb eb n m c) (i : Nat) (v : Value) : Turn (QB p tb eb) w (w.setCell ⟨tb, i, none⟩ v) := (Turn.refl _ _).setCell (Or.inl (Or.inr (Or.inl rfl))) v

end
section
variable {w w' : World} {base p tb eb n m : Nat} {c : Cl} {S : Nat → Prop}
theorem Cells.putE_turn (h : Cells w base p tb eb n m c) (i : Nat) (v : Value) : Turn (QB p tb eb) w (w.setCell ⟨eb, i, none⟩ v) := (Turn.refl _ _).setCell (Or.inl (Or.inr (Or.inr rfl))) v

end
section
variable {w w' : World} {base p tb eb n m : Nat} {c : Cl} {S : Nat → Prop}
theorem Cells.tie (h : Cells w base p tb eb n m c) (x : Nat) (q a b : Int) : Cells (((w.setCell ⟨tb, x * 3, none⟩ (.int .i64 q)).setCell ⟨tb, x * 3 + 1, none⟩ (.int .i64 a)).setCell ⟨tb, x * 3 + 2, none⟩ (.int .i64 b)) base p tb eb n m (c.tie x q a b) := by
  unfold Cl.tie
  rw [Nat.mul_comm]
  exact ((h.putT (3 * x) q).putT (3 * x + 1) a).putT (3 * x + 2) b

end
section
variable {w w' : World} {base p tb eb n m : Nat} {c : Cl} {S : Nat → Prop}
theorem Cells.tie_turn (h : Cells w base p tb eb n m c) (x : Nat) (q a b : Int) : Turn (QB p tb eb) w (((w.setCell ⟨tb, x * 3, none⟩ (.int .i64 q)).setCell ⟨tb, x * 3 + 1, none⟩ (.int .i64 a)).setCell ⟨tb, x * 3 + 2, none⟩ (.int .i64 b)) :=
  (((Turn.refl _ _).setCell (p := ⟨tb, x * 3, none⟩) (Or.inl (Or.inr (Or.inl rfl))) _).setCell (p := ⟨tb, x * 3 + 1, none⟩) (Or.inl (Or.inr (Or.inl rfl))) _).setCell (p := ⟨tb, x * 3 + 2, none⟩) (Or.inl (Or.inr (Or.inl rfl))) _

end
theorem queue_any {base p tb eb n m : Nat} {c : Cl} {k : Int} {b : Bool} (w : World) (h : Cells w base p tb eb n m c) (hb : decide (0 ≤ k ∧ k < (m : Int)) = b) :
    Calls Try.prog 79 #[.pointer (some ⟨p, 0, none⟩), .int .i64 k] w fun e w' => e = .returned (.bool b) ∧ w = w' := by
  have c1 := h.c1
  clear h
  have HB := Lib.hid hb
  clear hb
  by_cases h0 : 0 ≤ k
  · have HD := Lib.hid (show decide (k < (m : Int)) = b by rw [← HB.out]; simp [h0])
    go_enter Try.func79, Try.ntmps79
    go_wp2
    go_ret
    exact ⟨ret_bool HD.out, rfl⟩
  · have HD := Lib.hid (show false = b by rw [← HB.out]; simp [h0])
    go_enter Try.func79, Try.ntmps79
    go_wp2
    go_ret
    exact ⟨ret_bool HD.out, rfl⟩
theorem thing_any {base p tb eb n m : Nat} {c : Cl} {x : Int} {b : Bool} (w : World) (h : Cells w base p tb eb n m c) (hb : decide (0 ≤ x ∧ x < (n : Int)) = b) :
    Calls Try.prog 84 #[.pointer (some ⟨p, 0, none⟩), .int .i64 x] w fun e w' => e = .returned (.bool b) ∧ w = w' := by
  have c0 := h.c0
  clear h
  have HB := Lib.hid hb
  clear hb
  by_cases h0 : 0 ≤ x
  · have HD := Lib.hid (show decide (x < (n : Int)) = b by rw [← HB.out]; simp [h0])
    go_enter Try.func84, Try.ntmps84
    go_wp2
    go_ret
    exact ⟨ret_bool HD.out, rfl⟩
  · have HD := Lib.hid (show false = b by rw [← HB.out]; simp [h0])
    go_enter Try.func84, Try.ntmps84
    go_wp2
    go_ret
    exact ⟨ret_bool HD.out, rfl⟩

theorem loose_any (w : World) : Calls Try.prog 68 #[] w fun e w' => e = .returned (.agg #[.int .i64 (-1), .int .i64 (-1), .int .i64 (-1)]) ∧ Turn (fun _ => False) w w' := by
  go_enter Try.func68, Try.ntmps68
  go_wp2
  refine bodyPost_ret (v := .agg #[.int .i64 (-1), .int .i64 (-1), .int .i64 (-1)]) (by simp [results, Try.results68, go_sem]) rfl ⟨rfl, (Turn.refl _ _).alloc _⟩

def SetPost (base p tb eb n m : Nat) (c' : Cl) (w : World) (e : Ending) (w' : World) : Prop := e = .returned (.tuple #[]) ∧ Cells w' base p tb eb n m c' ∧ Turn (QB p tb eb) w w'
theorem setb_any {base p tb eb n m k : Nat} {c : Cl} {a b : Int} (w : World) (h : Cells w base p tb eb n m c) (hk : k < m) (ha : a = -1 ∨ ∃ x : Nat, a = x ∧ x < n) :
    Calls Try.prog 85 #[.pointer (some ⟨p, 0, none⟩), .int .i64 k, .int .i64 a, .int .i64 b] w (SetPost base p tb eb n m (c.beh k a b) w) := by
  have H := Lib.hid h
  rcases ha with rfl | ⟨x, rfl, hx⟩
  · have c1 := h.c1
    have f := h.ends.frozen (k * 2)
    have e0 := h.e0 hk
    clear h
    go_enter Try.func85, Try.ntmps85
    go_wp2
    go_end0
    refine ⟨rfl, ?_, H.out.putE_turn (k * 2) _⟩
    unfold Cl.beh
    rw [if_pos rfl, Nat.mul_comm]
    exact H.out.putE (2 * k) b
  · have c0 := h.c0
    have f := h.ties.frozen (x * 3 + 2)
    have e0 := h.t2 hx
    have hne : ((x : Int) == -1) = false := by rw [beq_eq_false_iff_ne]; omega
    clear h
    go_enter Try.func85, Try.ntmps85
    go_wp2
    go_end0
    refine ⟨rfl, ?_, H.out.putT_turn (x * 3 + 2) _⟩
    unfold Cl.beh
    rw [if_neg (by omega), Nat.mul_comm]
    exact H.out.putT (3 * x + 2) b
/-- The queues are those of s. -/
structure IsQ (w : World) (base p tb eb : Nat) (s : St) : Prop where
  ex : ∃ c, Cells w base p tb eb s.n s.m c ∧ Good s c
section
variable {w w' : World} {base p tb eb : Nat} {s : St} {S : Nat → Prop}
theorem IsQ.turn (h : IsQ w base p tb eb s) (t : Turn S w w') (hs : ∀ i, QB p tb eb i → ¬ S i) : IsQ w' base p tb eb s := by
  obtain ⟨c, h1, h2⟩ := h.ex
  exact ⟨c, h1.turn t hs, h2⟩

end
section
variable {w w' : World} {base p tb eb : Nat} {s : St} {S : Nat → Prop}
theorem IsQ.new (h : IsQ w base p tb eb s) (t : Turn (fun _ => False) w w') : IsQ w' base p tb eb s := h.turn t (fun _ _ => id)

end
section
variable {w w' : World} {base p tb eb : Nat} {s : St} {S : Nat → Prop}
theorem IsQ.less {base' : Nat} (h : IsQ w base p tb eb s) (hb : base' ≤ base) : IsQ w base' p tb eb s := by
  obtain ⟨c, h1, h2⟩ := h.ex
  exact ⟨c, h1.less hb, h2⟩

end
section
variable {w w' : World} {base p tb eb : Nat} {s : St} {S : Nat → Prop}
theorem IsQ.blocks (h : IsQ w base p tb eb s) {i : Nat} (hi : QB p tb eb i) : base ≤ i ∧ i < w.heap.size := by
  obtain ⟨c, h1, h2⟩ := h.ex
  exact h1.blocks hi

end
section
variable {w w' : World} {base p tb eb : Nat} {s : St} {S : Nat → Prop}
theorem IsQ.fine (h : IsQ w base p tb eb s) : Fine s := by
  obtain ⟨c, h1, h2⟩ := h.ex
  exact h2.fine

end
/-- What each method gives back: the same blocks, the queues those of s'. -/
def Kept (base p tb eb : Nat) (s' : St) (w w' : World) : Prop := IsQ w' base p tb eb s' ∧ Turn (QB p tb eb) w w'
theorem Kept.refl {w : World} {base p tb eb : Nat} {s : St} (h : IsQ w base p tb eb s) : Kept base p tb eb s w w := ⟨h, Turn.refl _ _⟩
theorem Good.where_ {s : St} {c : Cl} (h : Good s c) (x : Nat) (hx : x < s.n) : (c.T (3 * x) = -1 ∧ inB s x = false ∧ inV s x = 0) ∨ ∃ k : Nat, k < s.m ∧ (x : Int) ∈ s.M k ∧ c.T (3 * x) = k ∧ inB s x = true ∧ inV s x = k := by
  rcases in_cases s x with ⟨e1, e2, e3, e4⟩ | ⟨k, hk, h1, h2, e1, e2, e3⟩
  · rcases h.out x hx with h1 | ⟨k, hk, h1, h2⟩
    · exact Or.inl ⟨h1, e1, e2⟩
    · exact absurd h2 (e4 k hk)
  · refine Or.inr ⟨k, hk, h1, ?_, e1, e2⟩
    have := (h.mem k hk _ h1).2.2
    rwa [Int.toNat_natCast] at this
theorem Good.row_thing {s : St} {c : Cl} (h : Good s c) {k : Nat} (hk : k < s.m) {a : Int} (ha : a ∈ (-1 : Int) :: s.M k) : a = -1 ∨ ∃ x : Nat, a = x ∧ x < s.n := by
  rcases List.mem_cons.1 ha with e | e
  · exact Or.inl e
  · have := h.mem k hk a e
    exact Or.inr ⟨a.toNat, by omega, by omega⟩
theorem push_false {s : St} {k x : Int} (h : isQ s k = false ∨ isT s x = false ∨ inB s x = true) : pushB s k x = false ∧ pushS s k x = s := by
  have e : pushB s k x = false := by
    unfold pushB
    rcases h with h | h | h <;> rw [h] <;> simp
  exact ⟨e, by unfold pushS; rw [e]; rfl⟩
theorem push_any {base p tb eb : Nat} {s : St} {k x : Int} {b : Bool} (w : World) (h : IsQ w base p tb eb s) (hb : pushB s k x = b) :
    Calls Try.prog 71 #[.pointer (some ⟨p, 0, none⟩), .int .i64 k, .int .i64 x] w fun e w' => e = .returned (.bool b) ∧ Kept base p tb eb (pushS s k x) w w' := by
  obtain ⟨c, hc, hg⟩ := h.ex
  have H := Lib.hid hc
  have HI := Lib.hid h
  by_cases hk : 0 ≤ k ∧ k < (s.m : Int)
  · have hq : decide (0 ≤ k ∧ k < (s.m : Int)) = true := decide_eq_true hk
    have HQ := Lib.hid hq
    by_cases hx : 0 ≤ x ∧ x < (s.n : Int)
    · have ht : decide (0 ≤ x ∧ x < (s.n : Int)) = true := decide_eq_true hx
      have HT := Lib.hid ht
      obtain ⟨i, rfl⟩ : ∃ i : Nat, k = i := ⟨k.toNat, by omega⟩
      obtain ⟨j, rfl⟩ : ∃ j : Nat, x = j := ⟨x.toNat, by omega⟩
      have hj : j < s.n := by omega
      have hi : i < s.m := by omega
      have c0 := hc.c0
      have t0 := hc.t0 hj
      rcases hg.where_ j hj with ⟨h1, h2, h3⟩ | ⟨q, hq1, _, h1, h2, h3⟩
      · have eb1 : pushB s i j = true := by unfold pushB isQ isT; rw [hq, ht, h2]; rfl
        have es : pushS s i j = s.put i (s.M i ++ [(j : Int)]) := by unfold pushS; rw [if_pos eb1]; rfl
        rw [eb1] at hb
        subst hb
        have c1 := hc.c1
        have e1 := hc.e1 hi
        have t1 := hc.t1 hj
        have t2 := hc.t2 hj
        have f0 := hc.ties.frozen (j * 3)
        have f1 := hc.ties.frozen (j * 3 + 1)
        have f2 := hc.ties.frozen (j * 3 + 2)
        have HG := Lib.hid (hg.push hi hj h1)
        have HL := Lib.hid (hg.row_thing hi (hg.last hi))
        have HC := Lib.hid (show c.pushed i j = ((c.tie j i (c.E (2 * i + 1)) (-1)).beh i (c.E (2 * i + 1)) j).ahe i (-1) j from rfl)
        rw [h1] at t0
        obtain ⟨l, hl⟩ : ∃ l, c.E (2 * i + 1) = l := ⟨_, rfl⟩
        rw [hl] at HL HC e1
        have HE := Lib.hid es
        clear h hc hg hq ht hk hx h1 h2 h3 eb1 es hl
        go_enter Try.func71, Try.ntmps71
        go_wp2_with fail
        refine (queue_any w H.out HQ.out).mono ?_
        rintro e w1 ⟨rfl, rfl⟩
        go_wp2_with fail
        refine (thing_any w H.out HT.out).mono ?_
        rintro e w1 ⟨rfl, rfl⟩
        go_upto_region 5 with fail
        have H4 := Lib.hid (H.out.tie j i l (-1))
        have T4 := Lib.hid (H.out.tie_turn j i l (-1))
        generalize ((w.setCell ⟨tb, j * 3, none⟩ (.int .i64 i)).setCell ⟨tb, j * 3 + 1, none⟩ (.int .i64 l)).setCell ⟨tb, j * 3 + 2, none⟩ (.int .i64 (-1)) = w4 at H4 T4 ⊢
        clear c0 t0 c1 e1 t1 t2 f0 f1 f2
        go_wp2_with fail
        refine (setb_any w4 H4.out hi HL.out).mono ?_
        rintro e w5 ⟨rfl, h5, t5⟩
        have H5 := Lib.hid h5
        have T5 := Lib.hid (T4.out.trans t5)
        have c1 := h5.c1
        have e1 := h5.e1 hi
        have f1 := h5.ends.frozen (i * 2 + 1)
        clear h5 t5
        generalize (Cl.beh _ i l j).E (2 * i + 1) = z at e1
        go_wp2_with fail
        go_ret
        rw [HE.out]
        refine ⟨rfl, ⟨_, ?_, HG.out⟩, T5.out.setCell (p := ⟨eb, i * 2 + 1, none⟩) (Or.inl (Or.inr (Or.inr rfl))) _⟩
        rw [HC.out]
        unfold Cl.ahe
        rw [if_pos rfl, Nat.mul_comm i 2]
        exact H5.out.putE (2 * i + 1) j
      · obtain ⟨eb1, es⟩ := push_false (s := s) (k := i) (x := j) (Or.inr (Or.inr h2))
        rw [eb1] at hb
        subst hb
        rw [h1] at t0
        have HE := Lib.hid es
        have hne : ((q : Int) != -1) = true := by simp
        clear h hc hg hq ht hk hx h1 h2 h3 eb1 es
        go_enter Try.func71, Try.ntmps71
        go_wp2_with fail
        refine (queue_any w H.out HQ.out).mono ?_
        rintro e w1 ⟨rfl, rfl⟩
        go_wp2_with fail
        refine (thing_any w H.out HT.out).mono ?_
        rintro e w1 ⟨rfl, rfl⟩
        go_wp2_with fail
        go_ret
        rw [HE.out]
        exact ⟨rfl, Kept.refl HI.out⟩
    · have ht : decide (0 ≤ x ∧ x < (s.n : Int)) = false := decide_eq_false hx
      have HT := Lib.hid ht
      obtain ⟨eb1, es⟩ := push_false (s := s) (k := k) (x := x) (Or.inr (Or.inl ht))
      rw [eb1] at hb
      subst hb
      have HE := Lib.hid es
      clear h hc hg hq ht hk hx eb1 es
      go_enter Try.func71, Try.ntmps71
      go_wp2_with fail
      refine (queue_any w H.out HQ.out).mono ?_
      rintro e w1 ⟨rfl, rfl⟩
      go_wp2_with fail
      refine (thing_any w H.out HT.out).mono ?_
      rintro e w1 ⟨rfl, rfl⟩
      go_wp2_with fail
      go_ret
      rw [HE.out]
      exact ⟨rfl, Kept.refl HI.out⟩
  · have hq : decide (0 ≤ k ∧ k < (s.m : Int)) = false := decide_eq_false hk
    have HQ := Lib.hid hq
    obtain ⟨eb1, es⟩ := push_false (s := s) (k := k) (x := x) (Or.inl hq)
    rw [eb1] at hb
    subst hb
    have HE := Lib.hid es
    clear h hc hg hq hk eb1 es
    go_enter Try.func71, Try.ntmps71
    go_wp2_with fail
    refine (queue_any w H.out HQ.out).mono ?_
    rintro e w1 ⟨rfl, rfl⟩
    go_wp2_with fail
    go_ret
    rw [HE.out]
    exact ⟨rfl, Kept.refl HI.out⟩

theorem info_int : (Try.prog.info? 3).map (fun i => (i.zero, i.size, i.bytes)) = some (some (.int .i64 0), 1, 8) := by kernel_rfl
def lenOf : Value → Nat
  | .slice _ n _ => n
  | _ => 0
theorem seg_at {nx pv : Int → Int} {a b : Int} {l : List Int} (h : Seg nx pv a l b) : ∀ i, i ≤ l.length → nx ((a :: l).getD i 0) = (l ++ [b]).getD i 0 := by
  induction l generalizing a with
  | nil =>
    intro i hi
    have : i = 0 := by simpa using hi
    subst this
    exact h.1
  | cons x l ih =>
    intro i hi
    cases i with
    | zero => exact h.1
    | succ i => exact ih h.2.2 i (by simpa using hi)
/-- The i-th of a row; behind its last one none. -/
def nth (L : List Int) (i : Nat) : Int := (L ++ [(-1 : Int)]).getD i 0
theorem nth_lt {L : List Int} {i : Nat} (h : i < L.length) : nth L i = L.getD i 0 := by
  unfold nth
  simp [List.getD, List.getElem?_append_left h, h]
theorem nth_len (L : List Int) : nth L L.length = -1 := by
  unfold nth
  simp [List.getD]
theorem Good.start {s : St} {c : Cl} (h : Good s c) {k : Nat} (hk : k < s.m) : c.E (2 * k) = nth (s.M k) 0 := by
  have := seg_at (h.seg k hk) 0 (Nat.zero_le _)
  exact this
theorem Good.next {s : St} {c : Cl} (h : Good s c) {k : Nat} (hk : k < s.m) {i : Nat} (hi : i < (s.M k).length) : ∃ x : Nat, x < s.n ∧ (s.M k).getD i 0 = x ∧ c.T (3 * x + 2) = nth (s.M k) (i + 1) := by
  have hm := h.mem k hk _ (getD_mem (d := 0) hi)
  refine ⟨((s.M k).getD i 0).toNat, by omega, by omega, ?_⟩
  have h2 : c.nx k ((s.M k).getD i 0) = nth (s.M k) (i + 1) := seg_at (h.seg k hk) (i + 1) hi
  unfold Cl.nx at h2
  rw [if_neg (by omega)] at h2
  exact h2
theorem take_snoc {L : List Int} {i : Nat} (h : i < L.length) : L.take i ++ [L.getD i 0] = L.take (i + 1) := by
  rw [List.take_succ_eq_append_getElem h]
  simp [List.getD, h]

/-- What has been listed: its row is the call's own. -/
structure Lst (w wr : World) (L : List Int) (i : Nat) (bo : Option Addr) (co : Nat) : Prop where
  own : wr.ownsRow w.heap.size 3 1 (.slice bo i co) i ((L.take i).map (Value.int .i64))
  t : Turn (fun _ => False) w wr

def listL (s : St) (k : Int) : List Int := if isQ s k = true then s.M k.toNat else []
theorem list_no {base p tb eb : Nat} {s : St} {k : Int} (w : World) (h : IsQ w base p tb eb s) (hk : isQ s k = false) :
    Calls Try.prog 53 #[.pointer (some ⟨p, 0, none⟩), .int .i64 k] w fun e w' => e = .returned (.slice none 0 0) ∧ w = w' := by
  obtain ⟨c, hc, hg⟩ := h.ex
  have H := Lib.hid hc
  have HQ := Lib.hid hk
  clear h hc hg hk
  go_enter Try.func53, Try.ntmps53
  go_wp2_with fail
  refine (queue_any w H.out HQ.out).mono ?_
  rintro e w1 ⟨rfl, rfl⟩
  go_wp2_with fail
  go_ret
  exact ⟨rfl, rfl⟩
theorem list_yes {base p tb eb k : Nat} {s : St} (w : World) (h : IsQ w base p tb eb s) (hk : k < s.m) :
    Calls Try.prog 53 #[.pointer (some ⟨p, 0, none⟩), .int .i64 k] w (Reads .i64 (s.M k).length (s.M k) w) := by
  obtain ⟨c, hc, hg⟩ := h.ex
  have H := Lib.hid hc
  have HG := Lib.hid hg
  have HQ := Lib.hid (show decide (0 ≤ (k : Int) ∧ (k : Int) < (s.m : Int)) = true from decide_eq_true ⟨by omega, by omega⟩)
  have hl := hg.fine.len hk
  have c1 := hc.c1
  have e0 := hc.e0 hk
  rw [hg.start hk] at e0
  have HS := Lib.hid (show Lst w w (s.M k) 0 none 0 from ⟨⟨rfl, .inl ⟨rfl, rfl⟩⟩, Turn.refl _ _⟩)
  obtain ⟨L, hL⟩ : ∃ L, L = s.M k := ⟨_, rfl⟩
  rw [← hL] at hl e0 HS ⊢
  have HL := Lib.hid hL
  clear h hc hg hL
  go_enter Try.func53, Try.ntmps53
  go_wp2_with fail
  refine (queue_any w H.out HQ.out).mono ?_
  rintro e w1 ⟨rfl, rfl⟩
  go_wp2_with fail
  clear c1 e0
  go_loopw [5, 6] (fun s5 s6 wr => ∃ (i co : Nat) (bo : Option Addr) (x : Int), i ≤ L.length ∧ s5 = .slice bo i co ∧ s6 = .int .i64 x ∧ Hid (x = nth L i) ∧ Hid (Lst w wr L i bo co)) (fun s5 _ _ => L.length - lenOf s5)
  case atStart => exact ⟨0, 0, none, _, Nat.zero_le _, rfl, rfl, Lib.hid rfl, HS⟩
  case round =>
    clear HS
    obtain ⟨i, co, bo, x0, hi, rfl, rfl, HX, HA⟩ := hrel
    by_cases hlt : i < L.length
    · obtain ⟨x, hxn, hx, hnx⟩ := HG.out.next hk (i := i) (by rw [← HL.out]; exact hlt)
      rw [← HL.out] at hx hnx
      have hx0 : x0 = (x : Int) := by rw [HX.out, nth_lt hlt, hx]
      subst hx0
      have HT2 := Lib.hid (show L.take i ++ [(x : Int)] = L.take (i + 1) by rw [← hx]; exact take_snoc hlt)
      have HNX := Lib.hid hnx
      have hne : ((x : Int) != -1) = true := by simp
      obtain ⟨i1, hi1⟩ : ∃ i1, i + 1 = i1 := ⟨_, rfl⟩
      have HI1 := Lib.hid hi1
      have hle : i1 ≤ L.length := by omega
      have hq4 : L.length - i1 < L.length - i := by omega
      rw [hi1] at HT2 HNX
      have HLL := Lib.hid (show (L.take i).length = i by rw [List.length_take]; omega)
      clear hx hnx hi1
      go_wp2_with (at_builtin; refine wpList_append_one_n (w0 := wr) Try.underlying38 info_int (by decide) rfl (.tmp 29) (.tmp 31) rfl w.heap.size (.slice bo i co) (L.take i) i x rfl HA.out.own i1 HI1.out rfl (by omega) HA.out.t.size ?_; intro g4 c4 w4 hg4 h4 t4 b4; have T4 := Lib.hid (HA.out.t.and t4.out (fun j hj e => by have := (HA.out.own.lt j e).1; omega)); have c0 := (H.out.new T4.out).c0; have t2 := (H.out.new T4.out).t2 hxn)
      go_roundw
      case rel => exact ⟨i1, c4, _, _, hle, rfl, rfl, HNX, Lib.hid ⟨by rw [← HT2.out]; exact h4.out, T4.out⟩⟩
      case measure => simpa [lenOf] using hq4
    · have hi2 : i = L.length := by omega
      have hx0 : x0 = -1 := by rw [HX.out, hi2, nth_len]
      subst hx0
      have HI := Lib.hid hi2
      clear hi2
      go_wp2_with fail
      go_ret
      have ho := HA.out.own
      rw [HI.out, List.take_length] at ho
      rw [HI.out]
      obtain ⟨h1, h2, h3, h4⟩ := own_reads ho
      exact ⟨bo, co, rfl, rfl, h2, fun ad e => by
        subst e
        have := ho.lt ad.block (by rw [own_block]; rfl)
        exact this, h3, h4, HA.out.t⟩
theorem list_any {base p tb eb nl : Nat} {s : St} {k : Int} {L : List Int} (w : World) (h : IsQ w base p tb eb s) (hL : listL s k = L) (hn : L.length = nl) :
    Calls Try.prog 53 #[.pointer (some ⟨p, 0, none⟩), .int .i64 k] w (Reads .i64 nl L w) := by
  subst hL
  subst hn
  cases hq : isQ s k with
  | false =>
    have e : listL s k = [] := by unfold listL; rw [hq]; rfl
    rw [e]
    refine (list_no w h hq).mono ?_
    rintro e w' ⟨rfl, rfl⟩
    exact ⟨none, 0, rfl, rfl, fun j hj => (by cases hj), fun ad e => (by cases e), Nat.le_refl _, fun _ => rfl, Turn.refl _ _⟩
  | true =>
    have e : listL s k = s.M k.toNat := by unfold listL; rw [hq]; rfl
    rw [e]
    have hq' := of_decide_eq_true hq
    obtain ⟨j, rfl⟩ : ∃ j : Nat, k = j := ⟨k.toNat, by omega⟩
    exact list_yes w h (by omega)
theorem made_flat {z : Array Value} {u : Value} {size : Nat} (hz : z.toList = List.replicate size u) (hs : 0 < size) (n : Nat) : (madeCells z n).toList = List.replicate n u := by
  have hzs : z.size = size := by rw [← Array.length_toList, hz, List.length_replicate]
  have key : ∀ i, z[i % z.size]! = u := fun i => by
    have hi : i % z.size < z.size := Nat.mod_lt _ (by omega)
    rw [getElem!_pos z _ hi]
    have h2 : z.toList[i % z.size]'(by rw [Array.length_toList]; exact hi) = u := by
      simp only [hz, List.getElem_replicate]
    simpa using h2
  apply List.ext_getElem?
  intro i
  by_cases h : i < n
  · simp only [madeCells, Array.toList_map, List.getElem?_map]
    rw [List.getElem?_replicate, if_pos h]
    have : (Array.range n).toList[i]? = some i := by simp [h]
    rw [this]
    simp [key i]
  · simp [madeCells, h]
theorem flat_row {w : World} {g base n size : Nat} {e : TypeId} (h : w.ownsRow base e size (.slice (some ⟨g, 0, none⟩) n n) n (List.replicate (n * size) (.int .i64 0))) : RowF e w g (n * size) (fun _ => 0) := by
  rcases h.2 with ⟨h1, _⟩ | ⟨g', cap, cur, h1, _, hh, _, _, hs, ht⟩
  · cases h1
  · cases h1
    have e : cur = ((List.range (n * size)).map fun _ => Value.int .i64 0).toArray := by
      apply Array.toList_inj.1
      have hn : n * size = cur.toList.length := by simpa using hs.symm
      rw [hn, List.take_length] at ht
      rw [ht]
      show _ = (List.range (n * size)).map fun _ => Value.int .i64 0
      rw [List.map_const', List.length_range, hn]
    unfold RowF
    rw [hh, e]
theorem step_make_flat {P : Program} {z : Value} {t e : TypeId} {size by_ : Nat} (hz : z.cells.toList = List.replicate size (.int .i64 0)) (hs : 0 < size) (ht : P.underlying t = some (.slice e)) (hinfo : (P.info? e).map (fun i => (i.zero, i.size, i.bytes)) = some (some z, size, by_)) (hby : by_ ≤ 24)
    {w : World} {ops : Array Oper} {o : Oper} {a : Act} {K : Act → World → Prop} {Q : Exit → Act → World → Prop} {E : Prop} (hgd : o.guard = none) (l c : Operand) (hop : o.op = Op.makeSlice t l c) (n : Nat) (hl : a.eval l = .int .i64 n) (hc : a.eval c = .int .i64 n) (hn : n ≤ 1000000)
    (hK : ∀ w', Hid (RowF e w' w.heap.size (n * size) (fun _ => 0)) → Hid (Turn (fun _ => False) w w') → K (a.put o.dst (.slice (some ⟨w.heap.size, 0, none⟩) n n)) w') :
    if Region.wanted o (yielded ops a.tmps) = true then Oper.wp P o a w K Q else E := by
  have hw : Region.wanted o (yielded ops a.tmps) = true := by simp [Region.wanted, hgd]
  rw [if_pos hw]
  obtain ⟨i0, hi, hz0, hz1, hz2⟩ := info_parts hinfo
  have hb : i0.bytes * n ≤ 24 * 1000000 := Nat.mul_le_mul (by omega) hn
  obtain ⟨w', hrun, r1, r2⟩ := run_make_full (P := P) w w.heap.size t e i0 z size ht hi hz0 hz1 .i64 .i64 n (by omega) (by unfold maxLen; omega) (Nat.le_refl _)
  rw [made_flat hz hs] at r1
  unfold Oper.wp
  simp [execOp, hop, hl, hc, hrun, Result.andThen]
  exact hK w' (flat_row r1) ((Turn.refl _ _).grown r2 (by simp))

def zeroTie : Value := .agg #[.int .i64 0, .int .i64 0, .int .i64 0]
def zeroEnds : Value := .agg #[.int .i64 0, .int .i64 0]
theorem info_tie : (Try.prog.info? 132).map (fun i => (i.zero, i.size, i.bytes)) = some (some zeroTie, 3, 24) := by kernel_rfl
theorem info_ends : (Try.prog.info? 135).map (fun i => (i.zero, i.size, i.bytes)) = some (some zeroEnds, 2, 16) := by kernel_rfl

def newS (n m : Nat) : St := ⟨n, m, fun _ => []⟩
/-- The first i things, and the first k queues, are told to be loose, and empty. -/
def partC (i k : Nat) : Cl := ⟨fun j => if j < 3 * i then -1 else 0, fun j => if j < 2 * k then -1 else 0⟩
theorem part_tie (i k : Nat) : (partC i k).tie i (-1) (-1) (-1) = partC (i + 1) k := by
  unfold partC Cl.tie upd
  congr 1
  funext j
  show (if _ then _ else if _ then _ else if _ then _ else if _ then _ else _) = if _ then _ else _
  by_cases h1 : j = 3 * i + 2
  · rw [if_pos h1, if_pos (by omega)]
  · rw [if_neg h1]
    by_cases h2 : j = 3 * i + 1
    · rw [if_pos h2, if_pos (by omega)]
    · rw [if_neg h2]
      by_cases h3 : j = 3 * i
      · rw [if_pos h3, if_pos (by omega)]
      · rw [if_neg h3]
        by_cases h4 : j < 3 * i
        · rw [if_pos h4, if_pos (by omega)]
        · rw [if_neg h4, if_neg (by omega)]
theorem part_ends (i k : Nat) : (⟨(partC i k).T, upd (upd (partC i k).E (2 * k) (-1)) (2 * k + 1) (-1)⟩ : Cl) = partC i (k + 1) := by
  unfold partC upd
  congr 1
  funext j
  show (if _ then _ else if _ then _ else if _ then _ else _) = if _ then _ else _
  by_cases h2 : j = 2 * k + 1
  · rw [if_pos h2, if_pos (by omega)]
  · rw [if_neg h2]
    by_cases h3 : j = 2 * k
    · rw [if_pos h3, if_pos (by omega)]
    · rw [if_neg h3]
      by_cases h4 : j < 2 * k
      · rw [if_pos h4, if_pos (by omega)]
      · rw [if_neg h4, if_neg (by omega)]
theorem part_good {n m : Nat} (hn : n ≤ 64) (hm : m ≤ 64) : Good (newS n m) (partC n m) :=
  ⟨hn, hm, fun k _ x hx => (by cases hx), fun j hj => Or.inl (if_pos (show 3 * j < 3 * n by have : j < n := hj; omega)), fun k _ => List.nodup_nil, fun k hk => by
    have hk' : k < m := hk
    refine ⟨?_, ?_⟩
    · unfold Cl.nx
      rw [if_pos rfl]
      exact if_pos (by omega)
    · unfold Cl.pv
      rw [if_pos rfl]
      exact if_pos (by omega)⟩

/-- The queues within a call that began at w0. -/
structure Here (w0 wx : World) (p tb eb : Nat) (s : St) : Prop where
  q : IsQ wx w0.heap.size p tb eb s
  t : Turn (fun _ => False) w0 wx
section
variable {w0 wx w' : World} {p tb eb : Nat} {s s' : St}
theorem Here.kept (h : Here w0 wx p tb eb s) (k : Kept w0.heap.size p tb eb s' wx w') : Here w0 w' p tb eb s' :=
  ⟨k.1, h.t.and k.2 (fun i hi e => by have := (h.q.blocks e).1; omega)⟩

end
section
variable {w0 wx w' : World} {p tb eb : Nat} {s s' : St}
theorem Here.new (h : Here w0 wx p tb eb s) (t : Turn (fun _ => False) wx w') : Here w0 w' p tb eb s := ⟨h.q.new t, h.t.trans t⟩

end
structure Made (w wx : World) (p tb eb n m : Nat) (c : Cl) : Prop where
  c : Cells wx w.heap.size p tb eb n m c
  t : Turn (fun _ => False) w wx
theorem Made.and {w wx w' : World} {p tb eb n m : Nat} {c c' : Cl} (h : Made w wx p tb eb n m c) (h2 : Cells w' w.heap.size p tb eb n m c') (t : Turn (QB p tb eb) wx w') : Made w w' p tb eb n m c' :=
  ⟨h2, h.t.and t (fun i hi e => by have := (h.c.blocks e).1; omega)⟩
theorem Made.new {w wx w' : World} {p tb eb n m : Nat} {c : Cl} (h : Made w wx p tb eb n m c) (t : Turn (fun _ => False) wx w') : Made w w' p tb eb n m c := ⟨h.c.new t, h.t.trans t⟩

theorem made_two {w w1 w2 : World} {n m : Nat} (t1 : Turn (fun _ => False) w.drew w1) (r1 : RowF 132 w1 w.heap.size (n * 3) (fun _ => 0)) (t2 : Turn (fun _ => False) w1 w2) (r2 : RowF 135 w2 w1.heap.size (m * 2) (fun _ => 0)) :
    Made w (w2.alloc (.cells #[.slice (some ⟨w.heap.size, 0, none⟩) n n, .slice (some ⟨w1.heap.size, 0, none⟩) m m] 130)) w2.heap.size w.heap.size w1.heap.size n m (partC 0 0) := by
  have ta : Turn (fun _ => False) w2 (w2.alloc (.cells #[.slice (some ⟨w.heap.size, 0, none⟩) n n, .slice (some ⟨w1.heap.size, 0, none⟩) m m] 130)) := (Turn.refl _ _).alloc _
  have h1 : w.heap.size < w1.heap.size := r1.lt
  have h2 := r2.lt
  have h3 := t2.size
  rw [Nat.mul_comm] at r1 r2
  refine ⟨⟨heap_alloc_new _ _, (r1.turn t2 id).turn ta id, r2.turn ta id, by omega, by omega⟩, (((Turn.refl _ w).drewN 1).trans t1).trans (t2.trans ta)⟩
theorem made_two' {w w1 w2 : World} {n m : Nat} (t1 : Turn (fun _ => False) w.drew w1) (r1 : RowF 135 w1 w.heap.size (m * 2) (fun _ => 0)) (t2 : Turn (fun _ => False) w1 w2) (r2 : RowF 132 w2 w1.heap.size (n * 3) (fun _ => 0)) :
    Made w (w2.alloc (.cells #[.slice (some ⟨w1.heap.size, 0, none⟩) n n, .slice (some ⟨w.heap.size, 0, none⟩) m m] 130)) w2.heap.size w1.heap.size w.heap.size n m (partC 0 0) := by
  have ta : Turn (fun _ => False) w2 (w2.alloc (.cells #[.slice (some ⟨w1.heap.size, 0, none⟩) n n, .slice (some ⟨w.heap.size, 0, none⟩) m m] 130)) := (Turn.refl _ _).alloc _
  have h1 : w.heap.size < w1.heap.size := r1.lt
  have h2 := r2.lt
  have h3 := t2.size
  rw [Nat.mul_comm] at r1 r2
  refine ⟨⟨heap_alloc_new _ _, r2.turn ta id, (r1.turn t2 id).turn ta id, by omega, by omega⟩, (((Turn.refl _ w).drewN 1).trans t1).trans (t2.trans ta)⟩

def NewPost (n m : Nat) (w : World) (e : Ending) (w' : World) : Prop :=
  ∃ p tb eb, e = .returned (.tuple #[.pointer (some ⟨p, 0, none⟩), .int .i64 0]) ∧ Here w w' p tb eb (newS n m)
set_option maxRecDepth 100000 in
set_option maxHeartbeats 1000000 in
theorem new_good {n m : Nat} (w : World) (hn : n ≤ 64) (hm : m ≤ 64) :
    Calls Try.prog 38 #[.int .i64 n, .int .i64 m] w (NewPost n m w) := by
  go_enter Try.func38, Try.ntmps38
  go_upto_region 3 with fail
  go_cut [6] (fun s6 wx => ∃ p tb eb, s6 = .pointer (some ⟨p, 0, none⟩) ∧ Hid (Made w wx p tb eb n m (partC 0 0)))
  case first =>
    refine stand_start (by kernel_rfl) 99 (fun w' => True) 99 (fun w' => True) trivial trivial ?_
    refine stand_take (i := 0) (v := ?_) rfl (by kernel_rfl) (by kernel_rfl) (by kernel_rfl) (by rfl) (fun _ _ _ h => h) (by decide) (by decide) (by rfl) ?_ ?_
    rotate_left
    · (intro w; go_simp; try with_reducible rfl)
    dsimp only [List.set_cons_zero, List.set_cons_succ]
    refine stand_take (i := 2) (v := ?_) rfl (by kernel_rfl) (by kernel_rfl) (by kernel_rfl) (by rfl) (fun _ _ _ h => h) (by decide) (by decide) (by rfl) ?_ ?_
    rotate_left
    · (intro w; go_simp; try with_reducible rfl)
    dsimp only [List.set_cons_zero, List.set_cons_succ]
    refine stand_two (i := 1) (j := 3) (by kernel_rfl) rfl rfl (fun K hK => ?_) (fun K hK => ?_)
    · refine step_make_flat (z := zeroTie) rfl (by decide) Try.underlying127 info_tie (by decide) rfl (.tmp 23) (.tmp 23) rfl n rfl rfl (by omega) ?_
      intro w1 R1 T1
      refine hK.out _ _ (fun _ => trivial) (fun _ => trivial) ?_
      clear hK K
      try simp only [put_laid, List.set_cons_zero, List.set_cons_succ]
      refine stand_step (i := 3) (by kernel_rfl) rfl (fun K hK => ?_)
      refine step_make_flat (z := zeroEnds) rfl (by decide) Try.underlying128 info_ends (by decide) rfl (.tmp 25) (.tmp 25) rfl m rfl rfl (by omega) ?_
      intro w2 R2 T2
      refine hK.out _ _ (fun _ => trivial) (fun _ => trivial) ?_
      clear hK K
      try simp only [put_laid, List.set_cons_zero, List.set_cons_succ]
      refine stand_take (i := 4) (v := ?_) rfl (by kernel_rfl) (by kernel_rfl) (by kernel_rfl) (by rfl) (fun _ _ _ h => h) (by decide) (by decide) (by rfl) ?_ ?_
      rotate_left
      · (intro w; go_simp; try with_reducible rfl)
      dsimp only [List.set_cons_zero, List.set_cons_succ]
      refine stand_step (i := 5) (by kernel_rfl) rfl (fun K hK => ?_)
      go_simp
      refine hK.out _ _ (fun _ => trivial) (fun _ => trivial) ?_
      clear hK K
      try simp only [put_laid, List.set_cons_zero, List.set_cons_succ]
      refine stand_take (i := 6) (v := ?_) rfl (by kernel_rfl) (by kernel_rfl) (by kernel_rfl) (by rfl) (fun _ _ _ h => h) (by decide) (by decide) (by rfl) ?_ ?_
      rotate_left
      · (intro w; go_simp; try with_reducible rfl)
      dsimp only [List.set_cons_zero, List.set_cons_succ]
      refine stand_done (by kernel_rfl) ?_
      go_wp2_with fail
      go_meet
      exact ⟨_, _, _, rfl, Lib.hid (made_two T1.out R1.out T2.out R2.out)⟩
    · refine step_make_flat (z := zeroEnds) rfl (by decide) Try.underlying128 info_ends (by decide) rfl (.tmp 25) (.tmp 25) rfl m rfl rfl (by omega) ?_
      intro w1 R1 T1
      refine hK.out _ _ (fun _ => trivial) (fun _ => trivial) ?_
      clear hK K
      try simp only [put_laid, List.set_cons_zero, List.set_cons_succ]
      refine stand_step (i := 1) (by kernel_rfl) rfl (fun K hK => ?_)
      refine step_make_flat (z := zeroTie) rfl (by decide) Try.underlying127 info_tie (by decide) rfl (.tmp 23) (.tmp 23) rfl n rfl rfl (by omega) ?_
      intro w2 R2 T2
      refine hK.out _ _ (fun _ => trivial) (fun _ => trivial) ?_
      clear hK K
      try simp only [put_laid, List.set_cons_zero, List.set_cons_succ]
      refine stand_take (i := 4) (v := ?_) rfl (by kernel_rfl) (by kernel_rfl) (by kernel_rfl) (by rfl) (fun _ _ _ h => h) (by decide) (by decide) (by rfl) ?_ ?_
      rotate_left
      · (intro w; go_simp; try with_reducible rfl)
      dsimp only [List.set_cons_zero, List.set_cons_succ]
      refine stand_step (i := 5) (by kernel_rfl) rfl (fun K hK => ?_)
      go_simp
      refine hK.out _ _ (fun _ => trivial) (fun _ => trivial) ?_
      clear hK K
      try simp only [put_laid, List.set_cons_zero, List.set_cons_succ]
      refine stand_take (i := 6) (v := ?_) rfl (by kernel_rfl) (by kernel_rfl) (by kernel_rfl) (by rfl) (fun _ _ _ h => h) (by decide) (by decide) (by rfl) ?_ ?_
      rotate_left
      · (intro w; go_simp; try with_reducible rfl)
      dsimp only [List.set_cons_zero, List.set_cons_succ]
      refine stand_done (by kernel_rfl) ?_
      go_wp2_with fail
      go_meet
      exact ⟨_, _, _, rfl, Lib.hid (made_two' T1.out R1.out T2.out R2.out)⟩
  case rest =>
    obtain ⟨p, tb, eb, rfl, HM⟩ := hcut
    have c0 := HM.out.c.c0
    go_upto_region 5 with fail
    clear c0
    go_loopw [34] (fun s34 wr => ∃ i : Nat, i ≤ n ∧ s34 = .int .i64 i ∧ Hid (Made w wr p tb eb n m (partC i 0))) (fun s34 _ => n - (intOf s34).toNat)
    case atStart => exact ⟨0, Nat.zero_le _, rfl, HM⟩
    case round =>
      clear HM
      obtain ⟨i, hi, rfl, HM⟩ := hrel
      by_cases hlt : i < n
      · go_upto_region 7 with fail
        have c0 := HM.out.c.c0
        refine stand_start (by kernel_rfl) 99 (fun w' => w'.cell? ⟨p, 0, none⟩ = some (.slice (some ⟨tb, 0, none⟩) n n)) 99 (fun w' => True) c0 trivial ?_
        clear c0
        refine stand_take (i := 0) (v := ?_) rfl (by kernel_rfl) (by kernel_rfl) (by kernel_rfl) (by rfl) (fun _ _ _ h => h) (by decide) (by decide) (by rfl) ?_ ?_
        rotate_left
        · (intro w; go_simp; try with_reducible rfl)
        dsimp only [List.set_cons_zero, List.set_cons_succ]
        refine stand_take (i := 1) (v := ?_) rfl (by kernel_rfl) (by kernel_rfl) (by kernel_rfl) (by rfl) (fun _ _ _ h => h) (by decide) (by decide) (by rfl) ?_ ?_
        rotate_left
        · (intro w; go_simp; try with_reducible rfl)
        dsimp only [List.set_cons_zero, List.set_cons_succ]
        refine stand_take (i := 2) (v := ?_) rfl (by kernel_rfl) (by kernel_rfl) (by kernel_rfl) (by rfl) (fun _ _ _ h => h) (by decide) (by decide) (by rfl) ?_ ?_
        rotate_left
        · (intro w; go_simp; try with_reducible rfl)
        dsimp only [List.set_cons_zero, List.set_cons_succ]
        refine stand_load3 (i := 3) (v := ?_) rfl (by kernel_rfl) (by kernel_rfl) (by kernel_rfl) (by rfl) (fun _ _ _ h => h) (by decide) (by decide) (by kernel_rfl) (by rfl) ?_ ?_
        rotate_left
        · (intro w hA; (try dsimp only at hA); go_simp; try with_reducible rfl)
        dsimp only [List.set_cons_zero, List.set_cons_succ]
        refine stand_take (i := 4) (v := ?_) rfl (by kernel_rfl) (by kernel_rfl) (by kernel_rfl) (by rfl) (fun _ _ _ h => h) (by decide) (by decide) (by rfl) ?_ ?_
        rotate_left
        · (intro w; go_simp; try with_reducible rfl)
        dsimp only [List.set_cons_zero, List.set_cons_succ]
        refine stand_step (i := 5) (by kernel_rfl) rfl (fun K hK => ?_)
        go_simp
        refine (loose_any _).mono ?_
        rintro e w4 ⟨rfl, t4⟩
        have HM4 := Lib.hid (HM.out.new (((Turn.refl (fun _ => False) wr).drewN 1).trans t4))
        clear t4
        refine hK.out _ _ (fun _ => HM4.out.c.c0) (fun _ => trivial) ?_
        clear hK K
        try simp only [put_laid, List.set_cons_zero, List.set_cons_succ]
        refine stand_take (i := 6) (v := ?_) rfl (by kernel_rfl) (by kernel_rfl) (by kernel_rfl) (by rfl) (fun _ _ _ h => h) (by decide) (by decide) (by rfl) ?_ ?_
        rotate_left
        · (intro w; go_simp; try with_reducible rfl)
        dsimp only [List.set_cons_zero, List.set_cons_succ]
        have y0 := HM4.out.c.t0 hlt
        have y1 := HM4.out.c.t1 hlt
        have y2 := HM4.out.c.t2 hlt
        have f0 := HM4.out.c.ties.frozen (i * 3)
        have f1 := HM4.out.c.ties.frozen (i * 3 + 1)
        have f2 := HM4.out.c.ties.frozen (i * 3 + 2)
        refine stand_step (i := 7) (by kernel_rfl) rfl (fun K hK => ?_)
        go_simp
        have HM5 := Lib.hid (HM4.out.and (HM4.out.c.tie i (-1) (-1) (-1)) (HM4.out.c.tie_turn i (-1) (-1) (-1)))
        rw [part_tie] at HM5
        refine hK.out _ _ (fun _ => HM5.out.c.c0) (fun _ => trivial) ?_
        clear hK K
        try simp only [put_laid, List.set_cons_zero, List.set_cons_succ]
        refine stand_done (by kernel_rfl) ?_
        clear y0 y1 y2 f0 f1 f2
        go_wp2_with fail
        go_roundw
        case rel => exact ⟨i + 1, by omega, by go_num, HM5⟩
        case measure => simp [intOf]; omega
      · have hi2 : i = n := by omega
        rw [hi2] at HM
        clear hi2
        have c1 := HM.out.c.c1
        go_upto_region 10 with fail
        clear c1
        go_loopw [50] (fun s50 wr => ∃ k : Nat, k ≤ m ∧ s50 = .int .i64 k ∧ Hid (Made w wr p tb eb n m (partC n k))) (fun s50 _ => m - (intOf s50).toNat)
        case atStart => exact ⟨0, Nat.zero_le _, rfl, HM⟩
        case round =>
          clear HM
          obtain ⟨k, hk, rfl, HM⟩ := hrel
          by_cases hlt2 : k < m
          · have c1 := HM.out.c.c1
            have y0 := HM.out.c.e0 hlt2
            have y1 := HM.out.c.e1 hlt2
            have f0 := HM.out.c.ends.frozen (k * 2)
            have f1 := HM.out.c.ends.frozen (k * 2 + 1)
            go_wp2_with fail
            have HM5 := Lib.hid (HM.out.and ((HM.out.c.putE (k * 2) (-1)).putE (k * 2 + 1) (-1)) (((HM.out.c.putE_turn (k * 2) (.int .i64 (-1)))).trans ((HM.out.c.putE (k * 2) (-1)).putE_turn (k * 2 + 1) (.int .i64 (-1)))))
            rw [Nat.mul_comm k 2, part_ends, Nat.mul_comm 2 k] at HM5
            go_roundw
            case rel => exact ⟨k + 1, by omega, by go_num, HM5⟩
            case measure => simp [intOf]; omega
          · have hk2 : k = m := by omega
            rw [hk2] at HM
            clear hk2
            go_wp2_with fail
            go_ret2
            exact ⟨p, tb, eb, rfl, ⟨_, HM.out.c, part_good hn hm⟩, HM.out.t⟩
theorem new_any {n m : Nat} {a b : Int} (w : World) (ha : a = (n : Int)) (hb : b = (m : Int)) (hn : n ≤ 64) (hm : m ≤ 64) : Calls Try.prog 38 #[.int .i64 a, .int .i64 b] w (NewPost n m w) := by
  subst ha
  subst hb
  exact new_good w hn hm

def s1 : St := newS 9 2
def s2 : St := pushS s1 1 4
def s3 : St := pushS s2 1 2
def s4 : St := pushS s3 1 7
def s5 : St := dropS s4 2
theorem f1 : pushB s1 1 4 = true := by decide
theorem f2 : pushB s2 1 2 = true := by decide
end Go.Proofs.Ytenbafkgfdlfpaa.C6
