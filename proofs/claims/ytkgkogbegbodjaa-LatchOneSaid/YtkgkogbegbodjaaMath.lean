/- Locks as a list of owners: the mathematics. -/
import Derived.Test.YtkgkogbegbodjaaGAny
namespace Go.Proofs.Ytkgkogbegbodjaa
open Go.RowKit
set_option linter.unusedVariables false

/-- Is there that lock? -/
def isL (L : List Int) (l : Int) : Bool := decide (0 ≤ l ∧ l < (L.length : Int))
def at_ (L : List Int) (l : Int) : Int := L.getD l.toNat 0
def ownL (L : List Int) (l : Int) : Int := if isL L l = true then at_ L l else -1
def tryB (L : List Int) (l who : Int) : Bool := isL L l && decide (0 ≤ who) && decide (at_ L l = -1)
def tryL (L : List Int) (l who : Int) : List Int := if tryB L l who = true then L.set l.toNat who else L
def freeB (L : List Int) (l who : Int) : Bool := isL L l && decide (0 ≤ who) && decide (at_ L l = who)
def freeL (L : List Int) (l who : Int) : List Int := if freeB L l who = true then L.set l.toNat (-1) else L
def addV (L : List Int) : Int := if L.length < 4096 then (L.length : Int) else -1
def addL (L : List Int) : List Int := if L.length < 4096 then L ++ [-1] else L
/-- The first k locks: those that one has. -/
def heldK (L : List Int) (who : Int) (k : Nat) : List Int := ((List.range k).filter fun i => decide (0 ≤ who) && decide (L.getD i 0 = who)).map fun i : Nat => (i : Int)
def heldL (L : List Int) (who : Int) : List Int := heldK L who L.length

theorem heldK_zero (L : List Int) (who : Int) : heldK L who 0 = [] := rfl
theorem heldK_yes {L : List Int} {who : Int} {k : Nat} (hw : 0 ≤ who) (h : L.getD k 0 = who) : heldK L who k ++ [(k : Int)] = heldK L who (k + 1) := by
  unfold heldK
  rw [List.range_succ, List.filter_append, List.map_append, List.filter_cons_of_pos (by rw [h]; simp [hw])]
  rfl
theorem heldK_no {L : List Int} {who : Int} {k : Nat} (h : ¬ (0 ≤ who ∧ L.getD k 0 = who)) : heldK L who k = heldK L who (k + 1) := by
  unfold heldK
  rw [List.range_succ, List.filter_append, List.map_append, List.filter_cons_of_neg (by simpa using h)]
  simp
theorem heldK_below {L : List Int} {who : Int} (hw : who < 0) (k : Nat) : heldK L who k = [] := by
  induction k with
  | zero => rfl
  | succ k ih => rw [← heldK_no (by omega), ih]
theorem heldK_length (L : List Int) (who : Int) (k : Nat) : (heldK L who k).length ≤ k := by
  unfold heldK
  rw [List.length_map]
  exact Nat.le_trans (List.length_filter_le _ _) (by simp)
theorem heldL_length (L : List Int) (who : Int) : (heldL L who).length ≤ L.length := heldK_length L who _

theorem tryL_length (L : List Int) (l who : Int) : (tryL L l who).length = L.length := by
  unfold tryL
  split <;> simp
theorem freeL_length (L : List Int) (l who : Int) : (freeL L l who).length = L.length := by
  unfold freeL
  split <;> simp
theorem addL_length (L : List Int) (h : L.length ≤ 4096) : (addL L).length ≤ 4096 := by
  unfold addL
  split
  · simp; omega
  · exact h

theorem isL_set (L : List Int) (i : Nat) (x l : Int) : isL (L.set i x) l = isL L l := by
  unfold isL
  rw [List.length_set]
theorem isL_yes {L : List Int} {l : Int} (h : isL L l = true) : ∃ k : Nat, l = k ∧ k < L.length := by
  have := of_decide_eq_true h
  exact ⟨l.toNat, by omega, by omega⟩
theorem isL_at {L : List Int} {k : Nat} (h : k < L.length) : isL L k = true := decide_eq_true ⟨by omega, by omega⟩
theorem set_at {L : List Int} {k : Nat} {x : Int} (h : k < L.length) : (L.set k x).getD k 0 = x := by
  simp [List.getD, h]
theorem tryB_yes {L : List Int} {l who : Int} (h : tryB L l who = true) : ownL L l = -1 ∧ ownL (tryL L l who) l = who := by
  have h' := h
  unfold tryB at h'
  simp only [Bool.and_eq_true, decide_eq_true_eq] at h'
  obtain ⟨⟨h1, h2⟩, h3⟩ := h'
  obtain ⟨k, rfl, hk⟩ := isL_yes h1
  refine ⟨by unfold ownL; rw [if_pos h1]; exact h3, ?_⟩
  unfold ownL tryL
  rw [if_pos h, isL_set, if_pos h1]
  unfold at_
  rw [Int.toNat_natCast]
  exact set_at hk
theorem tryB_no {L : List Int} {l who : Int} (h : tryB L l who = false) : tryL L l who = L := by
  unfold tryL
  rw [h]
  rfl
theorem freeB_yes {L : List Int} {l who : Int} (h : freeB L l who = true) : ownL L l = who ∧ ownL (freeL L l who) l = -1 := by
  have h' := h
  unfold freeB at h'
  simp only [Bool.and_eq_true, decide_eq_true_eq] at h'
  obtain ⟨⟨h1, h2⟩, h3⟩ := h'
  obtain ⟨k, rfl, hk⟩ := isL_yes h1
  refine ⟨by unfold ownL; rw [if_pos h1]; exact h3, ?_⟩
  unfold ownL freeL
  rw [if_pos h, isL_set, if_pos h1]
  unfold at_
  rw [Int.toNat_natCast]
  exact set_at hk
theorem freeB_no {L : List Int} {l who : Int} (h : freeB L l who = false) : freeL L l who = L := by
  unfold freeL
  rw [h]
  rfl

/-- How many locks those below k have. -/
def cnt (L : List Int) (k : Nat) : Nat := (List.range L.length).countP fun i => decide (0 ≤ L.getD i 0 ∧ L.getD i 0 < (k : Int))
theorem cnt_le (L : List Int) (k : Nat) : cnt L k ≤ L.length := by
  unfold cnt
  exact Nat.le_trans List.countP_le_length (by simp)
theorem cnt_next (L : List Int) (k : Nat) : cnt L k + (heldL L k).length = cnt L (k + 1) := by
  unfold cnt heldL heldK
  rw [List.length_map]
  generalize List.range L.length = R
  induction R with
  | nil => rfl
  | cons i R ih =>
    rw [List.countP_cons, List.countP_cons, List.filter_cons]
    generalize L.getD i 0 = x
    by_cases hx : x = (k : Int)
    · subst hx
      have h1 : decide (0 ≤ (k : Int) ∧ (k : Int) < (k : Int)) = false := decide_eq_false (by omega)
      have h2 : decide (0 ≤ (k : Int) ∧ (k : Int) < ((k + 1 : Nat) : Int)) = true := decide_eq_true (by omega)
      have h3 : (decide (0 ≤ (k : Int)) && decide ((k : Int) = (k : Int))) = true := by simp
      rw [h1, h2, h3, if_pos rfl, if_pos rfl, List.length_cons, ← ih]
      simp
      omega
    · have h3 : (decide (0 ≤ (k : Int)) && decide (x = (k : Int))) = false := by simp [hx]
      rw [h3]
      by_cases hy : 0 ≤ x ∧ x < (k : Int)
      · have h1 : decide (0 ≤ x ∧ x < (k : Int)) = true := decide_eq_true hy
        have h2 : decide (0 ≤ x ∧ x < ((k + 1 : Nat) : Int)) = true := decide_eq_true (by omega)
        rw [h1, h2, if_pos rfl, ← ih]
        simp
        omega
      · have h1 : decide (0 ≤ x ∧ x < (k : Int)) = false := decide_eq_false hy
        have h2 : decide (0 ≤ x ∧ x < ((k + 1 : Nat) : Int)) = false := decide_eq_false (by omega)
        rw [h1, h2, ← ih]
        simp

end Go.Proofs.Ytkgkogbegbodjaa
