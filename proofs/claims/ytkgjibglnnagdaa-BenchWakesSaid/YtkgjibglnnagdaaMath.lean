/- A bench as a list of what each one does: the mathematics. -/
import Derived.Test.YtkgjibglnnagdaaGFlat
namespace Go.Proofs.Ytkgjibglnnagdaa
open Go.RowKit
set_option linter.unusedVariables false

/-- What one does: its status, and whether it has a token. -/
abbrev One := Int × Bool
def encO (x : One) : List Value := [.int .i64 x.1, .bool x.2]
theorem enc_o : Enc encO 2 := ⟨fun _ => rfl, fun x u hu => by
  simp [encO] at hu
  rcases hu with rfl | rfl <;> rfl⟩
def at_ (L : List One) (g : Int) : Option One := if 0 ≤ g then L[g.toNat]? else none
def stO : Option One → Int
  | some x => x.1
  | none => 2
def tkO : Option One → Bool
  | some x => x.2
  | none => false
def stV (L : List One) (g : Int) : Int := stO (at_ L g)
def tkB (L : List One) (g : Int) : Bool := tkO (at_ L g)
def hasB (L : List One) (g : Int) : Bool := decide (0 ≤ g ∧ g < (L.length : Int))
theorem at_nat (L : List One) (k : Nat) : at_ L k = L[k]? := by
  unfold at_
  rw [if_pos (by omega), Int.toNat_natCast]
theorem at_some {L : List One} {g : Int} {x : One} (h : at_ L g = some x) : ∃ k : Nat, g = k ∧ L[k]? = some x ∧ k < L.length := by
  unfold at_ at h
  by_cases h0 : 0 ≤ g
  · rw [if_pos h0] at h
    exact ⟨g.toNat, by omega, h, (List.getElem?_eq_some_iff.1 h).1⟩
  · rw [if_neg h0] at h
    cases h
theorem at_none {L : List One} {g : Int} (h : at_ L g = none) : hasB L g = false := by
  unfold hasB
  rw [decide_eq_false_iff_not]
  intro ⟨h0, h1⟩
  unfold at_ at h
  rw [if_pos h0, List.getElem?_eq_none_iff] at h
  omega
theorem has_some {L : List One} {k : Nat} (h : k < L.length) : hasB L k = true := decide_eq_true ⟨by omega, by omega⟩
theorem none_has {L : List One} {g : Int} (h : ¬ (0 ≤ g ∧ g < (L.length : Int))) : at_ L g = none := by
  unfold at_
  by_cases h0 : 0 ≤ g
  · rw [if_pos h0, List.getElem?_eq_none_iff]
    omega
  · rw [if_neg h0]

/-- Something done to one. -/
def doB (f : One → One × Bool) (L : List One) (g : Int) : Bool := match at_ L g with
  | some x => (f x).2
  | none => false
def doL (f : One → One × Bool) (L : List One) (g : Int) : List One := match at_ L g with
  | some x => L.set g.toNat (f x).1
  | none => L
theorem do_none {f : One → One × Bool} {L : List One} {g : Int} (h : at_ L g = none) : doB f L g = false ∧ doL f L g = L := by
  unfold doB doL
  rw [h]
  exact ⟨rfl, rfl⟩
theorem do_some {f : One → One × Bool} {L : List One} {k : Nat} {x y : One} {b : Bool} (h : L[k]? = some x) (hf : f x = (y, b)) : doB f L k = b ∧ doL f L k = L.set k y := by
  unfold doB doL
  rw [at_nat, h]
  dsimp only
  rw [hf, Int.toNat_natCast]
  exact ⟨rfl, rfl⟩
theorem set_same {L : List One} {k : Nat} {x : One} (h : L[k]? = some x) : L.set k x = L := by
  apply List.ext_getElem?
  intro j
  rw [List.getElem?_set]
  by_cases e : k = j
  · subst e
    rw [if_pos rfl, if_pos (List.getElem?_eq_some_iff.1 h).1, h]
  · rw [if_neg e]
theorem do_same {f : One → One × Bool} {L : List One} {k : Nat} {x : One} {b : Bool} (h : L[k]? = some x) (hf : f x = (x, b)) : doB f L k = b ∧ doL f L k = L := by
  obtain ⟨h1, h2⟩ := do_some h hf
  exact ⟨h1, by rw [h2, set_same h]⟩
theorem do_length (f : One → One × Bool) (L : List One) (g : Int) : (doL f L g).length = L.length := by
  unfold doL
  split <;> simp

def parkF (x : One) : One × Bool := if x.1 = 0 then (if x.2 = true then ((0, false), false) else ((1, false), true)) else (x, false)
def readyF (x : One) : One × Bool := if x.1 = 1 then ((0, x.2), true) else if x.1 = 0 ∧ x.2 = false then ((0, true), true) else (x, false)
def endF (x : One) : One × Bool := if x.1 = 0 then ((2, false), true) else (x, false)
def setF (s : Int) (t : Bool) (x : One) : One × Bool := if 0 ≤ s ∧ s ≤ 2 then ((s, t), true) else (x, false)

/-- Those of the first k that run. -/
def runK (L : List One) (k : Nat) : List Int := ((List.range k).filter fun i : Nat => decide (stV L i = 0)).map fun i : Nat => (i : Int)
theorem runK_zero (L : List One) : runK L 0 = [] := rfl
theorem runK_yes {L : List One} {k : Nat} (h : stV L k = 0) : runK L k ++ [(k : Int)] = runK L (k + 1) := by
  unfold runK
  rw [List.range_succ, List.filter_append, List.map_append, List.filter_cons_of_pos (by simpa using h)]
  rfl
theorem runK_no {L : List One} {k : Nat} (h : stV L k ≠ 0) : runK L k = runK L (k + 1) := by
  unfold runK
  rw [List.range_succ, List.filter_append, List.map_append, List.filter_cons_of_neg (by simpa using h)]
  simp
theorem runK_length (L : List One) (k : Nat) : (runK L k).length ≤ k := by
  unfold runK
  rw [List.length_map]
  exact Nat.le_trans (List.length_filter_le _ _) (by simp)
theorem runK_more (L : List One) (k j : Nat) : ∃ r, runK L (k + j) = runK L k ++ r := by
  induction j with
  | zero => exact ⟨[], by simp⟩
  | succ j ih =>
    obtain ⟨r, hr⟩ := ih
    by_cases h : stV L ((k + j : Nat) : Int) = 0
    · exact ⟨r ++ [((k + j : Nat) : Int)], by rw [← Nat.add_assoc, ← runK_yes h, hr, List.append_assoc]⟩
    · exact ⟨r, by rw [← Nat.add_assoc, ← runK_no h, hr]⟩
/-- One of those that run has its place in their row. -/
theorem runK_at {L : List One} {k n m : Nat} (hk : k < n) (h : stV L k = 0) (hm : (runK L k).length = m) : m < (runK L n).length ∧ (runK L n).getD m 0 = (k : Int) ∧ (runK L (k + 1)).length = m + 1 := by
  obtain ⟨r, hr⟩ := runK_more L (k + 1) (n - (k + 1))
  rw [show k + 1 + (n - (k + 1)) = n by omega, ← runK_yes h, List.append_assoc] at hr
  subst hm
  refine ⟨by rw [hr]; simp, by rw [hr]; simp, by rw [← runK_yes h]; simp⟩

end Go.Proofs.Ytkgjibglnnagdaa
