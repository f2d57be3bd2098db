/- Equality of plans as an answer; answers over lists, by number. Pure mathematics. -/
import Derived.Test.YtenbafkgfdlfpaaMath
namespace Go.Proofs.Ytenbafkgfdlfpaa

theorem all_yes {α : Type} {q : α → Bool} {L : List α} (h : ∀ (i : Nat) x, L[i]? = some x → q x = true) : L.all q = true :=
  List.all_eq_true.2 fun x hx => by
    obtain ⟨i, hi⟩ := List.mem_iff_getElem?.1 hx
    exact h i x hi
theorem all_no {α : Type} {q : α → Bool} {L : List α} {i : Nat} {x : α} (h : L[i]? = some x) (hq : q x = false) : L.all q = false := by
  rw [Bool.eq_false_iff]
  intro ha
  rw [List.all_eq_true.1 ha x (List.mem_of_getElem? h)] at hq
  cases hq

/-- Two lists are one, by what two things are one. -/
def sameBy {α : Type} (q : α → α → Bool) : List α → List α → Bool
  | [], [] => true
  | x :: L, y :: M => q x y && sameBy q L M
  | _, _ => false
theorem sameBy_yes {α : Type} {q : α → α → Bool} : ∀ {L M : List α}, L.length = M.length → (∀ (i : Nat) x y, L[i]? = some x → M[i]? = some y → q x y = true) → sameBy q L M = true
  | [], [], _, _ => rfl
  | x :: L, y :: M, hl, h => by
    show (q x y && sameBy q L M) = true
    rw [h 0 x y rfl rfl, Bool.true_and]
    exact sameBy_yes (by simpa using hl) fun i a b ha hb => h (i + 1) a b (by simpa using ha) (by simpa using hb)
  | [], _ :: _, hl, _ => by simp at hl
  | _ :: _, [], hl, _ => by simp at hl
theorem sameBy_len {α : Type} {q : α → α → Bool} : ∀ {L M : List α}, L.length ≠ M.length → sameBy q L M = false
  | [], [], h => absurd rfl h
  | x :: L, y :: M, h => by
    show (q x y && sameBy q L M) = false
    rw [sameBy_len (L := L) (M := M) (by simpa using h), Bool.and_false]
  | [], _ :: _, _ => rfl
  | _ :: _, [], _ => rfl
theorem sameBy_no {α : Type} {q : α → α → Bool} : ∀ {L M : List α} {i : Nat} {x y : α}, L[i]? = some x → M[i]? = some y → q x y = false → sameBy q L M = false
  | x :: L, y :: M, 0, a, b, ha, hb, h => by
    show (q x y && sameBy q L M) = false
    obtain rfl : x = a := by simpa using ha
    obtain rfl : y = b := by simpa using hb
    rw [h, Bool.false_and]
  | x :: L, y :: M, i + 1, a, b, ha, hb, h => by
    show (q x y && sameBy q L M) = false
    rw [sameBy_no (L := L) (M := M) (i := i) (by simpa using ha) (by simpa using hb) h, Bool.and_false]
  | [], _, _, _, _, ha, _, _ => by simp at ha
  | _ :: _, [], _, _, _, _, hb, _ => by simp at hb
theorem sameBy_refl {α : Type} {q : α → α → Bool} (hq : ∀ x, q x x = true) (L : List α) : sameBy q L L = true :=
  sameBy_yes rfl fun i x y hx hy => by
    rw [hx] at hy
    obtain rfl : x = y := by simpa using hy
    exact hq x

def sameC (a b : Cas) : Bool := a.send == b.send && a.ch == b.ch && a.v == b.v
/-- An op's own fields, its cases aside. -/
def sameF (a b : Opr) : Bool := a.kind == b.kind && a.ch == b.ch && a.n == b.n && a.v == b.v && a.els == b.els && a.cases.length == b.cases.length
def sameO (a b : Opr) : Bool := sameF a b && sameBy sameC a.cases b.cases
def sameL (a b : List Opr) : Bool := sameBy sameO a b
def sameP (a b : List (List Opr)) : Bool := sameBy sameL a b
theorem sameC_refl (a : Cas) : sameC a a = true := by simp [sameC]
theorem sameO_refl (a : Opr) : sameO a a = true := by simp [sameO, sameF, sameBy_refl sameC_refl]
theorem sameL_refl (a : List Opr) : sameL a a = true := sameBy_refl sameO_refl a
theorem sameP_refl (a : List (List Opr)) : sameP a a = true := sameBy_refl sameL_refl a

end Go.Proofs.Ytenbafkgfdlfpaa
