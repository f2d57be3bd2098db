/- An op's text, piece by piece. Pure mathematics. -/
import Derived.Test.YtfghabjpcjcllaaDoorWMath
namespace Go.Proofs.YtfghabjpcjcllaaDoor

theorem joinT_tl (c : UInt8) (w : Tx) (ws : List Tx) : joinT c (w :: ws) = w ++ ws.flatMap (fun x => c :: x) := by
  induction ws generalizing w with
  | nil => simp [joinT]
  | cons x ws ih =>
    rw [joinT_cons c w (by simp), ih]
    simp
def headT (k : Int) : Tx := joinT 32 (headW k)
def chT (o : Opr) : Tx := if o.kind == 1 then 32 :: numT o.n else if o.kind == 9 then [] else 32 :: numT o.ch
def vT (o : Opr) : Tx := if hasV o.kind then 32 :: numT o.v else []
def caseT (c : Cas) : Tx := if c.send then ([32, 124, 32, 115, 101, 110, 100, 32] ++ numT c.ch ++ [32]) ++ numT c.v else [32, 124, 32, 114, 101, 99, 118, 32] ++ numT c.ch
def elseT (e : Bool) : Tx := if e then [32, 124, 32, 101, 108, 115, 101] else []
theorem tl_case (c : Cas) : (caseW c).flatMap (fun x => (32 : UInt8) :: x) = caseT c := by
  unfold caseW caseT
  split <;> simp [wBar, wSend, wRecv]
theorem tl_cases (L : List Cas) : (L.flatMap caseW).flatMap (fun x => (32 : UInt8) :: x) = L.flatMap caseT := by
  induction L with
  | nil => rfl
  | cons c L ih => rw [List.flatMap_cons, List.flatMap_append, tl_case, ih, List.flatMap_cons]
theorem tl_else (e : Bool) : (elseW e).flatMap (fun x => (32 : UInt8) :: x) = elseT e := by cases e <;> rfl
theorem head_ne (k : Int) : ∃ w ws, headW k = w :: ws := by
  unfold headW
  repeat' split
  all_goals exact ⟨_, _, rfl⟩
theorem opT_is (o : Opr) : opT o = headT o.kind ++ chT o ++ vT o ++ o.cases.flatMap caseT ++ elseT o.els := by
  obtain ⟨w, ws, h⟩ := head_ne o.kind
  unfold opT opW headT
  rw [h, List.cons_append, joinT_tl, joinT_tl]
  simp only [List.flatMap_append, tl_cases, tl_else, List.append_assoc]
  congr 3
  · unfold chT
    split
    · simp
    · split <;> simp
  · congr 1
    unfold vT
    split <;> simp
/-- The text of any op. -/
def opS (o : Opr) : Tx := if rightO o = true then opT o else []
theorem numT_len {n : Int} (h : 0 ≤ n ∧ n ≤ 999) : (numT n).length ≤ 3 := by
  rcases (show n < 10 ∨ (10 ≤ n ∧ n < 100) ∨ 100 ≤ n by omega) with k | k | k
  · obtain ⟨d, hd, e⟩ : ∃ d : Nat, d < 10 ∧ n = d := ⟨n.toNat, by omega, by omega⟩
    rw [e, itoa_one hd]; simp
  · obtain ⟨d, hd, e⟩ : ∃ d : Nat, d < 100 ∧ n = d := ⟨n.toNat, by omega, by omega⟩
    have := itoa_two (a := d / 10) (b := d % 10) (by omega) (by omega)
    rw [show d / 10 * 10 + d % 10 = d by omega] at this
    rw [e, this]; simp
  · obtain ⟨d, hd, e⟩ : ∃ d : Nat, d < 1000 ∧ n = d := ⟨n.toNat, by omega, by omega⟩
    have := itoa_three (a := d / 100) (b := d / 10 % 10) (c := d % 10) (by omega) (by omega) (by omega)
    rw [show d / 100 * 100 + d / 10 % 10 * 10 + d % 10 = d by omega] at this
    rw [e, this]; simp
theorem caseT_len {c : Cas} (h : rightC c = true) : (caseT c).length ≤ 40 := by
  have hc := rightC_in h
  have h1 := numT_len (n := c.ch) (by omega)
  have h2 := numT_len (n := c.v) (by omega)
  unfold caseT
  split <;> simp <;> omega
theorem cases_len {L : List Cas} (h : L.all rightC = true) : (L.flatMap caseT).length ≤ 40 * L.length := by
  induction L with
  | nil => simp
  | cons c L ih =>
    rw [List.all_cons, Bool.and_eq_true] at h
    have := ih h.2
    have := caseT_len h.1
    rw [List.flatMap_cons, List.length_append, List.length_cons]
    omega
end Go.Proofs.YtfghabjpcjcllaaDoor
