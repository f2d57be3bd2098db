/- Plans as lists, their bytes, and the plan that bytes make. Pure mathematics. -/
import Derived.Lib.Hide
namespace Go.Proofs.Ytenbafkgfdlfpaa

/-- A case of a select. -/
structure Cas where
  send : Bool
  ch : Int
  v : Int
/-- An operation. -/
structure Opr where
  kind : Int
  ch : Int
  n : Int
  v : Int
  cases : List Cas
  els : Bool

def hasCh (k : Int) : Bool := decide (2 ≤ k) && decide (k ≤ 8)
def hasV (k : Int) : Bool := k == 2 || k == 4

def rightC (c : Cas) : Bool := decide (0 ≤ c.ch) && decide (c.ch ≤ 8) && decide (0 ≤ c.v) && decide (c.v ≤ 255) && (c.send || c.v == 0)
/-- All that a single op asks, its cases aside. -/
def rightF (o : Opr) : Bool :=
  decide (1 ≤ o.kind) && decide (o.kind ≤ 9) && decide (0 ≤ o.ch) && decide (o.ch ≤ 8) && decide (0 ≤ o.n) && decide (o.n ≤ 4) && decide (0 ≤ o.v) && decide (o.v ≤ 255) && decide (o.cases.length ≤ 6) &&
  (hasCh o.kind || o.ch == 0) && (hasV o.kind || o.v == 0) && (o.kind == 1 || o.n == 0) && (o.kind == 9 || (!o.els && o.cases.length == 0))
def rightO (o : Opr) : Bool := rightF o && o.cases.all rightC
def rightL (l : List Opr) : Bool := l.all rightO && decide (l.length ≤ 16)
def rightP (p : List (List Opr)) : Bool := p.all rightL && decide (1 ≤ p.length) && decide (p.length ≤ 8)

/-! ### Bytes -/
def flagI (b : Bool) : Int := if b then 1 else 0
def encC (c : Cas) : List Int := flagI c.send :: c.ch :: (if c.send then [c.v] else [])
/-- An op's bytes ahead of its cases. -/
def encH (o : Opr) : List Int := (o.kind - 1) :: ((if hasCh o.kind then [o.ch] else []) ++ ((if o.kind == 1 then [o.n] else []) ++ ((if hasV o.kind then [o.v] else []) ++ (if o.kind == 9 then [(o.cases.length : Int), flagI o.els] else []))))
def encO (o : Opr) : List Int := encH o ++ o.cases.flatMap encC
def encL (l : List Opr) : List Int := (l.length : Int) :: l.flatMap encO
def encP (p : List (List Opr)) : List Int := ((p.length : Int) - 1) :: p.flatMap encL

/-! ### The plan that bytes make -/
def atB (B : List Int) (i : Nat) : Int := B.getD i 0
def casOne (B : List Int) (i : Nat) : Cas × Nat :=
  if atB B i % 2 = 1 then (⟨true, atB B (i + 1) % 9, atB B (i + 2)⟩, i + 3) else (⟨false, atB B (i + 1) % 9, 0⟩, i + 2)
def casesAt (B : List Int) (i : Nat) : Nat → List Cas × Nat
  | 0 => ([], i)
  | k + 1 => ((casesAt B i k).1 ++ [(casOne B (casesAt B i k).2).1], (casOne B (casesAt B i k).2).2)
def kindAt (B : List Int) (i : Nat) : Int := atB B i % 9 + 1
/-- The places of what stands behind the kind: n's, v's, and what is behind these. -/
def nPlace (B : List Int) (i : Nat) : Nat := if hasCh (kindAt B i) then i + 2 else i + 1
def vPlace (B : List Int) (i : Nat) : Nat := if kindAt B i == 1 then nPlace B i + 1 else nPlace B i
def ePlace (B : List Int) (i : Nat) : Nat := if hasV (kindAt B i) then vPlace B i + 1 else vPlace B i
def headAt (B : List Int) (i : Nat) : Opr :=
  ⟨kindAt B i, if hasCh (kindAt B i) then atB B (i + 1) % 9 else 0, if kindAt B i == 1 then atB B (nPlace B i) % 5 else 0, if hasV (kindAt B i) then atB B (vPlace B i) else 0, [], false⟩
def opOne (B : List Int) (i : Nat) : Opr × Nat :=
  if kindAt B i == 9 then
    ({ headAt B i with cases := (casesAt B (ePlace B i + 2) (atB B (ePlace B i) % 7).toNat).1, els := atB B (ePlace B i + 1) % 2 == 1 }, (casesAt B (ePlace B i + 2) (atB B (ePlace B i) % 7).toNat).2)
  else (headAt B i, ePlace B i)
def opsAt (B : List Int) (i : Nat) : Nat → List Opr × Nat
  | 0 => ([], i)
  | k + 1 => ((opsAt B i k).1 ++ [(opOne B (opsAt B i k).2).1], (opOne B (opsAt B i k).2).2)
def rowAt (B : List Int) (i : Nat) : List Opr × Nat := opsAt B (i + 1) (atB B i % 17).toNat
def rowsAt (B : List Int) (i : Nat) : Nat → List (List Opr) × Nat
  | 0 => ([], i)
  | g + 1 => ((rowsAt B i g).1 ++ [(rowAt B (rowsAt B i g).2).1], (rowAt B (rowsAt B i g).2).2)
def planOf (B : List Int) : List (List Opr) × Nat := rowsAt B 1 (atB B 0 % 8 + 1).toNat
def usedOf (B : List Int) : Nat := min (planOf B).2 B.length

/-- Bytes. -/
def IsBytes (B : List Int) : Prop := ∀ x ∈ B, 0 ≤ x ∧ x ≤ 255
theorem IsBytes.at {B : List Int} (h : IsBytes B) (i : Nat) : 0 ≤ atB B i ∧ atB B i ≤ 255 := by
  unfold atB
  rcases Nat.lt_or_ge i B.length with hi | hi
  · rw [List.getD_eq_getElem?_getD, List.getElem?_eq_getElem hi]
    exact h _ (List.getElem_mem hi)
  · rw [List.getD_eq_getElem?_getD, List.getElem?_eq_none hi]
    exact ⟨by decide, by decide⟩

/-! ### What bytes make is right -/
theorem casOne_right {B : List Int} (h : IsBytes B) (i : Nat) : rightC (casOne B i).1 = true := by
  have h1 := h.at (i + 1)
  have h2 := h.at (i + 2)
  unfold casOne
  split <;> simp [rightC] <;> omega
theorem casesAt_right {B : List Int} (h : IsBytes B) (i : Nat) : ∀ k, (casesAt B i k).1.all rightC = true
  | 0 => rfl
  | k + 1 => by
    show ((casesAt B i k).1 ++ [_]).all rightC = true
    rw [List.all_append, casesAt_right h i k]
    simp [casOne_right h]
theorem casesAt_length (B : List Int) (i : Nat) : ∀ k, (casesAt B i k).1.length = k
  | 0 => rfl
  | k + 1 => by
    show ((casesAt B i k).1 ++ [_]).length = _
    rw [List.length_append, casesAt_length B i k]
    rfl
theorem kindAt_in {B : List Int} (h : IsBytes B) (i : Nat) : 1 ≤ kindAt B i ∧ kindAt B i ≤ 9 := by
  have := h.at i
  unfold kindAt
  omega
theorem headAt_right {B : List Int} (h : IsBytes B) (i : Nat) : rightF (headAt B i) = true := by
  have h0 := kindAt_in h i
  have h1 := h.at (i + 1)
  have h2 := h.at (nPlace B i)
  have h3 := h.at (vPlace B i)
  unfold rightF headAt
  dsimp only
  by_cases a : hasCh (kindAt B i) = true <;> by_cases b : (kindAt B i == 1) = true <;> by_cases c : hasV (kindAt B i) = true <;> simp [a, b, c] <;> omega
theorem opOne_right {B : List Int} (h : IsBytes B) (i : Nat) : rightO (opOne B i).1 = true := by
  have hr := headAt_right h i
  unfold opOne rightO
  by_cases k : (kindAt B i == 9) = true
  · rw [if_pos k]
    dsimp only
    rw [casesAt_right h, Bool.and_true]
    have hl := casesAt_length B (ePlace B i + 2) (atB B (ePlace B i) % 7).toNat
    have hb := h.at (ePlace B i)
    unfold rightF at hr ⊢
    dsimp only at hr ⊢
    rw [hl]
    have hk : kindAt B i = 9 := by simpa using k
    have hk' : (headAt B i).kind = 9 := hk
    rw [hk'] at hr ⊢
    have e : (headAt B i).cases = [] := rfl
    rw [e] at hr
    simp only [List.length_nil] at hr
    simp [hasCh, hasV] at hr ⊢
    omega
  · rw [if_neg k]
    dsimp only
    rw [hr]
    rfl
theorem opsAt_right {B : List Int} (h : IsBytes B) (i : Nat) : ∀ k, (opsAt B i k).1.all rightO = true
  | 0 => rfl
  | k + 1 => by
    show ((opsAt B i k).1 ++ [_]).all rightO = true
    rw [List.all_append, opsAt_right h i k]
    simp [opOne_right h]
theorem opsAt_length (B : List Int) (i : Nat) : ∀ k, (opsAt B i k).1.length = k
  | 0 => rfl
  | k + 1 => by
    show ((opsAt B i k).1 ++ [_]).length = _
    rw [List.length_append, opsAt_length B i k]
    rfl
theorem rowsAt_right {B : List Int} (h : IsBytes B) (i : Nat) : ∀ g, (rowsAt B i g).1.all rightL = true
  | 0 => rfl
  | g + 1 => by
    show ((rowsAt B i g).1 ++ [_]).all rightL = true
    rw [List.all_append, rowsAt_right h i g]
    have hb := h.at (rowsAt B i g).2
    simp only [List.all_cons, List.all_nil, Bool.and_true, Bool.true_and]
    unfold rightL rowAt
    rw [opsAt_right h, opsAt_length]
    simp
    omega
theorem rowsAt_length (B : List Int) (i : Nat) : ∀ g, (rowsAt B i g).1.length = g
  | 0 => rfl
  | g + 1 => by
    show ((rowsAt B i g).1 ++ [_]).length = _
    rw [List.length_append, rowsAt_length B i g]
    rfl
theorem planOf_right {B : List Int} (h : IsBytes B) : rightP (planOf B).1 = true := by
  have hb := h.at 0
  unfold rightP planOf
  rw [rowsAt_right h, rowsAt_length]
  simp
  omega

/-! ### So many bytes are asked for as its own bytes are -/
theorem casOne_place (B : List Int) (i : Nat) : (casOne B i).2 = i + (encC (casOne B i).1).length := by
  unfold casOne
  split <;> simp [encC]
theorem casesAt_place (B : List Int) (i : Nat) : ∀ k, (casesAt B i k).2 = i + ((casesAt B i k).1.flatMap encC).length
  | 0 => by simp [casesAt]
  | k + 1 => by
    show (casOne B (casesAt B i k).2).2 = i + (((casesAt B i k).1 ++ [(casOne B (casesAt B i k).2).1]).flatMap encC).length
    rw [casOne_place, List.flatMap_append, List.length_append, casesAt_place B i k]
    simp
    omega
theorem ePlace_is (B : List Int) (i : Nat) : ePlace B i + (if kindAt B i == 9 then 2 else 0) = i + (encH (opOne B i).1).length := by
  have hk : (opOne B i).1.kind = kindAt B i := by unfold opOne; split <;> rfl
  unfold encH
  rw [hk]
  unfold ePlace vPlace nPlace
  by_cases a : hasCh (kindAt B i) = true <;> by_cases b : (kindAt B i == 1) = true <;> by_cases c : hasV (kindAt B i) = true <;> by_cases d : (kindAt B i == 9) = true <;> simp [a, b, c, d] <;> omega
theorem opOne_place (B : List Int) (i : Nat) : (opOne B i).2 = i + (encO (opOne B i).1).length := by
  have he := ePlace_is B i
  unfold encO
  rw [List.length_append]
  by_cases d : (kindAt B i == 9) = true
  · rw [if_pos d] at he
    unfold opOne at he ⊢
    rw [if_pos d] at he ⊢
    dsimp only at he ⊢
    rw [casesAt_place]
    omega
  · rw [if_neg d] at he
    unfold opOne at he ⊢
    rw [if_neg d] at he ⊢
    dsimp only at he ⊢
    have : (headAt B i).cases = [] := rfl
    rw [this]
    simp
    omega
theorem opsAt_place (B : List Int) (i : Nat) : ∀ k, (opsAt B i k).2 = i + ((opsAt B i k).1.flatMap encO).length
  | 0 => by simp [opsAt]
  | k + 1 => by
    show (opOne B (opsAt B i k).2).2 = i + (((opsAt B i k).1 ++ [(opOne B (opsAt B i k).2).1]).flatMap encO).length
    rw [opOne_place, List.flatMap_append, List.length_append, opsAt_place B i k]
    simp
    omega
theorem rowsAt_place (B : List Int) (i : Nat) : ∀ g, (rowsAt B i g).2 = i + ((rowsAt B i g).1.flatMap encL).length
  | 0 => by simp [rowsAt]
  | g + 1 => by
    show (rowAt B (rowsAt B i g).2).2 = i + (((rowsAt B i g).1 ++ [(rowAt B (rowsAt B i g).2).1]).flatMap encL).length
    rw [List.flatMap_append, List.length_append]
    unfold rowAt
    rw [opsAt_place, rowsAt_place B i g]
    simp [encL]
    omega
theorem planOf_place (B : List Int) : (planOf B).2 = (encP (planOf B).1).length := by
  unfold planOf encP
  rw [rowsAt_place, List.length_cons]
  omega

/-! ### A right plan comes back from its bytes -/
theorem at0 (pre t : List Int) (x : Int) : atB (pre ++ x :: t) pre.length = x := by simp [atB]
theorem at1 (pre t : List Int) (x y : Int) : atB (pre ++ x :: y :: t) (pre.length + 1) = y := by
  have := at0 (pre ++ [x]) t y
  simpa using this
theorem at2 (pre t : List Int) (x y z : Int) : atB (pre ++ x :: y :: z :: t) (pre.length + 2) = z := by
  have := at0 (pre ++ [x, y]) t z
  simpa using this
theorem casesAt_cons (B : List Int) (i : Nat) : ∀ k, casesAt B i (k + 1) = ((casOne B i).1 :: (casesAt B (casOne B i).2 k).1, (casesAt B (casOne B i).2 k).2)
  | 0 => rfl
  | k + 1 => by
    show ((casesAt B i (k + 1)).1 ++ [(casOne B (casesAt B i (k + 1)).2).1], (casOne B (casesAt B i (k + 1)).2).2) = _
    rw [casesAt_cons B i k]
    rfl
theorem opsAt_cons (B : List Int) (i : Nat) : ∀ k, opsAt B i (k + 1) = ((opOne B i).1 :: (opsAt B (opOne B i).2 k).1, (opsAt B (opOne B i).2 k).2)
  | 0 => rfl
  | k + 1 => by
    show ((opsAt B i (k + 1)).1 ++ [(opOne B (opsAt B i (k + 1)).2).1], (opOne B (opsAt B i (k + 1)).2).2) = _
    rw [opsAt_cons B i k]
    rfl
theorem rowsAt_cons (B : List Int) (i : Nat) : ∀ k, rowsAt B i (k + 1) = ((rowAt B i).1 :: (rowsAt B (rowAt B i).2 k).1, (rowsAt B (rowAt B i).2 k).2)
  | 0 => rfl
  | k + 1 => by
    show ((rowsAt B i (k + 1)).1 ++ [(rowAt B (rowsAt B i (k + 1)).2).1], (rowAt B (rowsAt B i (k + 1)).2).2) = _
    rw [rowsAt_cons B i k]
    rfl
theorem casOne_enc (pre post : List Int) (c : Cas) (h : rightC c = true) : casOne (pre ++ (encC c ++ post)) pre.length = (c, pre.length + (encC c).length) := by
  obtain ⟨s, ch, v⟩ := c
  unfold rightC at h
  simp at h
  cases s with
  | true =>
    have e : encC ⟨true, ch, v⟩ ++ post = 1 :: ch :: v :: post := rfl
    rw [e]
    unfold casOne
    rw [at0, at1, at2, if_pos (by decide), show ch % 9 = ch by omega]
    rfl
  | false =>
    have e : encC ⟨false, ch, v⟩ ++ post = 0 :: ch :: post := rfl
    rw [e]
    unfold casOne
    rw [at0, at1, if_neg (by decide), show ch % 9 = ch by omega]
    have hv : v = 0 := by simpa using h.2
    subst hv
    rfl
theorem casesAt_enc : ∀ (L : List Cas) (pre post : List Int), L.all rightC = true → casesAt (pre ++ (L.flatMap encC ++ post)) pre.length L.length = (L, pre.length + (L.flatMap encC).length)
  | [], pre, post, _ => by simp [casesAt]
  | c :: L, pre, post, h => by
    rw [List.all_cons, Bool.and_eq_true] at h
    rw [List.length_cons, casesAt_cons, List.flatMap_cons, List.append_assoc, casOne_enc pre _ c h.1]
    dsimp only
    have := casesAt_enc L (pre ++ encC c) post h.2
    rw [List.append_assoc, List.length_append] at this
    rw [this, List.length_append, Nat.add_assoc]
/-- What stands at the place of an op's kind. -/
theorem kindAt_is (pre t : List Int) (k : Int) (h : 1 ≤ k ∧ k ≤ 9) : kindAt (pre ++ (k - 1) :: t) pre.length = k := by
  unfold kindAt
  rw [at0]
  omega
theorem op_n (pre post : List Int) (n : Int) (h : 0 ≤ n ∧ n ≤ 4) : opOne (pre ++ (0 :: n :: post)) pre.length = (⟨1, 0, n, 0, [], false⟩, pre.length + 2) := by
  have hk : kindAt (pre ++ (0 :: n :: post)) pre.length = 1 := kindAt_is pre _ 1 (by omega)
  unfold opOne headAt ePlace vPlace nPlace
  rw [hk]
  simp [hasCh, hasV, at1]
  omega
theorem op_ch (pre post : List Int) (k ch : Int) (hk : k = 3 ∨ k = 5 ∨ k = 6 ∨ k = 7 ∨ k = 8) (h : 0 ≤ ch ∧ ch ≤ 8) : opOne (pre ++ ((k - 1) :: ch :: post)) pre.length = (⟨k, ch, 0, 0, [], false⟩, pre.length + 2) := by
  have hk' := kindAt_is pre (ch :: post) k (by omega)
  unfold opOne headAt ePlace vPlace nPlace
  rw [hk']
  have e : ch % 9 = ch := by omega
  rcases hk with rfl | rfl | rfl | rfl | rfl <;> simp [hasCh, hasV, at1, e]
theorem op_v (pre post : List Int) (k ch v : Int) (hk : k = 2 ∨ k = 4) (h : 0 ≤ ch ∧ ch ≤ 8) : opOne (pre ++ ((k - 1) :: ch :: v :: post)) pre.length = (⟨k, ch, 0, v, [], false⟩, pre.length + 3) := by
  have hk' := kindAt_is pre (ch :: v :: post) k (by omega)
  unfold opOne headAt ePlace vPlace nPlace
  rw [hk']
  have e : ch % 9 = ch := by omega
  rcases hk with rfl | rfl <;> simp [hasCh, hasV, at1, at2, e]
theorem op_sel (pre post : List Int) (cases : List Cas) (els : Bool) (hl : cases.length ≤ 6) (hc : cases.all rightC = true) : opOne (pre ++ (8 :: (cases.length : Int) :: flagI els :: (cases.flatMap encC ++ post))) pre.length = (⟨9, 0, 0, 0, cases, els⟩, pre.length + 3 + (cases.flatMap encC).length) := by
  have hk : kindAt (pre ++ (8 :: (cases.length : Int) :: flagI els :: (cases.flatMap encC ++ post))) pre.length = 9 := kindAt_is pre _ 9 (by omega)
  have he : ePlace (pre ++ (8 :: (cases.length : Int) :: flagI els :: (cases.flatMap encC ++ post))) pre.length = pre.length + 1 := by
    unfold ePlace vPlace nPlace
    rw [hk]
    rfl
  have hh : headAt (pre ++ (8 :: (cases.length : Int) :: flagI els :: (cases.flatMap encC ++ post))) pre.length = ⟨9, 0, 0, 0, [], false⟩ := by
    unfold headAt
    rw [hk]
    rfl
  unfold opOne
  rw [hk, he, hh, if_pos (by rfl), at1, Nat.add_assoc, at2]
  have e1 : ((cases.length : Int) % 7).toNat = cases.length := by omega
  have e2 : (flagI els % 2 == 1) = els := by cases els <;> rfl
  have := casesAt_enc cases (pre ++ [8, (cases.length : Int), flagI els]) post hc
  rw [List.append_assoc] at this
  have e3 : ([8, (cases.length : Int), flagI els] ++ (cases.flatMap encC ++ post)) = 8 :: (cases.length : Int) :: flagI els :: (cases.flatMap encC ++ post) := rfl
  have e4 : (pre ++ [8, (cases.length : Int), flagI els]).length = pre.length + (1 + 2) := by simp
  rw [e3, e4] at this
  rw [e1, e2, this]
theorem opOne_enc (pre post : List Int) (o : Opr) (h : rightO o = true) : opOne (pre ++ (encO o ++ post)) pre.length = (o, pre.length + (encO o).length) := by
  obtain ⟨kind, ch, n, v, cs, els⟩ := o
  unfold rightO at h
  rw [Bool.and_eq_true] at h
  obtain ⟨hf, hc⟩ := h
  unfold rightF at hf
  dsimp only at hf hc
  have hk : kind = 1 ∨ (kind = 2 ∨ kind = 4) ∨ (kind = 3 ∨ kind = 5 ∨ kind = 6 ∨ kind = 7 ∨ kind = 8) ∨ kind = 9 := by
    simp only [Bool.and_eq_true, decide_eq_true_eq] at hf
    omega
  rcases hk with rfl | hk | hk | rfl
  · simp [hasCh, hasV] at hf
    obtain ⟨rfl, rfl, rfl, rfl, hn⟩ : ch = 0 ∧ v = 0 ∧ cs = [] ∧ els = false ∧ (0 ≤ n ∧ n ≤ 4) := by grind
    exact op_n pre post n hn
  · have hx : n = 0 ∧ cs = [] ∧ els = false ∧ (0 ≤ ch ∧ ch ≤ 8) := by
      rcases hk with rfl | rfl <;> simp [hasCh, hasV] at hf <;> grind
    obtain ⟨rfl, rfl, rfl, hch⟩ := hx
    rw [show encO ⟨kind, ch, 0, v, [], false⟩ ++ post = (kind - 1) :: ch :: v :: post from by rcases hk with rfl | rfl <;> rfl, op_v pre post kind ch v hk hch]
    rcases hk with rfl | rfl <;> rfl
  · have hx : n = 0 ∧ v = 0 ∧ cs = [] ∧ els = false ∧ (0 ≤ ch ∧ ch ≤ 8) := by
      rcases hk with rfl | rfl | rfl | rfl | rfl <;> simp [hasCh, hasV] at hf <;> grind
    obtain ⟨rfl, rfl, rfl, rfl, hch⟩ := hx
    rw [show encO ⟨kind, ch, 0, 0, [], false⟩ ++ post = (kind - 1) :: ch :: post from by rcases hk with rfl | rfl | rfl | rfl | rfl <;> rfl, op_ch pre post kind ch hk hch]
    rcases hk with rfl | rfl | rfl | rfl | rfl <;> rfl
  · simp [hasCh, hasV] at hf
    obtain ⟨rfl, rfl, rfl, hl⟩ : ch = 0 ∧ v = 0 ∧ n = 0 ∧ cs.length ≤ 6 := by grind
    have e : encO ⟨9, 0, 0, 0, cs, els⟩ = 8 :: (cs.length : Int) :: flagI els :: cs.flatMap encC := rfl
    rw [e]
    have := op_sel pre post cs els hl hc
    rw [show (8 :: (cs.length : Int) :: flagI els :: cs.flatMap encC) ++ post = 8 :: (cs.length : Int) :: flagI els :: (cs.flatMap encC ++ post) from rfl, this]
    simp
    omega
theorem opsAt_enc : ∀ (L : List Opr) (pre post : List Int), L.all rightO = true → opsAt (pre ++ (L.flatMap encO ++ post)) pre.length L.length = (L, pre.length + (L.flatMap encO).length)
  | [], pre, post, _ => by simp [opsAt]
  | c :: L, pre, post, h => by
    rw [List.all_cons, Bool.and_eq_true] at h
    rw [List.length_cons, opsAt_cons, List.flatMap_cons, List.append_assoc, opOne_enc pre _ c h.1]
    dsimp only
    have := opsAt_enc L (pre ++ encO c) post h.2
    rw [List.append_assoc, List.length_append] at this
    rw [this, List.length_append, Nat.add_assoc]
theorem rowAt_enc (pre post : List Int) (l : List Opr) (h : rightL l = true) : rowAt (pre ++ (encL l ++ post)) pre.length = (l, pre.length + (encL l).length) := by
  unfold rightL at h
  simp only [Bool.and_eq_true, decide_eq_true_eq] at h
  unfold rowAt encL
  rw [List.cons_append, at0, show ((l.length : Int) % 17).toNat = l.length by omega]
  have := opsAt_enc l (pre ++ [(l.length : Int)]) post h.1
  rw [List.append_assoc, List.length_append] at this
  rw [show [(l.length : Int)] ++ (l.flatMap encO ++ post) = (l.length : Int) :: (l.flatMap encO ++ post) from rfl, show [(l.length : Int)].length = 1 from rfl] at this
  rw [this]
  simp
  omega
theorem rowsAt_enc : ∀ (p : List (List Opr)) (pre post : List Int), p.all rightL = true → rowsAt (pre ++ (p.flatMap encL ++ post)) pre.length p.length = (p, pre.length + (p.flatMap encL).length)
  | [], pre, post, _ => by simp [rowsAt]
  | c :: L, pre, post, h => by
    rw [List.all_cons, Bool.and_eq_true] at h
    rw [List.length_cons, rowsAt_cons, List.flatMap_cons, List.append_assoc, rowAt_enc pre _ c h.1]
    dsimp only
    have := rowsAt_enc L (pre ++ encL c) post h.2
    rw [List.append_assoc, List.length_append] at this
    rw [this, List.length_append, Nat.add_assoc]
/-- Of a right plan's bytes, whatever stands behind them, the plan comes back, and just these bytes are asked for. -/
theorem planOf_enc (p : List (List Opr)) (post : List Int) (h : rightP p = true) : planOf (encP p ++ post) = (p, (encP p).length) := by
  unfold rightP at h
  simp only [Bool.and_eq_true, decide_eq_true_eq] at h
  have h0 := at0 [] (p.flatMap encL ++ post) ((p.length : Int) - 1)
  rw [List.nil_append] at h0
  unfold planOf encP
  rw [List.cons_append, show atB (((p.length : Int) - 1) :: (p.flatMap encL ++ post)) 0 = (p.length : Int) - 1 from h0, show (((p.length : Int) - 1) % 8 + 1).toNat = p.length by omega]
  have := rowsAt_enc p [(p.length : Int) - 1] post h.1.1
  rw [show [(p.length : Int) - 1] ++ (p.flatMap encL ++ post) = ((p.length : Int) - 1) :: (p.flatMap encL ++ post) from rfl, show [(p.length : Int) - 1].length = 1 from rfl] at this
  rw [this, List.length_cons, Nat.add_comm]
theorem usedOf_enc (p : List (List Opr)) (post : List Int) (h : rightP p = true) : usedOf (encP p ++ post) = (encP p).length := by
  unfold usedOf
  rw [planOf_enc p post h, List.length_append]
  dsimp only
  omega
/-- How many bytes were asked for: no more than there are; all, or as many as the plan's own. -/
theorem usedOf_back (B : List Int) : usedOf B ≤ B.length ∧ (usedOf B = B.length ∨ usedOf B = (encP (planOf B).1).length) := by
  unfold usedOf
  rw [planOf_place]
  omega

/-! ### A right plan's bytes are bytes -/
theorem encC_bytes {c : Cas} (h : rightC c = true) : IsBytes (encC c) := by
  unfold rightC at h
  simp at h
  intro x hx
  unfold encC flagI at hx
  cases hs : c.send <;> simp [hs] at hx <;> omega
theorem flat_bytes {α : Type} {f : α → List Int} {q : α → Bool} (hf : ∀ x, q x = true → IsBytes (f x)) {L : List α} (h : L.all q = true) : IsBytes (L.flatMap f) := by
  intro x hx
  obtain ⟨c, hc, hx'⟩ := List.mem_flatMap.1 hx
  exact hf c (List.all_eq_true.1 h c hc) x hx'
theorem encO_bytes {o : Opr} (h : rightO o = true) : IsBytes (encO o) := by
  unfold rightO at h
  rw [Bool.and_eq_true] at h
  intro x hx
  unfold encO at hx
  rcases List.mem_append.1 hx with h1 | h1
  · have hf := h.1
    unfold rightF at hf
    simp only [Bool.and_eq_true, decide_eq_true_eq] at hf
    unfold encH at h1
    simp only [List.mem_cons, List.mem_append] at h1
    rcases h1 with h1 | h1 | h1 | h1 | h1
    · omega
    · split at h1 <;> simp at h1; omega
    · split at h1 <;> simp at h1; omega
    · split at h1 <;> simp at h1; omega
    · split at h1
      · simp [flagI] at h1
        rcases h1 with h1 | h1
        · omega
        · split at h1 <;> omega
      · simp at h1
  · exact flat_bytes (fun c hc => encC_bytes hc) h.2 x h1
theorem encL_bytes {l : List Opr} (h : rightL l = true) : IsBytes (encL l) := by
  unfold rightL at h
  simp only [Bool.and_eq_true, decide_eq_true_eq] at h
  intro x hx
  unfold encL at hx
  rcases List.mem_cons.1 hx with h1 | h1
  · omega
  · exact flat_bytes (fun c hc => encO_bytes hc) h.1 x h1
theorem encP_bytes {p : List (List Opr)} (h : rightP p = true) : IsBytes (encP p) := by
  unfold rightP at h
  simp only [Bool.and_eq_true, decide_eq_true_eq] at h
  intro x hx
  unfold encP at hx
  rcases List.mem_cons.1 hx with h1 | h1
  · omega
  · exact flat_bytes (fun c hc => encL_bytes hc) h.1.1 x h1

end Go.Proofs.Ytenbafkgfdlfpaa
