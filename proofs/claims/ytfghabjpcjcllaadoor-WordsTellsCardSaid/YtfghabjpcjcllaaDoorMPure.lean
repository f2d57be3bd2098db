/- Texts put together: Math, Same, Lines, DOp, WMath, OpMath, PMath, Span, RHead. -/
import Derived.Lib.Hide
import Derived.Lib.ItoaNum
/- Plans as lists, their bytes, and the plan that bytes make. Pure mathematics. -/
namespace Go.Proofs.YtfghabjpcjcllaaDoor

/-- A case of a select. -/
structure Cas where
  send : Bool
  ch : Int
  v : Int
/-- An operation. -/
structure Opr where
  kind : Int
  ch : Int
  n : Int
  v : Int
  cases : List Cas
  els : Bool

def hasCh (k : Int) : Bool := decide (2 ≤ k) && decide (k ≤ 8)
def hasV (k : Int) : Bool := k == 2 || k == 4

def rightC (c : Cas) : Bool := decide (0 ≤ c.ch) && decide (c.ch ≤ 8) && decide (0 ≤ c.v) && decide (c.v ≤ 255) && (c.send || c.v == 0)
/-- All that a single op asks, its cases aside. -/
def rightF (o : Opr) : Bool :=
  decide (1 ≤ o.kind) && decide (o.kind ≤ 9) && decide (0 ≤ o.ch) && decide (o.ch ≤ 8) && decide (0 ≤ o.n) && decide (o.n ≤ 4) && decide (0 ≤ o.v) && decide (o.v ≤ 255) && decide (o.cases.length ≤ 6) &&
  (hasCh o.kind || o.ch == 0) && (hasV o.kind || o.v == 0) && (o.kind == 1 || o.n == 0) && (o.kind == 9 || (!o.els && o.cases.length == 0))
def rightO (o : Opr) : Bool := rightF o && o.cases.all rightC
def rightL (l : List Opr) : Bool := l.all rightO && decide (l.length ≤ 16)
def rightP (p : List (List Opr)) : Bool := p.all rightL && decide (1 ≤ p.length) && decide (p.length ≤ 8)

/-! ### Bytes -/
def flagI (b : Bool) : Int := if b then 1 else 0
def encC (c : Cas) : List Int := flagI c.send :: c.ch :: (if c.send then [c.v] else [])
/-- An op's bytes ahead of its cases. -/
def encH (o : Opr) : List Int := (o.kind - 1) :: ((if hasCh o.kind then [o.ch] else []) ++ ((if o.kind == 1 then [o.n] else []) ++ ((if hasV o.kind then [o.v] else []) ++ (if o.kind == 9 then [(o.cases.length : Int), flagI o.els] else []))))
def encO (o : Opr) : List Int := encH o ++ o.cases.flatMap encC
def encL (l : List Opr) : List Int := (l.length : Int) :: l.flatMap encO
def encP (p : List (List Opr)) : List Int := ((p.length : Int) - 1) :: p.flatMap encL

/-! ### The plan that bytes make -/
def atB (B : List Int) (i : Nat) : Int := B.getD i 0
def casOne (B : List Int) (i : Nat) : Cas × Nat :=
  if atB B i % 2 = 1 then (⟨true, atB B (i + 1) % 9, atB B (i + 2)⟩, i + 3) else (⟨false, atB B (i + 1) % 9, 0⟩, i + 2)
def casesAt (B : List Int) (i : Nat) : Nat → List Cas × Nat
  | 0 => ([], i)
  | k + 1 => ((casesAt B i k).1 ++ [(casOne B (casesAt B i k).2).1], (casOne B (casesAt B i k).2).2)
def kindAt (B : List Int) (i : Nat) : Int := atB B i % 9 + 1
/-- The places of what stands behind the kind: n's, v's, and what is behind these. -/
def nPlace (B : List Int) (i : Nat) : Nat := if hasCh (kindAt B i) then i + 2 else i + 1
def vPlace (B : List Int) (i : Nat) : Nat := if kindAt B i == 1 then nPlace B i + 1 else nPlace B i
def ePlace (B : List Int) (i : Nat) : Nat := if hasV (kindAt B i) then vPlace B i + 1 else vPlace B i
def headAt (B : List Int) (i : Nat) : Opr :=
  ⟨kindAt B i, if hasCh (kindAt B i) then atB B (i + 1) % 9 else 0, if kindAt B i == 1 then atB B (nPlace B i) % 5 else 0, if hasV (kindAt B i) then atB B (vPlace B i) else 0, [], false⟩
def opOne (B : List Int) (i : Nat) : Opr × Nat :=
  if kindAt B i == 9 then
    ({ headAt B i with cases := (casesAt B (ePlace B i + 2) (atB B (ePlace B i) % 7).toNat).1, els := atB B (ePlace B i + 1) % 2 == 1 }, (casesAt B (ePlace B i + 2) (atB B (ePlace B i) % 7).toNat).2)
  else (headAt B i, ePlace B i)
def opsAt (B : List Int) (i : Nat) : Nat → List Opr × Nat
  | 0 => ([], i)
  | k + 1 => ((opsAt B i k).1 ++ [(opOne B (opsAt B i k).2).1], (opOne B (opsAt B i k).2).2)
def rowAt (B : List Int) (i : Nat) : List Opr × Nat := opsAt B (i + 1) (atB B i % 17).toNat
def rowsAt (B : List Int) (i : Nat) : Nat → List (List Opr) × Nat
  | 0 => ([], i)
  | g + 1 => ((rowsAt B i g).1 ++ [(rowAt B (rowsAt B i g).2).1], (rowAt B (rowsAt B i g).2).2)
def planOf (B : List Int) : List (List Opr) × Nat := rowsAt B 1 (atB B 0 % 8 + 1).toNat
def usedOf (B : List Int) : Nat := min (planOf B).2 B.length

/-- Bytes. -/
def IsBytes (B : List Int) : Prop := ∀ x ∈ B, 0 ≤ x ∧ x ≤ 255
theorem IsBytes.at {B : List Int} (h : IsBytes B) (i : Nat) : 0 ≤ atB B i ∧ atB B i ≤ 255 := by
  unfold atB
  rcases Nat.lt_or_ge i B.length with hi | hi
  · rw [List.getD_eq_getElem?_getD, List.getElem?_eq_getElem hi]
    exact h _ (List.getElem_mem hi)
  · rw [List.getD_eq_getElem?_getD, List.getElem?_eq_none hi]
    exact ⟨by decide, by decide⟩

/-! ### What bytes make is right -/
theorem casOne_right {B : List Int} (h : IsBytes B) (i : Nat) : rightC (casOne B i).1 = true := by
  have h1 := h.at (i + 1)
  have h2 := h.at (i + 2)
  unfold casOne
  split <;> simp [rightC] <;> omega
theorem casesAt_right {B : List Int} (h : IsBytes B) (i : Nat) : ∀ k, (casesAt B i k).1.all rightC = true
  | 0 => rfl
  | k + 1 => by
    show ((casesAt B i k).1 ++ [_]).all rightC = true
    rw [List.all_append, casesAt_right h i k]
    simp [casOne_right h]
theorem casesAt_length (B : List Int) (i : Nat) : ∀ k, (casesAt B i k).1.length = k
  | 0 => rfl
  | k + 1 => by
    show ((casesAt B i k).1 ++ [_]).length = _
    rw [List.length_append, casesAt_length B i k]
    rfl
theorem kindAt_in {B : List Int} (h : IsBytes B) (i : Nat) : 1 ≤ kindAt B i ∧ kindAt B i ≤ 9 := by
  have := h.at i
  unfold kindAt
  omega
theorem headAt_right {B : List Int} (h : IsBytes B) (i : Nat) : rightF (headAt B i) = true := by
  have h0 := kindAt_in h i
  have h1 := h.at (i + 1)
  have h2 := h.at (nPlace B i)
  have h3 := h.at (vPlace B i)
  unfold rightF headAt
  dsimp only
  by_cases a : hasCh (kindAt B i) = true <;> by_cases b : (kindAt B i == 1) = true <;> by_cases c : hasV (kindAt B i) = true <;> simp [a, b, c] <;> omega
theorem opOne_right {B : List Int} (h : IsBytes B) (i : Nat) : rightO (opOne B i).1 = true := by
  have hr := headAt_right h i
  unfold opOne rightO
  by_cases k : (kindAt B i == 9) = true
  · rw [if_pos k]
    dsimp only
    rw [casesAt_right h, Bool.and_true]
    have hl := casesAt_length B (ePlace B i + 2) (atB B (ePlace B i) % 7).toNat
    have hb := h.at (ePlace B i)
    unfold rightF at hr ⊢
    dsimp only at hr ⊢
    rw [hl]
    have hk : kindAt B i = 9 := by simpa using k
    have hk' : (headAt B i).kind = 9 := hk
    rw [hk'] at hr ⊢
    have e : (headAt B i).cases = [] := rfl
    rw [e] at hr
    simp only [List.length_nil] at hr
    simp [hasCh, hasV] at hr ⊢
    omega
  · rw [if_neg k]
    dsimp only
    rw [hr]
    rfl
theorem opsAt_right {B : List Int} (h : IsBytes B) (i : Nat) : ∀ k, (opsAt B i k).1.all rightO = true
  | 0 => rfl
  | k + 1 => by
    show ((opsAt B i k).1 ++ [_]).all rightO = true
    rw [List.all_append, opsAt_right h i k]
    simp [opOne_right h]
theorem opsAt_length (B : List Int) (i : Nat) : ∀ k, (opsAt B i k).1.length = k
  | 0 => rfl
  | k + 1 => by
    show ((opsAt B i k).1 ++ [_]).length = _
    rw [List.length_append, opsAt_length B i k]
    rfl
theorem rowsAt_right {B : List Int} (h : IsBytes B) (i : Nat) : ∀ g, (rowsAt B i g).1.all rightL = true
  | 0 => rfl
  | g + 1 => by
    show ((rowsAt B i g).1 ++ [_]).all rightL = true
    rw [List.all_append, rowsAt_right h i g]
    have hb := h.at (rowsAt B i g).2
    simp only [List.all_cons, List.all_nil, Bool.and_true, Bool.true_and]
    unfold rightL rowAt
    rw [opsAt_right h, opsAt_length]
    simp
    omega
theorem rowsAt_length (B : List Int) (i : Nat) : ∀ g, (rowsAt B i g).1.length = g
  | 0 => rfl
  | g + 1 => by
    show ((rowsAt B i g).1 ++ [_]).length = _
    rw [List.length_append, rowsAt_length B i g]
    rfl
theorem planOf_right {B : List Int} (h : IsBytes B) : rightP (planOf B).1 = true := by
  have hb := h.at 0
  unfold rightP planOf
  rw [rowsAt_right h, rowsAt_length]
  simp
  omega

/-! ### So many bytes are asked for as its own bytes are -/
theorem casOne_place (B : List Int) (i : Nat) : (casOne B i).2 = i + (encC (casOne B i).1).length := by
  unfold casOne
  split <;> simp [encC]
theorem casesAt_place (B : List Int) (i : Nat) : ∀ k, (casesAt B i k).2 = i + ((casesAt B i k).1.flatMap encC).length
  | 0 => by simp [casesAt]
  | k + 1 => by
    show (casOne B (casesAt B i k).2).2 = i + (((casesAt B i k).1 ++ [(casOne B (casesAt B i k).2).1]).flatMap encC).length
    rw [casOne_place, List.flatMap_append, List.length_append, casesAt_place B i k]
    simp
    omega
theorem ePlace_is (B : List Int) (i : Nat) : ePlace B i + (if kindAt B i == 9 then 2 else 0) = i + (encH (opOne B i).1).length := by
  have hk : (opOne B i).1.kind = kindAt B i := by unfold opOne; split <;> rfl
  unfold encH
  rw [hk]
  unfold ePlace vPlace nPlace
  by_cases a : hasCh (kindAt B i) = true <;> by_cases b : (kindAt B i == 1) = true <;> by_cases c : hasV (kindAt B i) = true <;> by_cases d : (kindAt B i == 9) = true <;> simp [a, b, c, d] <;> omega
theorem opOne_place (B : List Int) (i : Nat) : (opOne B i).2 = i + (encO (opOne B i).1).length := by
  have he := ePlace_is B i
  unfold encO
  rw [List.length_append]
  by_cases d : (kindAt B i == 9) = true
  · rw [if_pos d] at he
    unfold opOne at he ⊢
    rw [if_pos d] at he ⊢
    dsimp only at he ⊢
    rw [casesAt_place]
    omega
  · rw [if_neg d] at he
    unfold opOne at he ⊢
    rw [if_neg d] at he ⊢
    dsimp only at he ⊢
    have : (headAt B i).cases = [] := rfl
    rw [this]
    simp
    omega
theorem opsAt_place (B : List Int) (i : Nat) : ∀ k, (opsAt B i k).2 = i + ((opsAt B i k).1.flatMap encO).length
  | 0 => by simp [opsAt]
  | k + 1 => by
    show (opOne B (opsAt B i k).2).2 = i + (((opsAt B i k).1 ++ [(opOne B (opsAt B i k).2).1]).flatMap encO).length
    rw [opOne_place, List.flatMap_append, List.length_append, opsAt_place B i k]
    simp
    omega
theorem rowsAt_place (B : List Int) (i : Nat) : ∀ g, (rowsAt B i g).2 = i + ((rowsAt B i g).1.flatMap encL).length
  | 0 => by simp [rowsAt]
  | g + 1 => by
    show (rowAt B (rowsAt B i g).2).2 = i + (((rowsAt B i g).1 ++ [(rowAt B (rowsAt B i g).2).1]).flatMap encL).length
    rw [List.flatMap_append, List.length_append]
    unfold rowAt
    rw [opsAt_place, rowsAt_place B i g]
    simp [encL]
    omega
theorem planOf_place (B : List Int) : (planOf B).2 = (encP (planOf B).1).length := by
  unfold planOf encP
  rw [rowsAt_place, List.length_cons]
  omega

/-! ### A right plan comes back from its bytes -/
theorem at0 (pre t : List Int) (x : Int) : atB (pre ++ x :: t) pre.length = x := by simp [atB]
theorem at1 (pre t : List Int) (x y : Int) : atB (pre ++ x :: y :: t) (pre.length + 1) = y := by
  have := at0 (pre ++ [x]) t y
  simpa using this
theorem at2 (pre t : List Int) (x y z : Int) : atB (pre ++ x :: y :: z :: t) (pre.length + 2) = z := by
  have := at0 (pre ++ [x, y]) t z
  simpa using this
theorem casesAt_cons (B : List Int) (i : Nat) : ∀ k, casesAt B i (k + 1) = ((casOne B i).1 :: (casesAt B (casOne B i).2 k).1, (casesAt B (casOne B i).2 k).2)
  | 0 => rfl
  | k + 1 => by
    show ((casesAt B i (k + 1)).1 ++ [(casOne B (casesAt B i (k + 1)).2).1], (casOne B (casesAt B i (k + 1)).2).2) = _
    rw [casesAt_cons B i k]
    rfl
theorem opsAt_cons (B : List Int) (i : Nat) : ∀ k, opsAt B i (k + 1) = ((opOne B i).1 :: (opsAt B (opOne B i).2 k).1, (opsAt B (opOne B i).2 k).2)
  | 0 => rfl
  | k + 1 => by
    show ((opsAt B i (k + 1)).1 ++ [(opOne B (opsAt B i (k + 1)).2).1], (opOne B (opsAt B i (k + 1)).2).2) = _
    rw [opsAt_cons B i k]
    rfl
theorem rowsAt_cons (B : List Int) (i : Nat) : ∀ k, rowsAt B i (k + 1) = ((rowAt B i).1 :: (rowsAt B (rowAt B i).2 k).1, (rowsAt B (rowAt B i).2 k).2)
  | 0 => rfl
  | k + 1 => by
    show ((rowsAt B i (k + 1)).1 ++ [(rowAt B (rowsAt B i (k + 1)).2).1], (rowAt B (rowsAt B i (k + 1)).2).2) = _
    rw [rowsAt_cons B i k]
    rfl
theorem casOne_enc (pre post : List Int) (c : Cas) (h : rightC c = true) : casOne (pre ++ (encC c ++ post)) pre.length = (c, pre.length + (encC c).length) := by
  obtain ⟨s, ch, v⟩ := c
  unfold rightC at h
  simp at h
  cases s with
  | true =>
    have e : encC ⟨true, ch, v⟩ ++ post = 1 :: ch :: v :: post := rfl
    rw [e]
    unfold casOne
    rw [at0, at1, at2, if_pos (by decide), show ch % 9 = ch by omega]
    rfl
  | false =>
    have e : encC ⟨false, ch, v⟩ ++ post = 0 :: ch :: post := rfl
    rw [e]
    unfold casOne
    rw [at0, at1, if_neg (by decide), show ch % 9 = ch by omega]
    have hv : v = 0 := by simpa using h.2
    subst hv
    rfl
theorem casesAt_enc : ∀ (L : List Cas) (pre post : List Int), L.all rightC = true → casesAt (pre ++ (L.flatMap encC ++ post)) pre.length L.length = (L, pre.length + (L.flatMap encC).length)
  | [], pre, post, _ => by simp [casesAt]
  | c :: L, pre, post, h => by
    rw [List.all_cons, Bool.and_eq_true] at h
    rw [List.length_cons, casesAt_cons, List.flatMap_cons, List.append_assoc, casOne_enc pre _ c h.1]
    dsimp only
    have := casesAt_enc L (pre ++ encC c) post h.2
    rw [List.append_assoc, List.length_append] at this
    rw [this, List.length_append, Nat.add_assoc]
/-- What stands at the place of an op's kind. -/
theorem kindAt_is (pre t : List Int) (k : Int) (h : 1 ≤ k ∧ k ≤ 9) : kindAt (pre ++ (k - 1) :: t) pre.length = k := by
  unfold kindAt
  rw [at0]
  omega
theorem op_n (pre post : List Int) (n : Int) (h : 0 ≤ n ∧ n ≤ 4) : opOne (pre ++ (0 :: n :: post)) pre.length = (⟨1, 0, n, 0, [], false⟩, pre.length + 2) := by
  have hk : kindAt (pre ++ (0 :: n :: post)) pre.length = 1 := kindAt_is pre _ 1 (by omega)
  unfold opOne headAt ePlace vPlace nPlace
  rw [hk]
  simp [hasCh, hasV, at1]
  omega
theorem op_ch (pre post : List Int) (k ch : Int) (hk : k = 3 ∨ k = 5 ∨ k = 6 ∨ k = 7 ∨ k = 8) (h : 0 ≤ ch ∧ ch ≤ 8) : opOne (pre ++ ((k - 1) :: ch :: post)) pre.length = (⟨k, ch, 0, 0, [], false⟩, pre.length + 2) := by
  have hk' := kindAt_is pre (ch :: post) k (by omega)
  unfold opOne headAt ePlace vPlace nPlace
  rw [hk']
  have e : ch % 9 = ch := by omega
  rcases hk with rfl | rfl | rfl | rfl | rfl <;> simp [hasCh, hasV, at1, e]
theorem op_v (pre post : List Int) (k ch v : Int) (hk : k = 2 ∨ k = 4) (h : 0 ≤ ch ∧ ch ≤ 8) : opOne (pre ++ ((k - 1) :: ch :: v :: post)) pre.length = (⟨k, ch, 0, v, [], false⟩, pre.length + 3) := by
  have hk' := kindAt_is pre (ch :: v :: post) k (by omega)
  unfold opOne headAt ePlace vPlace nPlace
  rw [hk']
  have e : ch % 9 = ch := by omega
  rcases hk with rfl | rfl <;> simp [hasCh, hasV, at1, at2, e]
theorem op_sel (pre post : List Int) (cases : List Cas) (els : Bool) (hl : cases.length ≤ 6) (hc : cases.all rightC = true) : opOne (pre ++ (8 :: (cases.length : Int) :: flagI els :: (cases.flatMap encC ++ post))) pre.length = (⟨9, 0, 0, 0, cases, els⟩, pre.length + 3 + (cases.flatMap encC).length) := by
  have hk : kindAt (pre ++ (8 :: (cases.length : Int) :: flagI els :: (cases.flatMap encC ++ post))) pre.length = 9 := kindAt_is pre _ 9 (by omega)
  have he : ePlace (pre ++ (8 :: (cases.length : Int) :: flagI els :: (cases.flatMap encC ++ post))) pre.length = pre.length + 1 := by
    unfold ePlace vPlace nPlace
    rw [hk]
    rfl
  have hh : headAt (pre ++ (8 :: (cases.length : Int) :: flagI els :: (cases.flatMap encC ++ post))) pre.length = ⟨9, 0, 0, 0, [], false⟩ := by
    unfold headAt
    rw [hk]
    rfl
  unfold opOne
  rw [hk, he, hh, if_pos (by rfl), at1, Nat.add_assoc, at2]
  have e1 : ((cases.length : Int) % 7).toNat = cases.length := by omega
  have e2 : (flagI els % 2 == 1) = els := by cases els <;> rfl
  have := casesAt_enc cases (pre ++ [8, (cases.length : Int), flagI els]) post hc
  rw [List.append_assoc] at this
  have e3 : ([8, (cases.length : Int), flagI els] ++ (cases.flatMap encC ++ post)) = 8 :: (cases.length : Int) :: flagI els :: (cases.flatMap encC ++ post) := rfl
  have e4 : (pre ++ [8, (cases.length : Int), flagI els]).length = pre.length + (1 + 2) := by simp
  rw [e3, e4] at this
  rw [e1, e2, this]
theorem opOne_enc (pre post : List Int) (o : Opr) (h : rightO o = true) : opOne (pre ++ (encO o ++ post)) pre.length = (o, pre.length + (encO o).length) := by
  obtain ⟨kind, ch, n, v, cs, els⟩ := o
  unfold rightO at h
  rw [Bool.and_eq_true] at h
  obtain ⟨hf, hc⟩ := h
  unfold rightF at hf
  dsimp only at hf hc
  have hk : kind = 1 ∨ (kind = 2 ∨ kind = 4) ∨ (kind = 3 ∨ kind = 5 ∨ kind = 6 ∨ kind = 7 ∨ kind = 8) ∨ kind = 9 := by
    simp only [Bool.and_eq_true, decide_eq_true_eq] at hf
    omega
  rcases hk with rfl | hk | hk | rfl
  · simp [hasCh, hasV] at hf
    obtain ⟨rfl, rfl, rfl, rfl, hn⟩ : ch = 0 ∧ v = 0 ∧ cs = [] ∧ els = false ∧ (0 ≤ n ∧ n ≤ 4) := by grind
    exact op_n pre post n hn
  · have hx : n = 0 ∧ cs = [] ∧ els = false ∧ (0 ≤ ch ∧ ch ≤ 8) := by
      rcases hk with rfl | rfl <;> simp [hasCh, hasV] at hf <;> grind
    obtain ⟨rfl, rfl, rfl, hch⟩ := hx
    rw [show encO ⟨kind, ch, 0, v, [], false⟩ ++ post = (kind - 1) :: ch :: v :: post from by rcases hk with rfl | rfl <;> rfl, op_v pre post kind ch v hk hch]
    rcases hk with rfl | rfl <;> rfl
  · have hx : n = 0 ∧ v = 0 ∧ cs = [] ∧ els = false ∧ (0 ≤ ch ∧ ch ≤ 8) := by
      rcases hk with rfl | rfl | rfl | rfl | rfl <;> simp [hasCh, hasV] at hf <;> grind
    obtain ⟨rfl, rfl, rfl, rfl, hch⟩ := hx
    rw [show encO ⟨kind, ch, 0, 0, [], false⟩ ++ post = (kind - 1) :: ch :: post from by rcases hk with rfl | rfl | rfl | rfl | rfl <;> rfl, op_ch pre post kind ch hk hch]
    rcases hk with rfl | rfl | rfl | rfl | rfl <;> rfl
  · simp [hasCh, hasV] at hf
    obtain ⟨rfl, rfl, rfl, hl⟩ : ch = 0 ∧ v = 0 ∧ n = 0 ∧ cs.length ≤ 6 := by grind
    have e : encO ⟨9, 0, 0, 0, cs, els⟩ = 8 :: (cs.length : Int) :: flagI els :: cs.flatMap encC := rfl
    rw [e]
    have := op_sel pre post cs els hl hc
    rw [show (8 :: (cs.length : Int) :: flagI els :: cs.flatMap encC) ++ post = 8 :: (cs.length : Int) :: flagI els :: (cs.flatMap encC ++ post) from rfl, this]
    simp
    omega
theorem opsAt_enc : ∀ (L : List Opr) (pre post : List Int), L.all rightO = true → opsAt (pre ++ (L.flatMap encO ++ post)) pre.length L.length = (L, pre.length + (L.flatMap encO).length)
  | [], pre, post, _ => by simp [opsAt]
  | c :: L, pre, post, h => by
    rw [List.all_cons, Bool.and_eq_true] at h
    rw [List.length_cons, opsAt_cons, List.flatMap_cons, List.append_assoc, opOne_enc pre _ c h.1]
    dsimp only
    have := opsAt_enc L (pre ++ encO c) post h.2
    rw [List.append_assoc, List.length_append] at this
    rw [this, List.length_append, Nat.add_assoc]
theorem rowAt_enc (pre post : List Int) (l : List Opr) (h : rightL l = true) : rowAt (pre ++ (encL l ++ post)) pre.length = (l, pre.length + (encL l).length) := by
  unfold rightL at h
  simp only [Bool.and_eq_true, decide_eq_true_eq] at h
  unfold rowAt encL
  rw [List.cons_append, at0, show ((l.length : Int) % 17).toNat = l.length by omega]
  have := opsAt_enc l (pre ++ [(l.length : Int)]) post h.1
  rw [List.append_assoc, List.length_append] at this
  rw [show [(l.length : Int)] ++ (l.flatMap encO ++ post) = (l.length : Int) :: (l.flatMap encO ++ post) from rfl, show [(l.length : Int)].length = 1 from rfl] at this
  rw [this]
  simp
  omega
theorem rowsAt_enc : ∀ (p : List (List Opr)) (pre post : List Int), p.all rightL = true → rowsAt (pre ++ (p.flatMap encL ++ post)) pre.length p.length = (p, pre.length + (p.flatMap encL).length)
  | [], pre, post, _ => by simp [rowsAt]
  | c :: L, pre, post, h => by
    rw [List.all_cons, Bool.and_eq_true] at h
    rw [List.length_cons, rowsAt_cons, List.flatMap_cons, List.append_assoc, rowAt_enc pre _ c h.1]
    dsimp only
    have := rowsAt_enc L (pre ++ encL c) post h.2
    rw [List.append_assoc, List.length_append] at this
    rw [this, List.length_append, Nat.add_assoc]
/-- Of a right plan's bytes, whatever stands behind them, the plan comes back, and just these bytes are asked for. -/
theorem planOf_enc (p : List (List Opr)) (post : List Int) (h : rightP p = true) : planOf (encP p ++ post) = (p, (encP p).length) := by
  unfold rightP at h
  simp only [Bool.and_eq_true, decide_eq_true_eq] at h
  have h0 := at0 [] (p.flatMap encL ++ post) ((p.length : Int) - 1)
  rw [List.nil_append] at h0
  unfold planOf encP
  rw [List.cons_append, show atB (((p.length : Int) - 1) :: (p.flatMap encL ++ post)) 0 = (p.length : Int) - 1 from h0, show (((p.length : Int) - 1) % 8 + 1).toNat = p.length by omega]
  have := rowsAt_enc p [(p.length : Int) - 1] post h.1.1
  rw [show [(p.length : Int) - 1] ++ (p.flatMap encL ++ post) = ((p.length : Int) - 1) :: (p.flatMap encL ++ post) from rfl, show [(p.length : Int) - 1].length = 1 from rfl] at this
  rw [this, List.length_cons, Nat.add_comm]
theorem usedOf_enc (p : List (List Opr)) (post : List Int) (h : rightP p = true) : usedOf (encP p ++ post) = (encP p).length := by
  unfold usedOf
  rw [planOf_enc p post h, List.length_append]
  dsimp only
  omega
/-- How many bytes were asked for: no more than there are; all, or as many as the plan's own. -/
theorem usedOf_back (B : List Int) : usedOf B ≤ B.length ∧ (usedOf B = B.length ∨ usedOf B = (encP (planOf B).1).length) := by
  unfold usedOf
  rw [planOf_place]
  omega

/-! ### A right plan's bytes are bytes -/
theorem encC_bytes {c : Cas} (h : rightC c = true) : IsBytes (encC c) := by
  unfold rightC at h
  simp at h
  intro x hx
  unfold encC flagI at hx
  cases hs : c.send <;> simp [hs] at hx <;> omega
theorem flat_bytes {α : Type} {f : α → List Int} {q : α → Bool} (hf : ∀ x, q x = true → IsBytes (f x)) {L : List α} (h : L.all q = true) : IsBytes (L.flatMap f) := by
  intro x hx
  obtain ⟨c, hc, hx'⟩ := List.mem_flatMap.1 hx
  exact hf c (List.all_eq_true.1 h c hc) x hx'
theorem encO_bytes {o : Opr} (h : rightO o = true) : IsBytes (encO o) := by
  unfold rightO at h
  rw [Bool.and_eq_true] at h
  intro x hx
  unfold encO at hx
  rcases List.mem_append.1 hx with h1 | h1
  · have hf := h.1
    unfold rightF at hf
    simp only [Bool.and_eq_true, decide_eq_true_eq] at hf
    unfold encH at h1
    simp only [List.mem_cons, List.mem_append] at h1
    rcases h1 with h1 | h1 | h1 | h1 | h1
    · omega
    · split at h1 <;> simp at h1; omega
    · split at h1 <;> simp at h1; omega
    · split at h1 <;> simp at h1; omega
    · split at h1
      · simp [flagI] at h1
        rcases h1 with h1 | h1
        · omega
        · split at h1 <;> omega
      · simp at h1
  · exact flat_bytes (fun c hc => encC_bytes hc) h.2 x h1
theorem encL_bytes {l : List Opr} (h : rightL l = true) : IsBytes (encL l) := by
  unfold rightL at h
  simp only [Bool.and_eq_true, decide_eq_true_eq] at h
  intro x hx
  unfold encL at hx
  rcases List.mem_cons.1 hx with h1 | h1
  · omega
  · exact flat_bytes (fun c hc => encO_bytes hc) h.1 x h1
theorem encP_bytes {p : List (List Opr)} (h : rightP p = true) : IsBytes (encP p) := by
  unfold rightP at h
  simp only [Bool.and_eq_true, decide_eq_true_eq] at h
  intro x hx
  unfold encP at hx
  rcases List.mem_cons.1 hx with h1 | h1
  · omega
  · exact flat_bytes (fun c hc => encL_bytes hc) h.1.1 x h1

end Go.Proofs.YtfghabjpcjcllaaDoor
/- Equality of plans as an answer; answers over lists, by number. Pure mathematics. -/
namespace Go.Proofs.YtfghabjpcjcllaaDoor

theorem all_yes {α : Type} {q : α → Bool} {L : List α} (h : ∀ (i : Nat) x, L[i]? = some x → q x = true) : L.all q = true :=
  List.all_eq_true.2 fun x hx => by
    obtain ⟨i, hi⟩ := List.mem_iff_getElem?.1 hx
    exact h i x hi
theorem all_no {α : Type} {q : α → Bool} {L : List α} {i : Nat} {x : α} (h : L[i]? = some x) (hq : q x = false) : L.all q = false := by
  rw [Bool.eq_false_iff]
  intro ha
  rw [List.all_eq_true.1 ha x (List.mem_of_getElem? h)] at hq
  cases hq

/-- Two lists are one, by what two things are one. -/
def sameBy {α : Type} (q : α → α → Bool) : List α → List α → Bool
  | [], [] => true
  | x :: L, y :: M => q x y && sameBy q L M
  | _, _ => false
theorem sameBy_yes {α : Type} {q : α → α → Bool} : ∀ {L M : List α}, L.length = M.length → (∀ (i : Nat) x y, L[i]? = some x → M[i]? = some y → q x y = true) → sameBy q L M = true
  | [], [], _, _ => rfl
  | x :: L, y :: M, hl, h => by
    show (q x y && sameBy q L M) = true
    rw [h 0 x y rfl rfl, Bool.true_and]
    exact sameBy_yes (by simpa using hl) fun i a b ha hb => h (i + 1) a b (by simpa using ha) (by simpa using hb)
  | [], _ :: _, hl, _ => by simp at hl
  | _ :: _, [], hl, _ => by simp at hl
theorem sameBy_len {α : Type} {q : α → α → Bool} : ∀ {L M : List α}, L.length ≠ M.length → sameBy q L M = false
  | [], [], h => absurd rfl h
  | x :: L, y :: M, h => by
    show (q x y && sameBy q L M) = false
    rw [sameBy_len (L := L) (M := M) (by simpa using h), Bool.and_false]
  | [], _ :: _, _ => rfl
  | _ :: _, [], _ => rfl
theorem sameBy_no {α : Type} {q : α → α → Bool} : ∀ {L M : List α} {i : Nat} {x y : α}, L[i]? = some x → M[i]? = some y → q x y = false → sameBy q L M = false
  | x :: L, y :: M, 0, a, b, ha, hb, h => by
    show (q x y && sameBy q L M) = false
    obtain rfl : x = a := by simpa using ha
    obtain rfl : y = b := by simpa using hb
    rw [h, Bool.false_and]
  | x :: L, y :: M, i + 1, a, b, ha, hb, h => by
    show (q x y && sameBy q L M) = false
    rw [sameBy_no (L := L) (M := M) (i := i) (by simpa using ha) (by simpa using hb) h, Bool.and_false]
  | [], _, _, _, _, ha, _, _ => by simp at ha
  | _ :: _, [], _, _, _, _, hb, _ => by simp at hb
theorem sameBy_refl {α : Type} {q : α → α → Bool} (hq : ∀ x, q x x = true) (L : List α) : sameBy q L L = true :=
  sameBy_yes rfl fun i x y hx hy => by
    rw [hx] at hy
    obtain rfl : x = y := by simpa using hy
    exact hq x

def sameC (a b : Cas) : Bool := a.send == b.send && a.ch == b.ch && a.v == b.v
/-- An op's own fields, its cases aside. -/
def sameF (a b : Opr) : Bool := a.kind == b.kind && a.ch == b.ch && a.n == b.n && a.v == b.v && a.els == b.els && a.cases.length == b.cases.length
def sameO (a b : Opr) : Bool := sameF a b && sameBy sameC a.cases b.cases
def sameL (a b : List Opr) : Bool := sameBy sameO a b
def sameP (a b : List (List Opr)) : Bool := sameBy sameL a b
theorem sameC_refl (a : Cas) : sameC a a = true := by simp [sameC]
theorem sameO_refl (a : Opr) : sameO a a = true := by simp [sameO, sameF, sameBy_refl sameC_refl]
theorem sameL_refl (a : List Opr) : sameL a a = true := sameBy_refl sameO_refl a
theorem sameP_refl (a : List (List Opr)) : sameP a a = true := sameBy_refl sameL_refl a

end Go.Proofs.YtfghabjpcjcllaaDoor
/- Texts as lists of bytes: pieces between bytes, and these joined; numbers. Pure mathematics. -/
namespace Go.Proofs.YtfghabjpcjcllaaDoor

abbrev Tx := List UInt8

/-! ### Pieces -/
/-- The pieces of s between bytes c, of which the first one has begun with cur. -/
def splitG (c : UInt8) (cur : Tx) : Tx → List Tx
  | [] => [cur]
  | x :: s => if x = c then cur :: splitG c [] s else splitG c (cur ++ [x]) s
theorem splitG_cons (c x : UInt8) (cur s : Tx) : splitG c cur (x :: s) = if x = c then cur :: splitG c [] s else splitG c (cur ++ [x]) s := rfl
def splitT (c : UInt8) (s : Tx) : List Tx := splitG c [] s
/-- Pieces with c between. -/
def joinT (c : UInt8) : List Tx → Tx
  | [] => []
  | [w] => w
  | w :: v :: ws => w ++ c :: joinT c (v :: ws)
theorem joinT_cons (c : UInt8) (w : Tx) {ws : List Tx} (h : ws ≠ []) : joinT c (w :: ws) = w ++ c :: joinT c ws := by
  cases ws with
  | nil => exact absurd rfl h
  | cons v ws => rfl
theorem joinT_snoc (c : UInt8) (w : Tx) : ∀ {ws : List Tx}, ws ≠ [] → joinT c (ws ++ [w]) = joinT c ws ++ c :: w
  | [], h => absurd rfl h
  | [v], _ => by simp [joinT]
  | v :: u :: ws, _ => by
    rw [List.cons_append, joinT_cons c v (by simp), joinT_cons c v (by simp), joinT_snoc c w (ws := u :: ws) (by simp)]
    simp
theorem splitG_ne (c : UInt8) : ∀ (s cur : Tx), splitG c cur s ≠ []
  | [], cur => by simp [splitG]
  | x :: s, cur => by
    unfold splitG
    split
    · simp
    · exact splitG_ne c s _
theorem join_split (c : UInt8) : ∀ (s cur : Tx), joinT c (splitG c cur s) = cur ++ s
  | [], cur => by simp [splitG, joinT]
  | x :: s, cur => by
    unfold splitG
    split
    · rename_i h
      rw [joinT_cons c cur (splitG_ne c s []), join_split c s [], h]
      rfl
    · rw [join_split c s]
      simp
theorem splitG_word (c : UInt8) : ∀ (w cur : Tx), c ∉ w → splitG c cur w = [cur ++ w]
  | [], cur, _ => by simp [splitG]
  | x :: w, cur, h => by
    unfold splitG
    rw [if_neg (fun e => h (by simp [e])), splitG_word c w _ (fun e => h (by simp [e]))]
    simp
theorem splitG_word_then (c : UInt8) (s : Tx) : ∀ (w cur : Tx), c ∉ w → splitG c cur (w ++ c :: s) = (cur ++ w) :: splitG c [] s
  | [], cur, _ => by simp [splitG]
  | x :: w, cur, h => by
    rw [List.cons_append]
    rw [splitG_cons, if_neg (fun e => h (by simp [e])), splitG_word_then c s w _ (fun e => h (by simp [e]))]
    simp
theorem split_join (c : UInt8) : ∀ {ws : List Tx}, ws ≠ [] → (∀ w ∈ ws, c ∉ w) → splitT c (joinT c ws) = ws
  | [], h, _ => absurd rfl h
  | [w], _, h => by
    show splitG c [] w = [w]
    rw [splitG_word c w [] (h w (by simp))]
    rfl
  | w :: v :: ws, _, h => by
    show splitG c [] (w ++ c :: joinT c (v :: ws)) = _
    rw [splitG_word_then c _ w [] (h w (by simp))]
    have := split_join c (ws := v :: ws) (by simp) (fun u hu => h u (by simp [hu]))
    unfold splitT at this
    rw [this]
    rfl
/-- No piece holds the byte. -/
theorem splitG_free (c : UInt8) : ∀ (s cur : Tx), c ∉ cur → ∀ w ∈ splitG c cur s, c ∉ w
  | [], cur, h, w, hw => by
    have : w = cur := by simpa [splitG] using hw
    subst this
    exact h
  | x :: s, cur, h, w, hw => by
    unfold splitG at hw
    split at hw
    · rcases List.mem_cons.1 hw with e | e
      · exact e ▸ h
      · exact splitG_free c s [] (by simp) w e
    · rename_i hx
      exact splitG_free c s _ (by simp; exact ⟨h, fun e => hx e.symm⟩) w hw

/-- Each line with the byte at its end. -/
def linesT (c : UInt8) (ls : List Tx) : Tx := ls.flatMap fun l => l ++ [c]
theorem linesT_cons (c : UInt8) (l : Tx) (ls : List Tx) : linesT c (l :: ls) = l ++ c :: linesT c ls := by simp [linesT]
theorem linesT_append (c : UInt8) (ls ms : List Tx) : linesT c (ls ++ ms) = linesT c ls ++ linesT c ms := by simp [linesT]
theorem split_lines (c : UInt8) : ∀ (ls : List Tx), (∀ l ∈ ls, c ∉ l) → splitT c (linesT c ls) = ls ++ [[]]
  | [], _ => rfl
  | l :: ls, h => by
    rw [linesT_cons]
    show splitG c [] (l ++ c :: linesT c ls) = _
    rw [splitG_word_then c _ l [] (h l (by simp))]
    have := split_lines c ls (fun u hu => h u (by simp [hu]))
    unfold splitT at this
    rw [this]
    rfl
/-- Pieces of which the last one is empty: lines. -/
theorem join_lines (c : UInt8) : ∀ (ls : List Tx), joinT c (ls ++ [[]]) = linesT c ls
  | [] => rfl
  | l :: ls => by
    rw [List.cons_append, joinT_cons c l (by simp), join_lines c ls, linesT_cons]

/-! ### Numbers -/
def dig (d : Nat) : UInt8 := UInt8.ofNat (48 + d)
theorem dig_nat {d : Nat} (h : d < 10) : (dig d).toNat = 48 + d := by
  unfold dig
  rw [UInt8.toNat_ofNat']
  omega
theorem dec_small {u : Nat} (h : u < 10) : Lib.decDigits u = [dig u] := by
  rw [Lib.decDigits.eq_def, dif_pos h]
  rfl
theorem dec_great {u : Nat} (h : 10 ≤ u) : Lib.decDigits u = Lib.decDigits (u / 10) ++ [dig (u % 10)] := by
  rw [Lib.decDigits.eq_def, dif_neg (by omega)]
  rfl
def numT (n : Int) : Tx := Lib.itoa n
/-- A word as a number without noughts ahead, of at most three digits; -1: it is none. -/
def digG (n : Int) : Tx → Int
  | [] => n
  | x :: r => if x < 48 ∨ 57 < x then -1 else digG (n * 10 + (x.toNat : Int) - 48) r
def digV (w : Tx) : Int := if w.length < 1 ∨ 3 < w.length ∨ (1 < w.length ∧ w.getD 0 0 = 48) then -1 else digG 0 w
theorem byte_of {x : UInt8} (h : ¬ (x < 48 ∨ 57 < x)) : ∃ d : Nat, d < 10 ∧ x = dig d ∧ (x.toNat : Int) - 48 = d := by
  have h1 : 48 ≤ x.toNat := by
    rcases Nat.lt_or_ge x.toNat 48 with h1 | h1
    · exact absurd (Or.inl (UInt8.lt_iff_toNat_lt.2 (show x.toNat < (48 : UInt8).toNat from h1))) h
    · exact h1
  have h2 : x.toNat ≤ 57 := by
    rcases Nat.lt_or_ge 57 x.toNat with h1 | h1
    · exact absurd (Or.inr (UInt8.lt_iff_toNat_lt.2 (show (57 : UInt8).toNat < x.toNat from h1))) h
    · exact h1
  refine ⟨x.toNat - 48, by omega, ?_, by omega⟩
  unfold dig
  rw [show 48 + (x.toNat - 48) = x.toNat by omega]
  simp
theorem byte_is {d : Nat} (h : d < 10) : ¬ (dig d < 48 ∨ 57 < dig d) ∧ ((dig d).toNat : Int) - 48 = d := by
  have e := dig_nat h
  refine ⟨fun hh => ?_, by omega⟩
  rcases hh with hh | hh
  · have := UInt8.lt_iff_toNat_lt.1 hh
    rw [e] at this
    have : (48 : UInt8).toNat = 48 := rfl
    omega
  · have := UInt8.lt_iff_toNat_lt.1 hh
    rw [e] at this
    have : (57 : UInt8).toNat = 57 := rfl
    omega
theorem itoa_one {d : Nat} (h : d < 10) : numT (d : Int) = [dig d] := by
  unfold numT Lib.itoa
  rw [if_neg (by omega), show ((d : Int)).toNat = d by omega, dec_small h]
theorem itoa_two {a b : Nat} (ha : 1 ≤ a ∧ a < 10) (hb : b < 10) : numT ((a * 10 + b : Nat) : Int) = [dig a, dig b] := by
  unfold numT Lib.itoa
  rw [if_neg (by omega), show (((a * 10 + b : Nat) : Int)).toNat = a * 10 + b by omega, dec_great (by omega), show (a * 10 + b) / 10 = a by omega, show (a * 10 + b) % 10 = b by omega, dec_small ha.2]
  rfl
theorem itoa_three {a b c : Nat} (ha : 1 ≤ a ∧ a < 10) (hb : b < 10) (hc : c < 10) : numT ((a * 100 + b * 10 + c : Nat) : Int) = [dig a, dig b, dig c] := by
  unfold numT Lib.itoa
  rw [if_neg (by omega), show (((a * 100 + b * 10 + c : Nat) : Int)).toNat = a * 100 + b * 10 + c by omega, dec_great (by omega), show (a * 100 + b * 10 + c) / 10 = a * 10 + b by omega, show (a * 100 + b * 10 + c) % 10 = c by omega,
    dec_great (by omega), show (a * 10 + b) / 10 = a by omega, show (a * 10 + b) % 10 = b by omega, dec_small ha.2]
  rfl
theorem first_digit {a : Nat} (ha : 1 ≤ a ∧ a < 10) : dig a ≠ 48 := fun e => by
  have := congrArg UInt8.toNat e
  rw [dig_nat ha.2] at this
  have : (48 : UInt8).toNat = 48 := rfl
  omega
/-- A number that is written is read. -/
theorem digV_num {n : Int} (h : 0 ≤ n ∧ n ≤ 999) : digV (numT n) = n := by
  obtain ⟨m, rfl⟩ : ∃ m : Nat, n = m := ⟨n.toNat, by omega⟩
  rcases (show m < 10 ∨ (10 ≤ m ∧ m < 100) ∨ (100 ≤ m ∧ m < 1000) by omega) with h1 | h1 | h1
  · rw [itoa_one h1]
    unfold digV
    rw [if_neg (by simp)]
    simp only [digG]
    rw [if_neg (byte_is h1).1, show (0 : Int) * 10 + ((dig m).toNat : Int) - 48 = 0 * 10 + (((dig m).toNat : Int) - 48) by omega, (byte_is h1).2]
    omega
  · obtain ⟨a, b, ha, hb, rfl⟩ : ∃ a b : Nat, (1 ≤ a ∧ a < 10) ∧ b < 10 ∧ m = a * 10 + b := ⟨m / 10, m % 10, by omega, by omega, by omega⟩
    rw [itoa_two ha hb]
    have k1 := byte_is ha.2
    have k2 := byte_is hb
    unfold digV
    rw [if_neg (by simp; exact first_digit ha)]
    simp only [digG]
    rw [if_neg k1.1, if_neg k2.1]
    omega
  · obtain ⟨a, b, c, ha, hb, hc, rfl⟩ : ∃ a b c : Nat, (1 ≤ a ∧ a < 10) ∧ b < 10 ∧ c < 10 ∧ m = a * 100 + b * 10 + c := ⟨m / 100, m / 10 % 10, m % 10, by omega, by omega, by omega, by omega⟩
    rw [itoa_three ha hb hc]
    have k1 := byte_is ha.2
    have k2 := byte_is hb
    have k3 := byte_is hc
    unfold digV
    rw [if_neg (by simp; exact first_digit ha)]
    simp only [digG]
    rw [if_neg k1.1, if_neg k2.1, if_neg k3.1]
    omega
theorem digG_neg : ∀ (w : Tx) (n : Int), 0 ≤ n → digG n w = -1 ∨ 0 ≤ digG n w
  | [], n, h => Or.inr h
  | x :: w, n, h => by
    unfold digG
    split
    · exact Or.inl rfl
    · rename_i hx
      obtain ⟨d, _, _, hd⟩ := byte_of hx
      exact digG_neg w _ (by omega)
theorem digV_neg (w : Tx) : digV w = -1 ∨ 0 ≤ digV w := by
  unfold digV
  split
  · exact Or.inl rfl
  · exact digG_neg w 0 (by omega)
/-- What is read is written so. -/
theorem num_digV {w : Tx} (h : 0 ≤ digV w) : numT (digV w) = w ∧ digV w ≤ 999 := by
  unfold digV at h ⊢
  split at h
  · omega
  rename_i hl
  rw [if_neg hl]
  match w, hl, h with
  | [], hl, _ => exact absurd (Or.inl (by simp)) hl
  | [x], hl, h =>
    simp only [digG] at h ⊢
    split at h
    · omega
    rename_i hx
    rw [if_neg hx]
    obtain ⟨d, h1, h2, h3⟩ := byte_of hx
    rw [show (0 : Int) * 10 + (x.toNat : Int) - 48 = (d : Int) by omega, itoa_one h1, ← h2]
    exact ⟨rfl, by omega⟩
  | [x, y], hl, h =>
    simp only [digG] at h ⊢
    split at h
    · omega
    rename_i hx
    split at h
    · omega
    rename_i hy
    rw [if_neg hx, if_neg hy]
    obtain ⟨d, h1, h2, h3⟩ := byte_of hx
    obtain ⟨e, i1, i2, i3⟩ := byte_of hy
    have hd : 1 ≤ d := by
      rcases Nat.eq_zero_or_pos d with h0 | h0
      · subst h0
        exact absurd (Or.inr (Or.inr ⟨by simp, h2⟩)) hl
      · exact h0
    rw [show ((0 : Int) * 10 + (x.toNat : Int) - 48) * 10 + (y.toNat : Int) - 48 = ((d * 10 + e : Nat) : Int) by omega, itoa_two ⟨hd, h1⟩ i1, ← h2, ← i2]
    exact ⟨rfl, by omega⟩
  | [x, y, z], hl, h =>
    simp only [digG] at h ⊢
    split at h
    · omega
    rename_i hx
    split at h
    · omega
    rename_i hy
    split at h
    · omega
    rename_i hz
    rw [if_neg hx, if_neg hy, if_neg hz]
    obtain ⟨d, h1, h2, h3⟩ := byte_of hx
    obtain ⟨e, i1, i2, i3⟩ := byte_of hy
    obtain ⟨f, j1, j2, j3⟩ := byte_of hz
    have hd : 1 ≤ d := by
      rcases Nat.eq_zero_or_pos d with h0 | h0
      · subst h0
        exact absurd (Or.inr (Or.inr ⟨by simp, h2⟩)) hl
      · exact h0
    rw [show (((0 : Int) * 10 + (x.toNat : Int) - 48) * 10 + (y.toNat : Int) - 48) * 10 + (z.toNat : Int) - 48 = ((d * 100 + e * 10 + f : Nat) : Int) by omega, itoa_three ⟨hd, h1⟩ i1 j1, ← h2, ← i2, ← j2]
    exact ⟨rfl, by omega⟩
  | _ :: _ :: _ :: _ :: _, hl, _ => exact absurd (Or.inr (Or.inl (by simp))) hl
/-- A number's text holds no other byte than digits. -/
theorem num_free {n : Int} (h : 0 ≤ n ∧ n ≤ 999) {c : UInt8} (hc : c < 48 ∨ 57 < c) : c ∉ numT n := by
  obtain ⟨m, rfl⟩ : ∃ m : Nat, n = m := ⟨n.toNat, by omega⟩
  have ne : ∀ d : Nat, d < 10 → c ≠ dig d := fun d hd e => (byte_is hd).1 (e ▸ hc)
  rcases (show m < 10 ∨ (10 ≤ m ∧ m < 100) ∨ (100 ≤ m ∧ m < 1000) by omega) with h1 | h1 | h1
  · rw [itoa_one h1]
    simp [ne m h1]
  · obtain ⟨a, b, ha, hb, rfl⟩ : ∃ a b : Nat, (1 ≤ a ∧ a < 10) ∧ b < 10 ∧ m = a * 10 + b := ⟨m / 10, m % 10, by omega, by omega, by omega⟩
    rw [itoa_two ha hb]
    simp [ne a ha.2, ne b hb]
  · obtain ⟨a, b, c', ha, hb, hc', rfl⟩ : ∃ a b c : Nat, (1 ≤ a ∧ a < 10) ∧ b < 10 ∧ c < 10 ∧ m = a * 100 + b * 10 + c := ⟨m / 100, m / 10 % 10, m % 10, by omega, by omega, by omega, by omega⟩
    rw [itoa_three ha hb hc']
    simp [ne a ha.2, ne b hb, ne c' hc']

end Go.Proofs.YtfghabjpcjcllaaDoor
/- What a right op, a right case has. Pure mathematics; cut out of s10. -/
namespace Go.Proofs.YtfghabjpcjcllaaDoor

theorem rightC_in {x : Cas} (h : rightC x = true) : 0 ≤ x.ch ∧ x.ch ≤ 8 ∧ 0 ≤ x.v ∧ x.v ≤ 255 := by
  unfold rightC at h
  simp at h
  omega
theorem rightO_has {o : Opr} (h : rightO o = true) : 1 ≤ o.kind ∧ o.kind ≤ 9 ∧ 0 ≤ o.ch ∧ o.ch ≤ 8 ∧ 0 ≤ o.n ∧ o.n ≤ 4 ∧ 0 ≤ o.v ∧ o.v ≤ 255 ∧ o.cases.length ≤ 6 ∧ (hasCh o.kind = true ∨ o.ch = 0) ∧ (hasV o.kind = true ∨ o.v = 0) ∧ (o.kind = 1 ∨ o.n = 0) ∧ (o.kind = 9 ∨ (o.els = false ∧ o.cases.length = 0)) ∧ o.cases.all rightC = true := by
  unfold rightO rightF at h
  rw [Bool.and_eq_true] at h
  obtain ⟨h, hc⟩ := h
  simp only [Bool.and_eq_true, Bool.or_eq_true, decide_eq_true_eq, beq_iff_eq, Bool.not_eq_true'] at h
  grind

end Go.Proofs.YtfghabjpcjcllaaDoor
/- An op's words, and words as an op. Pure mathematics. -/
namespace Go.Proofs.YtfghabjpcjcllaaDoor

def wMake : Tx := [109, 97, 107, 101]
def wSend : Tx := [115, 101, 110, 100]
def wRecv : Tx := [114, 101, 99, 118]
def wTry : Tx := [116, 114, 121]
def wClose : Tx := [99, 108, 111, 115, 101]
def wLen : Tx := [108, 101, 110]
def wCap : Tx := [99, 97, 112]
def wSelect : Tx := [115, 101, 108, 101, 99, 116]
def wBar : Tx := [124]
def wElse : Tx := [101, 108, 115, 101]
def wGo : Tx := [103, 111]

/-! ### An op's words -/
def headW (k : Int) : List Tx :=
  if k = 1 then [wMake] else if k = 2 then [wSend] else if k = 3 then [wRecv] else if k = 4 then [wTry, wSend] else if k = 5 then [wTry, wRecv] else if k = 6 then [wClose] else if k = 7 then [wLen] else if k = 8 then [wCap] else [wSelect]
def caseW (c : Cas) : List Tx := if c.send then [wBar, wSend, numT c.ch, numT c.v] else [wBar, wRecv, numT c.ch]
def elseW (e : Bool) : List Tx := if e then [wBar, wElse] else []
def opW (o : Opr) : List Tx :=
  headW o.kind ++ ((if o.kind == 1 then [numT o.n] else if o.kind == 9 then [] else [numT o.ch]) ++ ((if hasV o.kind then [numT o.v] else []) ++ (o.cases.flatMap caseW ++ elseW o.els)))
def opT (o : Opr) : Tx := joinT 32 (opW o)

/-! ### Words as an op -/
def headK (w : Tx) : Int := if w = wMake then 1 else if w = wSend then 2 else if w = wRecv then 3 else if w = wClose then 6 else if w = wLen then 7 else if w = wCap then 8 else if w = wSelect then 9 else 0
def kindR : List Tx → Int × List Tx
  | [] => (0, [])
  | w :: r => if w = wTry then (match r with | [] => (0, []) | x :: q => if x = wSend then (4, q) else if x = wRecv then (5, q) else (0, r)) else (headK w, r)
def numsV (ws : List Tx) (many : Nat) : Option (List Int) := if (ws.all fun w => decide (0 ≤ digV w)) && ws.length == many then some (ws.map digV) else none
def oneV : List Tx → Option Cas
  | [a, b, c] => if a = wSend ∧ 0 ≤ digV b ∧ 0 ≤ digV c then some ⟨true, digV b, digV c⟩ else none
  | [a, b] => if a = wRecv ∧ 0 ≤ digV b then some ⟨false, digV b, 0⟩ else none
  | _ => none
theorem oneV_three (a b c : Tx) : oneV [a, b, c] = if a = wSend ∧ 0 ≤ digV b ∧ 0 ≤ digV c then some ⟨true, digV b, digV c⟩ else none := rfl
theorem oneV_two (a b : Tx) : oneV [a, b] = if a = wRecv ∧ 0 ≤ digV b then some ⟨false, digV b, 0⟩ else none := rfl
def notBar (w : Tx) : Bool := w != wBar
def casedG : Nat → List Cas → Bool → List Tx → Option (List Cas × Bool)
  | _, cs, e, [] => some (cs, e)
  | 0, _, _, _ :: _ => none
  | f + 1, cs, e, w :: r =>
    if w ≠ wBar ∨ e = true then none
    else if r.takeWhile notBar = [wElse] then casedG f cs true (r.dropWhile notBar)
    else match oneV (r.takeWhile notBar) with
      | none => none
      | some c => casedG f (cs ++ [c]) e (r.dropWhile notBar)
def okO (o : Opr) : Option Opr := if rightO o = true then some o else none
def readW (ws : List Tx) : Option Opr :=
  if (kindR ws).1 = 0 then none
  else if (kindR ws).1 = 9 then
    match casedG (kindR ws).2.length [] false (kindR ws).2 with
    | none => none
    | some (cs, e) => okO ⟨9, 0, 0, 0, cs, e⟩
  else match numsV (kindR ws).2 (if hasV (kindR ws).1 then 2 else 1) with
    | none => none
    | some ns => okO ⟨(kindR ws).1, if (kindR ws).1 = 1 then 0 else ns.getD 0 0, if (kindR ws).1 = 1 then ns.getD 0 0 else 0, if hasV (kindR ws).1 then ns.getD 1 0 else 0, [], false⟩
def readT (s : Tx) : Option Opr := readW (splitT 32 s)

/-! ### What is written is read -/
theorem num_ne {n : Int} (h : 0 ≤ n ∧ n ≤ 999) {w : Tx} {c : UInt8} (hc : c < 48 ∨ 57 < c) (hw : c ∈ w) : numT n ≠ w := fun e => num_free h hc (e ▸ hw)
theorem num_notBar {n : Int} (h : 0 ≤ n ∧ n ≤ 999) : notBar (numT n) = true := by
  unfold notBar
  have : numT n ≠ wBar := num_ne h (c := 124) (by decide) (by decide)
  simpa using this
theorem span_bar {ws rest : List Tx} (h : ∀ w ∈ ws, notBar w = true) (hr : rest = [] ∨ ∃ q, rest = wBar :: q) : (ws ++ rest).takeWhile notBar = ws ∧ (ws ++ rest).dropWhile notBar = rest := by
  have h0 : rest.takeWhile notBar = [] ∧ rest.dropWhile notBar = rest := by
    rcases hr with rfl | ⟨q, rfl⟩
    · exact ⟨rfl, rfl⟩
    · have : notBar wBar = false := by decide
      simp [this]
  induction ws with
  | nil => exact h0
  | cons w ws ih =>
    have hw := h w (by simp)
    obtain ⟨i1, i2⟩ := ih fun u hu => h u (by simp [hu])
    rw [List.cons_append]
    simp [hw, i1, i2]
theorem tail_bar (L : List Cas) (e : Bool) : L.flatMap caseW ++ elseW e = [] ∨ ∃ q, L.flatMap caseW ++ elseW e = wBar :: q := by
  cases L with
  | nil => cases e <;> simp [elseW]
  | cons c L => right; unfold caseW; cases hs : c.send <;> simp [hs]
theorem casedG_enc (e : Bool) : ∀ (L : List Cas) (cs : List Cas) (f : Nat), L.all rightC = true → (L.flatMap caseW ++ elseW e).length ≤ f → casedG f cs false (L.flatMap caseW ++ elseW e) = some (cs ++ L, e)
  | [], cs, f, _, hf => by
    cases e with
    | false => simp [elseW, casedG]
    | true =>
      match f, hf with
      | 0, hf => simp [elseW] at hf
      | f + 1, _ =>
        show casedG (f + 1) cs false [wBar, wElse] = _
        have h1 : [wElse].takeWhile notBar = [wElse] ∧ [wElse].dropWhile notBar = [] := span_bar (ws := [wElse]) (rest := []) (by simp; decide) (Or.inl rfl)
        unfold casedG
        rw [if_neg (by simp), h1.1, if_pos rfl, h1.2]
        simp [casedG]
  | c :: L, cs, f, h, hf => by
    rw [List.all_cons, Bool.and_eq_true] at h
    obtain ⟨hr, hL⟩ := h
    obtain ⟨s, ch, v⟩ := c
    have hin : 0 ≤ ch ∧ ch ≤ 8 ∧ 0 ≤ v ∧ v ≤ 255 := rightC_in hr
    obtain ⟨tl, htl⟩ : ∃ t, L.flatMap caseW ++ elseW e = t := ⟨_, rfl⟩
    have htb := tail_bar L e
    rw [List.flatMap_cons, List.append_assoc] at hf ⊢
    cases f with
    | zero => unfold caseW at hf; cases s <;> simp at hf
    | succ f =>
      have ih := casedG_enc e L (cs ++ [⟨s, ch, v⟩]) f hL
      rw [htl] at ih hf htb ⊢
      cases s with
      | true =>
        have h1 := span_bar (ws := [wSend, numT ch, numT v]) (rest := tl) (by
          intro w hw
          simp at hw
          rcases hw with rfl | rfl | rfl
          · decide
          · exact num_notBar (by omega)
          · exact num_notBar (by omega)) htb
        show casedG (f + 1) cs false (wBar :: ([wSend, numT ch, numT v] ++ tl)) = _
        unfold casedG
        rw [if_neg (by simp), h1.1, h1.2, if_neg (by simp)]
        have h2 : oneV [wSend, numT ch, numT v] = some ⟨true, ch, v⟩ := by
          rw [oneV_three, digV_num (n := ch) (by omega), digV_num (n := v) (by omega), if_pos ⟨rfl, by omega, by omega⟩]
        rw [h2]
        show casedG f (cs ++ [⟨true, ch, v⟩]) false tl = _
        rw [ih (by simp [caseW] at hf; omega)]
        simp
      | false =>
        have hv : v = 0 := by
          unfold rightC at hr
          simp at hr
          exact hr.2
        subst hv
        have h1 := span_bar (ws := [wRecv, numT ch]) (rest := tl) (by
          intro w hw
          simp at hw
          rcases hw with rfl | rfl
          · decide
          · exact num_notBar (by omega)) htb
        show casedG (f + 1) cs false (wBar :: ([wRecv, numT ch] ++ tl)) = _
        unfold casedG
        rw [if_neg (by simp), h1.1, h1.2, if_neg (by simp)]
        have h2 : oneV [wRecv, numT ch] = some ⟨false, ch, 0⟩ := by
          rw [oneV_two, digV_num (n := ch) (by omega), if_pos ⟨rfl, by omega⟩]
        rw [h2]
        show casedG f (cs ++ [⟨false, ch, 0⟩]) false tl = _
        rw [ih (by simp [caseW] at hf; omega)]
        simp
theorem numsV_one {n : Int} (h : 0 ≤ n ∧ n ≤ 999) : numsV [numT n] 1 = some [n] := by
  unfold numsV
  simp [digV_num h, h.1]
theorem numsV_two {n m : Int} (h : 0 ≤ n ∧ n ≤ 999) (k : 0 ≤ m ∧ m ≤ 999) : numsV [numT n, numT m] 2 = some [n, m] := by
  unfold numsV
  simp [digV_num h, digV_num k, h.1, k.1]
theorem readW_enc {o : Opr} (h : rightO o = true) : readW (opW o) = some o := by
  have hf := rightO_has h
  obtain ⟨kind, ch, n, v, cs, els⟩ := o
  dsimp only at hf
  obtain ⟨k1, k9, q1, q2, q3, q4, q5, q6, q7, q8, q9, q10, q11, q12⟩ := hf
  rcases (show kind = 1 ∨ kind = 9 ∨ (kind = 2 ∨ kind = 4) ∨ (kind = 3 ∨ kind = 5 ∨ kind = 6 ∨ kind = 7 ∨ kind = 8) by omega) with rfl | rfl | hk | hk
  · obtain ⟨rfl, hcs⟩ := q11.resolve_left (by omega)
    obtain rfl : cs = [] := List.eq_nil_of_length_eq_zero hcs
    obtain rfl : ch = 0 := q8.resolve_left (by decide)
    obtain rfl : v = 0 := q9.resolve_left (by decide)
    have e : opW ⟨1, 0, n, 0, [], false⟩ = [wMake, numT n] := rfl
    rw [e]
    have e2 : kindR [wMake, numT n] = (1, [numT n]) := rfl
    unfold readW
    rw [e2]
    have e3 : numsV [numT n] (if hasV 1 = true then 2 else 1) = some [n] := numsV_one (by omega)
    dsimp only
    rw [if_neg (by decide), if_neg (by decide), e3]
    exact if_pos h
  · obtain rfl : ch = 0 := q8.resolve_left (by decide)
    obtain rfl : v = 0 := q9.resolve_left (by decide)
    obtain rfl : n = 0 := q10.resolve_left (by decide)
    have e : opW ⟨9, 0, 0, 0, cs, els⟩ = wSelect :: (cs.flatMap caseW ++ elseW els) := rfl
    rw [e]
    have e2 : kindR (wSelect :: (cs.flatMap caseW ++ elseW els)) = (9, cs.flatMap caseW ++ elseW els) := rfl
    unfold readW
    rw [e2]
    dsimp only
    rw [if_neg (by decide), if_pos rfl, casedG_enc els cs [] _ q12 (Nat.le_refl _)]
    exact if_pos h
  · obtain ⟨rfl, hcs⟩ := q11.resolve_left (by omega)
    obtain rfl : cs = [] := List.eq_nil_of_length_eq_zero hcs
    obtain rfl : n = 0 := q10.resolve_left (by omega)
    have e3 : numsV [numT ch, numT v] 2 = some [ch, v] := numsV_two (by omega) (by omega)
    rcases hk with rfl | rfl
    · have e : readW (opW ⟨2, ch, 0, v, [], false⟩) = (match numsV [numT ch, numT v] 2 with | none => none | some ns => okO ⟨2, ns.getD 0 0, 0, ns.getD 1 0, [], false⟩) := rfl
      rw [e, e3]
      exact if_pos h
    · have e : readW (opW ⟨4, ch, 0, v, [], false⟩) = (match numsV [numT ch, numT v] 2 with | none => none | some ns => okO ⟨4, ns.getD 0 0, 0, ns.getD 1 0, [], false⟩) := rfl
      rw [e, e3]
      exact if_pos h
  · obtain ⟨rfl, hcs⟩ := q11.resolve_left (by omega)
    obtain rfl : cs = [] := List.eq_nil_of_length_eq_zero hcs
    obtain rfl : n = 0 := q10.resolve_left (by omega)
    obtain rfl : v = 0 := q9.resolve_left (by rcases hk with rfl | rfl | rfl | rfl | rfl <;> decide)
    have e3 : numsV [numT ch] 1 = some [ch] := numsV_one (by omega)
    have e : readW (opW ⟨kind, ch, 0, 0, [], false⟩) = (match numsV [numT ch] 1 with | none => none | some ns => okO ⟨kind, ns.getD 0 0, 0, 0, [], false⟩) := by
      rcases hk with rfl | rfl | rfl | rfl | rfl <;> rfl
    rw [e, e3]
    exact if_pos h

/-! ### What is read is written so -/
theorem oneV_back {ws : List Tx} {c : Cas} (h : oneV ws = some c) : caseW c = wBar :: ws := by
  unfold oneV at h
  split at h
  · split at h
    · rename_i a b d hh
      obtain ⟨rfl, h1, h2⟩ := hh
      obtain rfl := Option.some.inj h
      unfold caseW
      rw [if_pos rfl, (num_digV h1).1, (num_digV h2).1]
    · cases h
  · split at h
    · rename_i a b hh
      obtain ⟨rfl, h1⟩ := hh
      obtain rfl := Option.some.inj h
      unfold caseW
      rw [if_neg (by simp), (num_digV h1).1]
    · cases h
  · cases h
theorem casedG_back : ∀ (f : Nat) (cs : List Cas) (e : Bool) (ws : List Tx) (cs' : List Cas) (e' : Bool), casedG f cs e ws = some (cs', e') →
    ∃ L, cs' = cs ++ L ∧ ws = L.flatMap caseW ++ elseW (e' && !e) ∧ (e = true → L = [] ∧ e' = true)
  | f, cs, e, [], cs', e', h => by
    have h : some (cs, e) = some (cs', e') := by cases f <;> exact h
    injection h with h
    injection h with h1 h2
    subst h1 h2
    refine ⟨[], by simp, ?_, fun he => ⟨rfl, he⟩⟩
    cases e <;> rfl
  | 0, cs, e, w :: r, cs', e', h => by cases h
  | f + 1, cs, e, w :: r, cs', e', h => by
    unfold casedG at h
    split at h
    · cases h
    rename_i hw
    have hwb : w = wBar := by
      by_cases hh : w = wBar
      · exact hh
      · exact absurd (Or.inl hh) hw
    have hef : e = false := by
      cases e
      · rfl
      · exact absurd (Or.inr rfl) hw
    subst hwb hef
    have hsp : r.takeWhile notBar ++ r.dropWhile notBar = r := List.takeWhile_append_dropWhile
    split at h
    · rename_i hp
      obtain ⟨L, h1, h2, h3⟩ := casedG_back f cs true _ cs' e' h
      obtain ⟨rfl, rfl⟩ := h3 rfl
      have h2' : r.dropWhile notBar = [] := h2
      refine ⟨[], h1, ?_, fun he => by cases he⟩
      rw [hp, h2'] at hsp
      rw [← hsp]
      rfl
    · split at h
      · cases h
      · rename_i c hc
        obtain ⟨L, h1, h2, h3⟩ := casedG_back f (cs ++ [c]) false _ cs' e' h
        refine ⟨c :: L, by rw [h1]; simp, ?_, fun he => by cases he⟩
        rw [List.flatMap_cons, oneV_back hc, List.append_assoc, List.cons_append, ← h2, hsp]
theorem okO_has {o q : Opr} (h : okO o = some q) : rightO o = true ∧ q = o := by
  unfold okO at h
  split at h
  · rename_i hr
    exact ⟨hr, (Option.some.inj h).symm⟩
  · cases h
theorem kindR_head {ws r : List Tx} {k : Int} (h : kindR ws = (k, r)) (hk : k ≠ 0) : ws = headW k ++ r ∧ 1 ≤ k ∧ k ≤ 9 := by
  unfold kindR at h
  split at h
  · injection h with h1 h2
    exact absurd h1.symm hk
  · rename_i w q
    split at h
    · rename_i hw
      subst hw
      split at h
      · injection h with h1 h2
        exact absurd h1.symm hk
      · rename_i x q'
        split at h
        · rename_i hx
          injection h with h1 h2
          subst hx h1 h2
          exact ⟨rfl, by decide, by decide⟩
        · split at h
          · rename_i hx
            injection h with h1 h2
            subst hx h1 h2
            exact ⟨rfl, by decide, by decide⟩
          · injection h with h1 h2
            exact absurd h1.symm hk
    · injection h with h1 h2
      subst h1 h2
      unfold headK at hk ⊢
      split
      · rename_i e; subst e; exact ⟨rfl, by decide, by decide⟩
      split
      · rename_i e; subst e; exact ⟨rfl, by decide, by decide⟩
      split
      · rename_i e; subst e; exact ⟨rfl, by decide, by decide⟩
      split
      · rename_i e; subst e; exact ⟨rfl, by decide, by decide⟩
      split
      · rename_i e; subst e; exact ⟨rfl, by decide, by decide⟩
      split
      · rename_i e; subst e; exact ⟨rfl, by decide, by decide⟩
      split
      · rename_i e; subst e; exact ⟨rfl, by decide, by decide⟩
      · rename_i a b c d e f g
        rw [if_neg a, if_neg b, if_neg c, if_neg d, if_neg e, if_neg f, if_neg g] at hk
        exact absurd rfl hk
theorem numsV_back {ws : List Tx} {many : Nat} {ns : List Int} (h : numsV ws many = some ns) : ws = ns.map numT ∧ ns.length = many := by
  unfold numsV at h
  split at h
  · rename_i hh
    rw [Bool.and_eq_true] at hh
    obtain rfl := Option.some.inj h
    refine ⟨?_, by rw [List.length_map]; simpa using hh.2⟩
    rw [List.map_map]
    refine (List.map_id' _).symm.trans (List.map_congr_left fun w hw => ?_)
    have := List.all_eq_true.1 hh.1 w hw
    exact (num_digV (by simpa using this)).1.symm
  · cases h
theorem readW_back {ws : List Tx} {o : Opr} (h : readW ws = some o) : rightO o = true ∧ ws = opW o := by
  obtain ⟨⟨k, r⟩, hkr⟩ : ∃ z, kindR ws = z := ⟨_, rfl⟩
  unfold readW at h
  rw [hkr] at h
  dsimp only at h
  split at h
  · cases h
  rename_i hk
  obtain ⟨hws, hk1, hk9⟩ := kindR_head hkr hk
  split at h
  · rename_i hk9'
    subst hk9'
    split at h
    · cases h
    · rename_i cs e hc
      obtain ⟨hr, rfl⟩ := okO_has h
      obtain ⟨L, h1, h2, _⟩ := casedG_back _ _ _ _ _ _ hc
      refine ⟨hr, ?_⟩
      rw [hws, h2, h1]
      simp [opW, headW, hasV]
  · rename_i hn9
    split at h
    · cases h
    · rename_i ns hns
      obtain ⟨hr, rfl⟩ := okO_has h
      obtain ⟨h1, h2⟩ := numsV_back hns
      refine ⟨hr, ?_⟩
      rw [hws, h1]
      unfold opW
      dsimp only
      have e9 : (k == 9) = false := by simpa using hn9
      rw [e9]
      by_cases hv : hasV k = true
      · rw [if_pos hv] at h2
        match ns, h2 with
        | [a, b], _ =>
          have e1 : (k == 1) = false := by
            unfold hasV at hv
            simp at hv ⊢
            omega
          have e1' : ¬ k = 1 := by simpa using e1
          simp [hv, e1, e1', elseW]
      · rw [if_neg hv] at h2
        match ns, h2 with
        | [a], _ =>
          by_cases e1 : k = 1
          · subst e1
            simp [elseW, hasV]
          · have e1' : (k == 1) = false := by simpa using e1
            simp [hv, e1, e1', elseW]

end Go.Proofs.YtfghabjpcjcllaaDoor
/- An op's text, piece by piece. Pure mathematics. -/
namespace Go.Proofs.YtfghabjpcjcllaaDoor

theorem joinT_tl (c : UInt8) (w : Tx) (ws : List Tx) : joinT c (w :: ws) = w ++ ws.flatMap (fun x => c :: x) := by
  induction ws generalizing w with
  | nil => simp [joinT]
  | cons x ws ih =>
    rw [joinT_cons c w (by simp), ih]
    simp
def headT (k : Int) : Tx := joinT 32 (headW k)
def chT (o : Opr) : Tx := if o.kind == 1 then 32 :: numT o.n else if o.kind == 9 then [] else 32 :: numT o.ch
def vT (o : Opr) : Tx := if hasV o.kind then 32 :: numT o.v else []
def caseT (c : Cas) : Tx := if c.send then ([32, 124, 32, 115, 101, 110, 100, 32] ++ numT c.ch ++ [32]) ++ numT c.v else [32, 124, 32, 114, 101, 99, 118, 32] ++ numT c.ch
def elseT (e : Bool) : Tx := if e then [32, 124, 32, 101, 108, 115, 101] else []
theorem tl_case (c : Cas) : (caseW c).flatMap (fun x => (32 : UInt8) :: x) = caseT c := by
  unfold caseW caseT
  split <;> simp [wBar, wSend, wRecv]
theorem tl_cases (L : List Cas) : (L.flatMap caseW).flatMap (fun x => (32 : UInt8) :: x) = L.flatMap caseT := by
  induction L with
  | nil => rfl
  | cons c L ih => rw [List.flatMap_cons, List.flatMap_append, tl_case, ih, List.flatMap_cons]
theorem tl_else (e : Bool) : (elseW e).flatMap (fun x => (32 : UInt8) :: x) = elseT e := by cases e <;> rfl
theorem head_ne (k : Int) : ∃ w ws, headW k = w :: ws := by
  unfold headW
  repeat' split
  all_goals exact ⟨_, _, rfl⟩
theorem opT_is (o : Opr) : opT o = headT o.kind ++ chT o ++ vT o ++ o.cases.flatMap caseT ++ elseT o.els := by
  obtain ⟨w, ws, h⟩ := head_ne o.kind
  unfold opT opW headT
  rw [h, List.cons_append, joinT_tl, joinT_tl]
  simp only [List.flatMap_append, tl_cases, tl_else, List.append_assoc]
  congr 3
  · unfold chT
    split
    · simp
    · split <;> simp
  · congr 1
    unfold vT
    split <;> simp
/-- The text of any op. -/
def opS (o : Opr) : Tx := if rightO o = true then opT o else []
theorem numT_len {n : Int} (h : 0 ≤ n ∧ n ≤ 999) : (numT n).length ≤ 3 := by
  rcases (show n < 10 ∨ (10 ≤ n ∧ n < 100) ∨ 100 ≤ n by omega) with k | k | k
  · obtain ⟨d, hd, e⟩ : ∃ d : Nat, d < 10 ∧ n = d := ⟨n.toNat, by omega, by omega⟩
    rw [e, itoa_one hd]; simp
  · obtain ⟨d, hd, e⟩ : ∃ d : Nat, d < 100 ∧ n = d := ⟨n.toNat, by omega, by omega⟩
    have := itoa_two (a := d / 10) (b := d % 10) (by omega) (by omega)
    rw [show d / 10 * 10 + d % 10 = d by omega] at this
    rw [e, this]; simp
  · obtain ⟨d, hd, e⟩ : ∃ d : Nat, d < 1000 ∧ n = d := ⟨n.toNat, by omega, by omega⟩
    have := itoa_three (a := d / 100) (b := d / 10 % 10) (c := d % 10) (by omega) (by omega) (by omega)
    rw [show d / 100 * 100 + d / 10 % 10 * 10 + d % 10 = d by omega] at this
    rw [e, this]; simp
theorem caseT_len {c : Cas} (h : rightC c = true) : (caseT c).length ≤ 40 := by
  have hc := rightC_in h
  have h1 := numT_len (n := c.ch) (by omega)
  have h2 := numT_len (n := c.v) (by omega)
  unfold caseT
  split <;> simp <;> omega
theorem cases_len {L : List Cas} (h : L.all rightC = true) : (L.flatMap caseT).length ≤ 40 * L.length := by
  induction L with
  | nil => simp
  | cons c L ih =>
    rw [List.all_cons, Bool.and_eq_true] at h
    have := ih h.2
    have := caseT_len h.1
    rw [List.flatMap_cons, List.length_append, List.length_cons]
    omega
end Go.Proofs.YtfghabjpcjcllaaDoor
/- A plan's text, and a text as a plan. Pure mathematics. -/
namespace Go.Proofs.YtfghabjpcjcllaaDoor

theorem rightL_hasW {l : List Opr} (h : rightL l = true) : l.all rightO = true ∧ l.length ≤ 16 := by
  unfold rightL at h
  simpa using h
/-! ### Lines -/
theorem joinT_free {c d : UInt8} (hcd : d ≠ c) : ∀ {ws : List Tx}, (∀ w ∈ ws, d ∉ w) → d ∉ joinT c ws
  | [], _ => by simp [joinT]
  | [w], h => h w (by simp)
  | w :: v :: ws, h => by
    show d ∉ w ++ c :: joinT c (v :: ws)
    have ih := joinT_free hcd (ws := v :: ws) fun u hu => h u (by simp [hu])
    intro hm
    rcases List.mem_append.1 hm with e | e
    · exact h w (by simp) e
    · rcases List.mem_cons.1 e with e | e
      · exact hcd e
      · exact ih e
theorem headW_free {c : UInt8} (hc : c = 32 ∨ c = 10) (k : Int) : ∀ w ∈ headW k, c ∉ w := by
  unfold headW
  rcases hc with rfl | rfl
  · repeat' split
    all_goals decide
  · repeat' split
    all_goals decide
theorem opW_ne (o : Opr) : opW o ≠ [] := by
  unfold opW headW
  repeat' split
  all_goals simp
theorem opW_free {o : Opr} (h : rightO o = true) {c : UInt8} (hc : c = 32 ∨ c = 10) : ∀ w ∈ opW o, c ∉ w := by
  have hf := rightO_has h
  have hd : c < 48 ∨ 57 < c := by rcases hc with rfl | rfl <;> decide
  intro w hw
  unfold opW at hw
  simp only [List.mem_append] at hw
  rcases hw with e | e | e | e | e
  · exact headW_free hc _ w e
  · split at e
    · obtain rfl : w = numT o.n := by simpa using e
      exact num_free (by omega) hd
    · split at e
      · simp at e
      · obtain rfl : w = numT o.ch := by simpa using e
        exact num_free (by omega) hd
  · split at e
    · obtain rfl : w = numT o.v := by simpa using e
      exact num_free (by omega) hd
    · simp at e
  · obtain ⟨q, hq, hw⟩ := List.mem_flatMap.1 e
    have hin := rightC_in (List.all_eq_true.1 hf.2.2.2.2.2.2.2.2.2.2.2.2.2 q hq)
    unfold caseW at hw
    split at hw
    · simp at hw
      rcases hw with rfl | rfl | rfl | rfl
      · rcases hc with rfl | rfl <;> decide
      · rcases hc with rfl | rfl <;> decide
      · exact num_free (by omega) hd
      · exact num_free (by omega) hd
    · simp at hw
      rcases hw with rfl | rfl | rfl
      · rcases hc with rfl | rfl <;> decide
      · rcases hc with rfl | rfl <;> decide
      · exact num_free (by omega) hd
  · unfold elseW at e
    split at e
    · simp at e
      rcases e with rfl | rfl
      · rcases hc with rfl | rfl <;> decide
      · rcases hc with rfl | rfl <;> decide
    · simp at e
theorem readT_enc {o : Opr} (h : rightO o = true) : readT (opT o) = some o := by
  unfold readT opT
  rw [split_join 32 (opW_ne o) (opW_free h (Or.inl rfl)), readW_enc h]
theorem readT_back {s : Tx} {o : Opr} (h : readT s = some o) : rightO o = true ∧ opT o = s := by
  unfold readT at h
  obtain ⟨h1, h2⟩ := readW_back h
  refine ⟨h1, ?_⟩
  unfold opT
  rw [← h2]
  exact join_split 32 s []
theorem opT_free {o : Opr} (h : rightO o = true) : (10 : UInt8) ∉ opT o := joinT_free (by decide) (opW_free h (Or.inr rfl))
theorem readT_go : readT wGo = none := by rfl

/-! ### A plan's text -/
def rowLines (l : List Opr) : List Tx := wGo :: l.map opT
def planLines (p : List (List Opr)) : List Tx := p.flatMap rowLines
def textP (p : List (List Opr)) : Tx := linesT 10 (planLines p)
theorem planLines_free {p : List (List Opr)} (h : p.all rightL = true) : ∀ l ∈ planLines p, (10 : UInt8) ∉ l := by
  intro l hl
  obtain ⟨q, hq, hl⟩ := List.mem_flatMap.1 hl
  have hr := (rightL_hasW (List.all_eq_true.1 h q hq)).1
  rcases List.mem_cons.1 hl with rfl | hl
  · decide
  · obtain ⟨o, ho, rfl⟩ := List.mem_map.1 hl
    exact opT_free (List.all_eq_true.1 hr o ho)

/-! ### A text as a plan -/
/-- The lines, and whether the last one has its end. -/
def linesOf (s : Tx) : List Tx × Bool := if (splitT 10 s).getLast? = some [] then ((splitT 10 s).dropLast, true) else (splitT 10 s, false)
/-- One more op in the last row. -/
def more (p : List (List Opr)) (o : Opr) : List (List Opr) := p.dropLast ++ [(p.getLast?.getD []) ++ [o]]
def lastLen (p : List (List Opr)) : Nat := (p.getLast?.getD []).length
def parseG (ended : Bool) : List Tx → Nat → List (List Opr) → List (List Opr) × Nat
  | [], _, p => (p, 0)
  | l :: r, i, p =>
    if r = [] ∧ ended = false then ([], i + 1)
    else if l = wGo ∧ p.length < 8 then parseG ended r (i + 1) (p ++ [[]])
    else match readT l with
      | none => ([], i + 1)
      | some o => if p = [] ∨ 16 ≤ lastLen p then ([], i + 1) else parseG ended r (i + 1) (more p o)
theorem parseG_cons (ended : Bool) (l : Tx) (r : List Tx) (i : Nat) (p : List (List Opr)) : parseG ended (l :: r) i p =
    if r = [] ∧ ended = false then ([], i + 1)
    else if l = wGo ∧ p.length < 8 then parseG ended r (i + 1) (p ++ [[]])
    else match readT l with
      | none => ([], i + 1)
      | some o => if p = [] ∨ 16 ≤ lastLen p then ([], i + 1) else parseG ended r (i + 1) (more p o) := rfl
def parseT (s : Tx) : List (List Opr) × Nat := if (linesOf s).1 = [] then ([], 1) else parseG (linesOf s).2 (linesOf s).1 0 []

theorem more_snoc (p : List (List Opr)) (l : List Opr) (o : Opr) : more (p ++ [l]) o = p ++ [l ++ [o]] := by
  unfold more
  rw [List.dropLast_concat, List.getLast?_concat]
  rfl
theorem lastLen_snoc (p : List (List Opr)) (l : List Opr) : lastLen (p ++ [l]) = l.length := by
  unfold lastLen
  rw [List.getLast?_concat]
  rfl
theorem planLines_append (p q : List (List Opr)) : planLines (p ++ q) = planLines p ++ planLines q := by simp [planLines]

/-! ### What is written is read -/
theorem parse_row (p : List (List Opr)) (rest : List Tx) : ∀ (m l : List Opr) (i : Nat), m.all rightO = true → l.length + m.length ≤ 16 → parseG true (m.map opT ++ rest) i (p ++ [l]) = parseG true rest (i + m.length) (p ++ [l ++ m])
  | [], l, i, _, _ => by simp
  | o :: m, l, i, h, hl => by
    rw [List.all_cons, Bool.and_eq_true] at h
    rw [List.length_cons] at hl
    show parseG true (opT o :: (m.map opT ++ rest)) i (p ++ [l]) = _
    have hg : opT o ≠ wGo := fun e => by
      have h1 := readT_enc h.1
      rw [e, readT_go] at h1
      cases h1
    rw [parseG_cons, if_neg (by simp), if_neg (fun e => hg e.1), readT_enc h.1]
    dsimp only
    rw [if_neg (by rw [lastLen_snoc]; simp; omega), more_snoc, parse_row p rest m (l ++ [o]) (i + 1) h.2 (by simp; omega), show i + 1 + m.length = i + (o :: m).length by simp; omega, List.append_assoc]
    rfl
theorem parse_plan : ∀ (q p : List (List Opr)) (i : Nat), q.all rightL = true → p.length + q.length ≤ 8 → parseG true (planLines q) i p = (p ++ q, 0)
  | [], p, i, _, _ => by simp [planLines, parseG]
  | l :: q, p, i, h, hl => by
    rw [List.all_cons, Bool.and_eq_true] at h
    rw [List.length_cons] at hl
    obtain ⟨h1, h2⟩ := rightL_hasW h.1
    show parseG true (wGo :: (l.map opT ++ planLines q)) i p = _
    rw [parseG_cons, if_neg (by simp), if_pos ⟨rfl, by omega⟩, parse_row p (planLines q) l [] (i + 1) h1 (by simpa using h2), parse_plan q _ _ h.2 (by simp; omega)]
    simp
theorem linesOf_text {p : List (List Opr)} (h : p.all rightL = true) : linesOf (textP p) = (planLines p, true) := by
  unfold linesOf textP
  rw [split_lines 10 _ (planLines_free h), List.getLast?_concat, if_pos rfl, List.dropLast_concat]
theorem parseT_enc {p : List (List Opr)} (h : rightP p = true) : parseT (textP p) = (p, 0) := by
  unfold rightP at h
  simp only [Bool.and_eq_true, decide_eq_true_eq] at h
  unfold parseT
  rw [linesOf_text h.1.1]
  have hne : planLines p ≠ [] := by
    cases p with
    | nil => simp at h
    | cons l p => simp [planLines, rowLines]
  dsimp only
  rw [if_neg hne, parse_plan p [] 0 h.1.1 (by simpa using h.2)]
  rfl

/-! ### What is read is written so -/
/-- What the plan is, up to here. -/
structure Upto (p : List (List Opr)) : Prop where
  right : p.all rightL = true
  len : p.length ≤ 8
theorem parse_back (ended : Bool) : ∀ (ls : List Tx) (i : Nat) (p q : List (List Opr)) (n : Nat), Upto p → parseG ended ls i p = (q, n) → (n ≠ 0 ∧ q = []) ∨ (n = 0 ∧ (ended = true ∨ ls = []) ∧ Upto q ∧ planLines q = planLines p ++ ls ∧ (p = [] → ls ≠ [] → q ≠ []) ∧ (p ≠ [] → q ≠ []))
  | [], i, p, q, n, hp, h => by
    injection h with h1 h2
    subst h1 h2
    exact Or.inr ⟨rfl, Or.inr rfl, hp, by simp, fun _ h => absurd rfl h, id⟩
  | l :: r, i, p, q, n, hp, h => by
    rw [parseG_cons] at h
    split at h
    · injection h with h1 h2
      exact Or.inl ⟨by omega, h1.symm⟩
    rename_i hr
    split at h
    · rename_i hg
      obtain ⟨rfl, hlen⟩ := hg
      have hp' : Upto (p ++ [[]]) := ⟨by rw [List.all_append, hp.right]; rfl, by simp; omega⟩
      rcases parse_back ended r (i + 1) _ q n hp' h with h1 | ⟨h1, h2, h3, h4, _, h6⟩
      · exact Or.inl h1
      · refine Or.inr ⟨h1, ?_, h3, by rw [h4, planLines_append]; simp [planLines, rowLines], fun _ _ => h6 (by simp), fun _ => h6 (by simp)⟩
        rcases h2 with h2 | h2
        · exact Or.inl h2
        · subst h2
          cases ended with
          | true => exact Or.inl rfl
          | false => exact absurd ⟨rfl, rfl⟩ hr
    · split at h
      · injection h with h1 h2
        exact Or.inl ⟨by omega, h1.symm⟩
      · rename_i o ho
        split at h
        · injection h with h1 h2
          exact Or.inl ⟨by omega, h1.symm⟩
        · rename_i hh
          obtain ⟨ho1, ho2⟩ := readT_back ho
          have hpne : p ≠ [] := fun e => hh (Or.inl e)
          obtain ⟨p', m, rfl⟩ : ∃ p' m, p = p' ++ [m] := ⟨p.dropLast, p.getLast hpne, (List.dropLast_concat_getLast hpne).symm⟩
          rw [more_snoc] at h
          have hm16 : m.length < 16 := by
            rw [lastLen_snoc] at hh
            omega
          have hall := hp.right
          rw [List.all_append, Bool.and_eq_true] at hall
          have hm := (rightL_hasW (by simpa using hall.2 : rightL m = true)).1
          have hp' : Upto (p' ++ [m ++ [o]]) := by
            refine ⟨?_, by have := hp.len; simpa using this⟩
            rw [List.all_append, hall.1]
            simp only [List.all_cons, List.all_nil, Bool.and_true, Bool.true_and]
            unfold rightL
            rw [List.all_append, hm]
            simp [ho1]
            omega
          rcases parse_back ended r (i + 1) _ q n hp' h with h1 | ⟨h1, h2, h3, h4, _, h6⟩
          · exact Or.inl h1
          · refine Or.inr ⟨h1, ?_, h3, ?_, fun e => absurd e hpne, fun _ => h6 (by simp)⟩
            · rcases h2 with h2 | h2
              · exact Or.inl h2
              · subst h2
                cases ended with
                | true => exact Or.inl rfl
                | false => exact absurd ⟨rfl, rfl⟩ hr
            · rw [h4, planLines_append, planLines_append]
              simp [planLines, rowLines, ho2]
theorem linesOf_join (s : Tx) (h : (linesOf s).2 = true) : linesT 10 (linesOf s).1 = s := by
  unfold linesOf at h ⊢
  split at h
  · rename_i hl
    rw [if_pos hl]
    have hne : splitT 10 s ≠ [] := splitG_ne 10 s []
    have e : splitT 10 s = (splitT 10 s).dropLast ++ [[]] := by
      have h1 := List.dropLast_concat_getLast hne
      rw [List.getLast?_eq_some_getLast hne] at hl
      rw [Option.some.inj hl] at h1
      exact h1.symm
    have := join_lines 10 (splitT 10 s).dropLast
    rw [← e] at this
    rw [← this]
    exact join_split 10 s []
  · cases h
theorem parseT_back (s : Tx) : ((parseT s).2 ≠ 0 ∧ (parseT s).1 = []) ∨ ((parseT s).2 = 0 ∧ rightP (parseT s).1 = true ∧ textP (parseT s).1 = s) := by
  unfold parseT
  split
  · exact Or.inl ⟨by decide, rfl⟩
  · rename_i hne
    rcases parse_back _ _ _ _ _ _ (⟨rfl, by decide⟩ : Upto []) (show parseG (linesOf s).2 (linesOf s).1 0 [] = ((parseG (linesOf s).2 (linesOf s).1 0 []).1, (parseG (linesOf s).2 (linesOf s).1 0 []).2) from rfl) with h1 | ⟨h1, h2, h3, h4, h5, _⟩
    · exact Or.inl h1
    · right
      have he : (linesOf s).2 = true := h2.resolve_right hne
      have hq := h5 rfl hne
      refine ⟨h1, ?_, ?_⟩
      · have := h3.len
        unfold rightP
        rw [h3.right]
        have : 0 < (parseG (linesOf s).2 (linesOf s).1 0 []).1.length := List.length_pos_iff.2 hq
        simp
        omega
      · unfold textP
        rw [h4]
        exact linesOf_join s he
end Go.Proofs.YtfghabjpcjcllaaDoor
/- A piece of words up to the next bar; one step of casedG. Pure mathematics. -/
namespace Go.Proofs.YtfghabjpcjcllaaDoor

theorem span_at {W : List Tx} {a j : Nat} (haj : a ≤ j) (hm : ∀ m x, a ≤ m → m < j → W[m]? = some x → x ≠ wBar) (he : j = W.length ∨ W[j]? = some wBar) :
    (W.drop a).takeWhile notBar = (W.drop a).take (j - a) ∧ (W.drop a).dropWhile notBar = W.drop j := by
  have hs : W.drop a = (W.drop a).take (j - a) ++ W.drop j := by
    have := (List.take_append_drop (j - a) (W.drop a)).symm
    rwa [List.drop_drop, show a + (j - a) = j by omega] at this
  have h1 : ∀ w ∈ (W.drop a).take (j - a), notBar w = true := by
    intro w hw
    obtain ⟨m, hmw⟩ := List.mem_iff_getElem?.1 hw
    have hml : m < j - a := by
      have := (List.getElem?_eq_some_iff.1 hmw).1
      rw [List.length_take] at this
      omega
    rw [List.getElem?_take, if_pos hml, List.getElem?_drop] at hmw
    have := hm (a + m) w (by omega) (by omega) hmw
    unfold notBar
    simpa using this
  have h2 : W.drop j = [] ∨ ∃ q, W.drop j = wBar :: q := by
    rcases he with h | h
    · exact Or.inl (List.drop_of_length_le (by omega))
    · obtain ⟨hl, e⟩ := List.getElem?_eq_some_iff.1 h
      exact Or.inr ⟨_, by rw [List.drop_eq_getElem_cons hl, e]⟩
  have := span_bar h1 h2
  rw [← hs] at this
  exact this
end Go.Proofs.YtfghabjpcjcllaaDoor
/- The kind that the document's Read finds, step by step. Mathematics alone. -/
namespace Go.Proofs.YtfghabjpcjcllaaDoor

/-- The table of words that Read looks into. -/
def tabL : List Tx := [[], wMake, wSend, wRecv, [], [], wClose, wLen, wCap, wSelect]
/-- What Read holds for the kind when k rows are gone through. -/
def kAt (w0 : Tx) (k : Nat) : Int := if headK w0 < k then headK w0 else 0
theorem kAt_zero (w0 : Tx) : kAt w0 0 = 0 := by
  unfold kAt
  split
  · rename_i h
    unfold headK at h
    split at h
    · omega
    · repeat' (split at h <;> try omega)
  · rfl
theorem headK_cases (w0 : Tx) : (w0 = wMake ∧ headK w0 = 1) ∨ (w0 = wSend ∧ headK w0 = 2) ∨ (w0 = wRecv ∧ headK w0 = 3) ∨ (w0 = wClose ∧ headK w0 = 6) ∨ (w0 = wLen ∧ headK w0 = 7) ∨ (w0 = wCap ∧ headK w0 = 8) ∨ (w0 = wSelect ∧ headK w0 = 9) ∨
    (w0 ≠ wMake ∧ w0 ≠ wSend ∧ w0 ≠ wRecv ∧ w0 ≠ wClose ∧ w0 ≠ wLen ∧ w0 ≠ wCap ∧ w0 ≠ wSelect ∧ headK w0 = 0) := by
  unfold headK
  by_cases h1 : w0 = wMake
  · left; exact ⟨h1, if_pos h1⟩
  by_cases h2 : w0 = wSend
  · right; left; exact ⟨h2, by rw [if_neg h1, if_pos h2]⟩
  by_cases h3 : w0 = wRecv
  · right; right; left; exact ⟨h3, by rw [if_neg h1, if_neg h2, if_pos h3]⟩
  by_cases h4 : w0 = wClose
  · right; right; right; left; exact ⟨h4, by rw [if_neg h1, if_neg h2, if_neg h3, if_pos h4]⟩
  by_cases h5 : w0 = wLen
  · right; right; right; right; left; exact ⟨h5, by rw [if_neg h1, if_neg h2, if_neg h3, if_neg h4, if_pos h5]⟩
  by_cases h6 : w0 = wCap
  · right; right; right; right; right; left; exact ⟨h6, by rw [if_neg h1, if_neg h2, if_neg h3, if_neg h4, if_neg h5, if_pos h6]⟩
  by_cases h7 : w0 = wSelect
  · right; right; right; right; right; right; left; exact ⟨h7, by rw [if_neg h1, if_neg h2, if_neg h3, if_neg h4, if_neg h5, if_neg h6, if_pos h7]⟩
  · right; right; right; right; right; right; right; exact ⟨h1, h2, h3, h4, h5, h6, h7, by rw [if_neg h1, if_neg h2, if_neg h3, if_neg h4, if_neg h5, if_neg h6, if_neg h7]⟩
theorem kAt_step (w0 v : Tx) {k : Nat} (hv : tabL[k]? = some v) : kAt w0 (k + 1) = if 0 < k ∧ v ≠ [] ∧ v = w0 then (k : Int) else kAt w0 k := by
  have hk : k < 10 := (List.getElem?_eq_some_iff.1 hv).1
  unfold kAt
  rcases headK_cases w0 with ⟨rfl, e⟩ | ⟨rfl, e⟩ | ⟨rfl, e⟩ | ⟨rfl, e⟩ | ⟨rfl, e⟩ | ⟨rfl, e⟩ | ⟨rfl, e⟩ | ⟨h1, h2, h3, h4, h5, h6, h7, e⟩
  · rw [e]
    rcases (show k = 0 ∨ k = 1 ∨ k = 2 ∨ k = 3 ∨ k = 4 ∨ k = 5 ∨ k = 6 ∨ k = 7 ∨ k = 8 ∨ k = 9 by omega) with rfl | rfl | rfl | rfl | rfl | rfl | rfl | rfl | rfl | rfl <;> (obtain rfl : _ = v := Option.some.inj hv) <;> decide
  · rw [e]
    rcases (show k = 0 ∨ k = 1 ∨ k = 2 ∨ k = 3 ∨ k = 4 ∨ k = 5 ∨ k = 6 ∨ k = 7 ∨ k = 8 ∨ k = 9 by omega) with rfl | rfl | rfl | rfl | rfl | rfl | rfl | rfl | rfl | rfl <;> (obtain rfl : _ = v := Option.some.inj hv) <;> decide
  · rw [e]
    rcases (show k = 0 ∨ k = 1 ∨ k = 2 ∨ k = 3 ∨ k = 4 ∨ k = 5 ∨ k = 6 ∨ k = 7 ∨ k = 8 ∨ k = 9 by omega) with rfl | rfl | rfl | rfl | rfl | rfl | rfl | rfl | rfl | rfl <;> (obtain rfl : _ = v := Option.some.inj hv) <;> decide
  · rw [e]
    rcases (show k = 0 ∨ k = 1 ∨ k = 2 ∨ k = 3 ∨ k = 4 ∨ k = 5 ∨ k = 6 ∨ k = 7 ∨ k = 8 ∨ k = 9 by omega) with rfl | rfl | rfl | rfl | rfl | rfl | rfl | rfl | rfl | rfl <;> (obtain rfl : _ = v := Option.some.inj hv) <;> decide
  · rw [e]
    rcases (show k = 0 ∨ k = 1 ∨ k = 2 ∨ k = 3 ∨ k = 4 ∨ k = 5 ∨ k = 6 ∨ k = 7 ∨ k = 8 ∨ k = 9 by omega) with rfl | rfl | rfl | rfl | rfl | rfl | rfl | rfl | rfl | rfl <;> (obtain rfl : _ = v := Option.some.inj hv) <;> decide
  · rw [e]
    rcases (show k = 0 ∨ k = 1 ∨ k = 2 ∨ k = 3 ∨ k = 4 ∨ k = 5 ∨ k = 6 ∨ k = 7 ∨ k = 8 ∨ k = 9 by omega) with rfl | rfl | rfl | rfl | rfl | rfl | rfl | rfl | rfl | rfl <;> (obtain rfl : _ = v := Option.some.inj hv) <;> decide
  · rw [e]
    rcases (show k = 0 ∨ k = 1 ∨ k = 2 ∨ k = 3 ∨ k = 4 ∨ k = 5 ∨ k = 6 ∨ k = 7 ∨ k = 8 ∨ k = 9 by omega) with rfl | rfl | rfl | rfl | rfl | rfl | rfl | rfl | rfl | rfl <;> (obtain rfl : _ = v := Option.some.inj hv) <;> decide
  · have l0 : ∀ n : Nat, (if (0 : Int) < n then (0 : Int) else 0) = 0 := fun n => by split <;> rfl
    rw [e, l0, l0, if_neg]
    rintro ⟨hk0, hv0, rfl⟩
    rcases (show k = 0 ∨ k = 1 ∨ k = 2 ∨ k = 3 ∨ k = 4 ∨ k = 5 ∨ k = 6 ∨ k = 7 ∨ k = 8 ∨ k = 9 by omega) with rfl | rfl | rfl | rfl | rfl | rfl | rfl | rfl | rfl | rfl
    · exact absurd hk0 (by decide)
    · exact h1 (Option.some.inj hv).symm
    · exact h2 (Option.some.inj hv).symm
    · exact h3 (Option.some.inj hv).symm
    · exact hv0 (Option.some.inj hv).symm
    · exact hv0 (Option.some.inj hv).symm
    · exact h4 (Option.some.inj hv).symm
    · exact h5 (Option.some.inj hv).symm
    · exact h6 (Option.some.inj hv).symm
    · exact h7 (Option.some.inj hv).symm
theorem kAt_ten (w0 : Tx) : kAt w0 10 = headK w0 := by
  unfold kAt
  rcases headK_cases w0 with ⟨_, e⟩ | ⟨_, e⟩ | ⟨_, e⟩ | ⟨_, e⟩ | ⟨_, e⟩ | ⟨_, e⟩ | ⟨_, e⟩ | ⟨_, _, _, _, _, _, _, e⟩ <;> rw [e] <;> decide

def numR (k : Int) : Option (List Int) → Option Opr
  | none => none
  | some ns => okO ⟨k, if k = 1 then 0 else ns.getD 0 0, if k = 1 then ns.getD 0 0 else 0, if hasV k then ns.getD 1 0 else 0, [], false⟩
def casR : Option (List Cas × Bool) → Option Opr
  | none => none
  | some (cs, e) => okO ⟨9, 0, 0, 0, cs, e⟩
theorem readW_no {ws rest : List Tx} (h : kindR ws = (0, rest)) : readW ws = none := by
  unfold readW
  rw [h, if_pos rfl]
theorem readW_num {ws rest : List Tx} {k : Int} (h : kindR ws = (k, rest)) (h0 : k ≠ 0) (h9 : k ≠ 9) : readW ws = numR k (numsV rest (if hasV k then 2 else 1)) := by
  unfold readW
  rw [h, if_neg h0, if_neg h9]
  simp only
  cases numsV rest (if hasV k = true then 2 else 1) <;> rfl
theorem readW_cas {ws rest : List Tx} (h : kindR ws = (9, rest)) : readW ws = casR (casedG rest.length [] false rest) := by
  unfold readW
  rw [h, if_neg (show ¬ (9 : Int) = 0 by decide), if_pos rfl]
  simp only
  cases casedG rest.length [] false rest with
  | none => rfl
  | some p => rfl
end Go.Proofs.YtfghabjpcjcllaaDoor
