/- An op's words, and words as an op. Pure mathematics. -/
import Derived.Test.YtfghabjpcjcllaaDoorLines
import Derived.Test.YtfghabjpcjcllaaDoorDOp
namespace Go.Proofs.YtfghabjpcjcllaaDoor

def wMake : Tx := [109, 97, 107, 101]
def wSend : Tx := [115, 101, 110, 100]
def wRecv : Tx := [114, 101, 99, 118]
def wTry : Tx := [116, 114, 121]
def wClose : Tx := [99, 108, 111, 115, 101]
def wLen : Tx := [108, 101, 110]
def wCap : Tx := [99, 97, 112]
def wSelect : Tx := [115, 101, 108, 101, 99, 116]
def wBar : Tx := [124]
def wElse : Tx := [101, 108, 115, 101]
def wGo : Tx := [103, 111]

/-! ### An op's words -/
def headW (k : Int) : List Tx :=
  if k = 1 then [wMake] else if k = 2 then [wSend] else if k = 3 then [wRecv] else if k = 4 then [wTry, wSend] else if k = 5 then [wTry, wRecv] else if k = 6 then [wClose] else if k = 7 then [wLen] else if k = 8 then [wCap] else [wSelect]
def caseW (c : Cas) : List Tx := if c.send then [wBar, wSend, numT c.ch, numT c.v] else [wBar, wRecv, numT c.ch]
def elseW (e : Bool) : List Tx := if e then [wBar, wElse] else []
def opW (o : Opr) : List Tx :=
  headW o.kind ++ ((if o.kind == 1 then [numT o.n] else if o.kind == 9 then [] else [numT o.ch]) ++ ((if hasV o.kind then [numT o.v] else []) ++ (o.cases.flatMap caseW ++ elseW o.els)))
def opT (o : Opr) : Tx := joinT 32 (opW o)

/-! ### Words as an op -/
def headK (w : Tx) : Int := if w = wMake then 1 else if w = wSend then 2 else if w = wRecv then 3 else if w = wClose then 6 else if w = wLen then 7 else if w = wCap then 8 else if w = wSelect then 9 else 0
def kindR : List Tx → Int × List Tx
  | [] => (0, [])
  | w :: r => if w = wTry then (match r with | [] => (0, []) | x :: q => if x = wSend then (4, q) else if x = wRecv then (5, q) else (0, r)) else (headK w, r)
def numsV (ws : List Tx) (many : Nat) : Option (List Int) := if (ws.all fun w => decide (0 ≤ digV w)) && ws.length == many then some (ws.map digV) else none
def oneV : List Tx → Option Cas
  | [a, b, c] => if a = wSend ∧ 0 ≤ digV b ∧ 0 ≤ digV c then some ⟨true, digV b, digV c⟩ else none
  | [a, b] => if a = wRecv ∧ 0 ≤ digV b then some ⟨false, digV b, 0⟩ else none
  | _ => none
theorem oneV_three (a b c : Tx) : oneV [a, b, c] = if a = wSend ∧ 0 ≤ digV b ∧ 0 ≤ digV c then some ⟨true, digV b, digV c⟩ else none := rfl
theorem oneV_two (a b : Tx) : oneV [a, b] = if a = wRecv ∧ 0 ≤ digV b then some ⟨false, digV b, 0⟩ else none := rfl
def notBar (w : Tx) : Bool := w != wBar
def casedG : Nat → List Cas → Bool → List Tx → Option (List Cas × Bool)
  | _, cs, e, [] => some (cs, e)
  | 0, _, _, _ :: _ => none
  | f + 1, cs, e, w :: r =>
    if w ≠ wBar ∨ e = true then none
    else if r.takeWhile notBar = [wElse] then casedG f cs true (r.dropWhile notBar)
    else match oneV (r.takeWhile notBar) with
      | none => none
      | some c => casedG f (cs ++ [c]) e (r.dropWhile notBar)
def okO (o : Opr) : Option Opr := if rightO o = true then some o else none
def readW (ws : List Tx) : Option Opr :=
  if (kindR ws).1 = 0 then none
  else if (kindR ws).1 = 9 then
    match casedG (kindR ws).2.length [] false (kindR ws).2 with
    | none => none
    | some (cs, e) => okO ⟨9, 0, 0, 0, cs, e⟩
  else match numsV (kindR ws).2 (if hasV (kindR ws).1 then 2 else 1) with
    | none => none
    | some ns => okO ⟨(kindR ws).1, if (kindR ws).1 = 1 then 0 else ns.getD 0 0, if (kindR ws).1 = 1 then ns.getD 0 0 else 0, if hasV (kindR ws).1 then ns.getD 1 0 else 0, [], false⟩
def readT (s : Tx) : Option Opr := readW (splitT 32 s)

/-! ### What is written is read -/
theorem num_ne {n : Int} (h : 0 ≤ n ∧ n ≤ 999) {w : Tx} {c : UInt8} (hc : c < 48 ∨ 57 < c) (hw : c ∈ w) : numT n ≠ w := fun e => num_free h hc (e ▸ hw)
theorem num_notBar {n : Int} (h : 0 ≤ n ∧ n ≤ 999) : notBar (numT n) = true := by
  unfold notBar
  have : numT n ≠ wBar := num_ne h (c := 124) (by decide) (by decide)
  simpa using this
theorem span_bar {ws rest : List Tx} (h : ∀ w ∈ ws, notBar w = true) (hr : rest = [] ∨ ∃ q, rest = wBar :: q) : (ws ++ rest).takeWhile notBar = ws ∧ (ws ++ rest).dropWhile notBar = rest := by
  have h0 : rest.takeWhile notBar = [] ∧ rest.dropWhile notBar = rest := by
    rcases hr with rfl | ⟨q, rfl⟩
    · exact ⟨rfl, rfl⟩
    · have : notBar wBar = false := by decide
      simp [this]
  induction ws with
  | nil => exact h0
  | cons w ws ih =>
    have hw := h w (by simp)
    obtain ⟨i1, i2⟩ := ih fun u hu => h u (by simp [hu])
    rw [List.cons_append]
    simp [hw, i1, i2]
theorem tail_bar (L : List Cas) (e : Bool) : L.flatMap caseW ++ elseW e = [] ∨ ∃ q, L.flatMap caseW ++ elseW e = wBar :: q := by
  cases L with
  | nil => cases e <;> simp [elseW]
  | cons c L => right; unfold caseW; cases hs : c.send <;> simp [hs]
theorem casedG_enc (e : Bool) : ∀ (L : List Cas) (cs : List Cas) (f : Nat), L.all rightC = true → (L.flatMap caseW ++ elseW e).length ≤ f → casedG f cs false (L.flatMap caseW ++ elseW e) = some (cs ++ L, e)
  | [], cs, f, _, hf => by
    cases e with
    | false => simp [elseW, casedG]
    | true =>
      match f, hf with
      | 0, hf => simp [elseW] at hf
      | f + 1, _ =>
        show casedG (f + 1) cs false [wBar, wElse] = _
        have h1 : [wElse].takeWhile notBar = [wElse] ∧ [wElse].dropWhile notBar = [] := span_bar (ws := [wElse]) (rest := []) (by simp; decide) (Or.inl rfl)
        unfold casedG
        rw [if_neg (by simp), h1.1, if_pos rfl, h1.2]
        simp [casedG]
  | c :: L, cs, f, h, hf => by
    rw [List.all_cons, Bool.and_eq_true] at h
    obtain ⟨hr, hL⟩ := h
    obtain ⟨s, ch, v⟩ := c
    have hin : 0 ≤ ch ∧ ch ≤ 8 ∧ 0 ≤ v ∧ v ≤ 255 := rightC_in hr
    obtain ⟨tl, htl⟩ : ∃ t, L.flatMap caseW ++ elseW e = t := ⟨_, rfl⟩
    have htb := tail_bar L e
    rw [List.flatMap_cons, List.append_assoc] at hf ⊢
    cases f with
    | zero => unfold caseW at hf; cases s <;> simp at hf
    | succ f =>
      have ih := casedG_enc e L (cs ++ [⟨s, ch, v⟩]) f hL
      rw [htl] at ih hf htb ⊢
      cases s with
      | true =>
        have h1 := span_bar (ws := [wSend, numT ch, numT v]) (rest := tl) (by
          intro w hw
          simp at hw
          rcases hw with rfl | rfl | rfl
          · decide
          · exact num_notBar (by omega)
          · exact num_notBar (by omega)) htb
        show casedG (f + 1) cs false (wBar :: ([wSend, numT ch, numT v] ++ tl)) = _
        unfold casedG
        rw [if_neg (by simp), h1.1, h1.2, if_neg (by simp)]
        have h2 : oneV [wSend, numT ch, numT v] = some ⟨true, ch, v⟩ := by
          rw [oneV_three, digV_num (n := ch) (by omega), digV_num (n := v) (by omega), if_pos ⟨rfl, by omega, by omega⟩]
        rw [h2]
        show casedG f (cs ++ [⟨true, ch, v⟩]) false tl = _
        rw [ih (by simp [caseW] at hf; omega)]
        simp
      | false =>
        have hv : v = 0 := by
          unfold rightC at hr
          simp at hr
          exact hr.2
        subst hv
        have h1 := span_bar (ws := [wRecv, numT ch]) (rest := tl) (by
          intro w hw
          simp at hw
          rcases hw with rfl | rfl
          · decide
          · exact num_notBar (by omega)) htb
        show casedG (f + 1) cs false (wBar :: ([wRecv, numT ch] ++ tl)) = _
        unfold casedG
        rw [if_neg (by simp), h1.1, h1.2, if_neg (by simp)]
        have h2 : oneV [wRecv, numT ch] = some ⟨false, ch, 0⟩ := by
          rw [oneV_two, digV_num (n := ch) (by omega), if_pos ⟨rfl, by omega⟩]
        rw [h2]
        show casedG f (cs ++ [⟨false, ch, 0⟩]) false tl = _
        rw [ih (by simp [caseW] at hf; omega)]
        simp
theorem numsV_one {n : Int} (h : 0 ≤ n ∧ n ≤ 999) : numsV [numT n] 1 = some [n] := by
  unfold numsV
  simp [digV_num h, h.1]
theorem numsV_two {n m : Int} (h : 0 ≤ n ∧ n ≤ 999) (k : 0 ≤ m ∧ m ≤ 999) : numsV [numT n, numT m] 2 = some [n, m] := by
  unfold numsV
  simp [digV_num h, digV_num k, h.1, k.1]
theorem readW_enc {o : Opr} (h : rightO o = true) : readW (opW o) = some o := by
  have hf := rightO_has h
  obtain ⟨kind, ch, n, v, cs, els⟩ := o
  dsimp only at hf
  obtain ⟨k1, k9, q1, q2, q3, q4, q5, q6, q7, q8, q9, q10, q11, q12⟩ := hf
  rcases (show kind = 1 ∨ kind = 9 ∨ (kind = 2 ∨ kind = 4) ∨ (kind = 3 ∨ kind = 5 ∨ kind = 6 ∨ kind = 7 ∨ kind = 8) by omega) with rfl | rfl | hk | hk
  · obtain ⟨rfl, hcs⟩ := q11.resolve_left (by omega)
    obtain rfl : cs = [] := List.eq_nil_of_length_eq_zero hcs
    obtain rfl : ch = 0 := q8.resolve_left (by decide)
    obtain rfl : v = 0 := q9.resolve_left (by decide)
    have e : opW ⟨1, 0, n, 0, [], false⟩ = [wMake, numT n] := rfl
    rw [e]
    have e2 : kindR [wMake, numT n] = (1, [numT n]) := rfl
    unfold readW
    rw [e2]
    have e3 : numsV [numT n] (if hasV 1 = true then 2 else 1) = some [n] := numsV_one (by omega)
    dsimp only
    rw [if_neg (by decide), if_neg (by decide), e3]
    exact if_pos h
  · obtain rfl : ch = 0 := q8.resolve_left (by decide)
    obtain rfl : v = 0 := q9.resolve_left (by decide)
    obtain rfl : n = 0 := q10.resolve_left (by decide)
    have e : opW ⟨9, 0, 0, 0, cs, els⟩ = wSelect :: (cs.flatMap caseW ++ elseW els) := rfl
    rw [e]
    have e2 : kindR (wSelect :: (cs.flatMap caseW ++ elseW els)) = (9, cs.flatMap caseW ++ elseW els) := rfl
    unfold readW
    rw [e2]
    dsimp only
    rw [if_neg (by decide), if_pos rfl, casedG_enc els cs [] _ q12 (Nat.le_refl _)]
    exact if_pos h
  · obtain ⟨rfl, hcs⟩ := q11.resolve_left (by omega)
    obtain rfl : cs = [] := List.eq_nil_of_length_eq_zero hcs
    obtain rfl : n = 0 := q10.resolve_left (by omega)
    have e3 : numsV [numT ch, numT v] 2 = some [ch, v] := numsV_two (by omega) (by omega)
    rcases hk with rfl | rfl
    · have e : readW (opW ⟨2, ch, 0, v, [], false⟩) = (match numsV [numT ch, numT v] 2 with | none => none | some ns => okO ⟨2, ns.getD 0 0, 0, ns.getD 1 0, [], false⟩) := rfl
      rw [e, e3]
      exact if_pos h
    · have e : readW (opW ⟨4, ch, 0, v, [], false⟩) = (match numsV [numT ch, numT v] 2 with | none => none | some ns => okO ⟨4, ns.getD 0 0, 0, ns.getD 1 0, [], false⟩) := rfl
      rw [e, e3]
      exact if_pos h
  · obtain ⟨rfl, hcs⟩ := q11.resolve_left (by omega)
    obtain rfl : cs = [] := List.eq_nil_of_length_eq_zero hcs
    obtain rfl : n = 0 := q10.resolve_left (by omega)
    obtain rfl : v = 0 := q9.resolve_left (by rcases hk with rfl | rfl | rfl | rfl | rfl <;> decide)
    have e3 : numsV [numT ch] 1 = some [ch] := numsV_one (by omega)
    have e : readW (opW ⟨kind, ch, 0, 0, [], false⟩) = (match numsV [numT ch] 1 with | none => none | some ns => okO ⟨kind, ns.getD 0 0, 0, 0, [], false⟩) := by
      rcases hk with rfl | rfl | rfl | rfl | rfl <;> rfl
    rw [e, e3]
    exact if_pos h

/-! ### What is read is written so -/
theorem oneV_back {ws : List Tx} {c : Cas} (h : oneV ws = some c) : caseW c = wBar :: ws := by
  unfold oneV at h
  split at h
  · split at h
    · rename_i a b d hh
      obtain ⟨rfl, h1, h2⟩ := hh
      obtain rfl := Option.some.inj h
      unfold caseW
      rw [if_pos rfl, (num_digV h1).1, (num_digV h2).1]
    · cases h
  · split at h
    · rename_i a b hh
      obtain ⟨rfl, h1⟩ := hh
      obtain rfl := Option.some.inj h
      unfold caseW
      rw [if_neg (by simp), (num_digV h1).1]
    · cases h
  · cases h
theorem casedG_back : ∀ (f : Nat) (cs : List Cas) (e : Bool) (ws : List Tx) (cs' : List Cas) (e' : Bool), casedG f cs e ws = some (cs', e') →
    ∃ L, cs' = cs ++ L ∧ ws = L.flatMap caseW ++ elseW (e' && !e) ∧ (e = true → L = [] ∧ e' = true)
  | f, cs, e, [], cs', e', h => by
    have h : some (cs, e) = some (cs', e') := by cases f <;> exact h
    injection h with h
    injection h with h1 h2
    subst h1 h2
    refine ⟨[], by simp, ?_, fun he => ⟨rfl, he⟩⟩
    cases e <;> rfl
  | 0, cs, e, w :: r, cs', e', h => by cases h
  | f + 1, cs, e, w :: r, cs', e', h => by
    unfold casedG at h
    split at h
    · cases h
    rename_i hw
    have hwb : w = wBar := by
      by_cases hh : w = wBar
      · exact hh
      · exact absurd (Or.inl hh) hw
    have hef : e = false := by
      cases e
      · rfl
      · exact absurd (Or.inr rfl) hw
    subst hwb hef
    have hsp : r.takeWhile notBar ++ r.dropWhile notBar = r := List.takeWhile_append_dropWhile
    split at h
    · rename_i hp
      obtain ⟨L, h1, h2, h3⟩ := casedG_back f cs true _ cs' e' h
      obtain ⟨rfl, rfl⟩ := h3 rfl
      have h2' : r.dropWhile notBar = [] := h2
      refine ⟨[], h1, ?_, fun he => by cases he⟩
      rw [hp, h2'] at hsp
      rw [← hsp]
      rfl
    · split at h
      · cases h
      · rename_i c hc
        obtain ⟨L, h1, h2, h3⟩ := casedG_back f (cs ++ [c]) false _ cs' e' h
        refine ⟨c :: L, by rw [h1]; simp, ?_, fun he => by cases he⟩
        rw [List.flatMap_cons, oneV_back hc, List.append_assoc, List.cons_append, ← h2, hsp]
theorem okO_has {o q : Opr} (h : okO o = some q) : rightO o = true ∧ q = o := by
  unfold okO at h
  split at h
  · rename_i hr
    exact ⟨hr, (Option.some.inj h).symm⟩
  · cases h
theorem kindR_head {ws r : List Tx} {k : Int} (h : kindR ws = (k, r)) (hk : k ≠ 0) : ws = headW k ++ r ∧ 1 ≤ k ∧ k ≤ 9 := by
  unfold kindR at h
  split at h
  · injection h with h1 h2
    exact absurd h1.symm hk
  · rename_i w q
    split at h
    · rename_i hw
      subst hw
      split at h
      · injection h with h1 h2
        exact absurd h1.symm hk
      · rename_i x q'
        split at h
        · rename_i hx
          injection h with h1 h2
          subst hx h1 h2
          exact ⟨rfl, by decide, by decide⟩
        · split at h
          · rename_i hx
            injection h with h1 h2
            subst hx h1 h2
            exact ⟨rfl, by decide, by decide⟩
          · injection h with h1 h2
            exact absurd h1.symm hk
    · injection h with h1 h2
      subst h1 h2
      unfold headK at hk ⊢
      split
      · rename_i e; subst e; exact ⟨rfl, by decide, by decide⟩
      split
      · rename_i e; subst e; exact ⟨rfl, by decide, by decide⟩
      split
      · rename_i e; subst e; exact ⟨rfl, by decide, by decide⟩
      split
      · rename_i e; subst e; exact ⟨rfl, by decide, by decide⟩
      split
      · rename_i e; subst e; exact ⟨rfl, by decide, by decide⟩
      split
      · rename_i e; subst e; exact ⟨rfl, by decide, by decide⟩
      split
      · rename_i e; subst e; exact ⟨rfl, by decide, by decide⟩
      · rename_i a b c d e f g
        rw [if_neg a, if_neg b, if_neg c, if_neg d, if_neg e, if_neg f, if_neg g] at hk
        exact absurd rfl hk
theorem numsV_back {ws : List Tx} {many : Nat} {ns : List Int} (h : numsV ws many = some ns) : ws = ns.map numT ∧ ns.length = many := by
  unfold numsV at h
  split at h
  · rename_i hh
    rw [Bool.and_eq_true] at hh
    obtain rfl := Option.some.inj h
    refine ⟨?_, by rw [List.length_map]; simpa using hh.2⟩
    rw [List.map_map]
    refine (List.map_id' _).symm.trans (List.map_congr_left fun w hw => ?_)
    have := List.all_eq_true.1 hh.1 w hw
    exact (num_digV (by simpa using this)).1.symm
  · cases h
theorem readW_back {ws : List Tx} {o : Opr} (h : readW ws = some o) : rightO o = true ∧ ws = opW o := by
  obtain ⟨⟨k, r⟩, hkr⟩ : ∃ z, kindR ws = z := ⟨_, rfl⟩
  unfold readW at h
  rw [hkr] at h
  dsimp only at h
  split at h
  · cases h
  rename_i hk
  obtain ⟨hws, hk1, hk9⟩ := kindR_head hkr hk
  split at h
  · rename_i hk9'
    subst hk9'
    split at h
    · cases h
    · rename_i cs e hc
      obtain ⟨hr, rfl⟩ := okO_has h
      obtain ⟨L, h1, h2, _⟩ := casedG_back _ _ _ _ _ _ hc
      refine ⟨hr, ?_⟩
      rw [hws, h2, h1]
      simp [opW, headW, hasV]
  · rename_i hn9
    split at h
    · cases h
    · rename_i ns hns
      obtain ⟨hr, rfl⟩ := okO_has h
      obtain ⟨h1, h2⟩ := numsV_back hns
      refine ⟨hr, ?_⟩
      rw [hws, h1]
      unfold opW
      dsimp only
      have e9 : (k == 9) = false := by simpa using hn9
      rw [e9]
      by_cases hv : hasV k = true
      · rw [if_pos hv] at h2
        match ns, h2 with
        | [a, b], _ =>
          have e1 : (k == 1) = false := by
            unfold hasV at hv
            simp at hv ⊢
            omega
          have e1' : ¬ k = 1 := by simpa using e1
          simp [hv, e1, e1', elseW]
      · rw [if_neg hv] at h2
        match ns, h2 with
        | [a], _ =>
          by_cases e1 : k = 1
          · subst e1
            simp [elseW, hasV]
          · have e1' : (k == 1) = false := by simpa using e1
            simp [hv, e1, e1', elseW]

end Go.Proofs.YtfghabjpcjcllaaDoor
