/- A plan's text, and a text as a plan. Pure mathematics. -/
import Derived.Test.YtfghabjpcjcllaaDoorWMath
namespace Go.Proofs.YtfghabjpcjcllaaDoor

theorem rightL_hasW {l : List Opr} (h : rightL l = true) : l.all rightO = true ∧ l.length ≤ 16 := by
  unfold rightL at h
  simpa using h
/-! ### Lines -/
theorem joinT_free {c d : UInt8} (hcd : d ≠ c) : ∀ {ws : List Tx}, (∀ w ∈ ws, d ∉ w) → d ∉ joinT c ws
  | [], _ => by simp [joinT]
  | [w], h => h w (by simp)
  | w :: v :: ws, h => by
    show d ∉ w ++ c :: joinT c (v :: ws)
    have ih := joinT_free hcd (ws := v :: ws) fun u hu => h u (by simp [hu])
    intro hm
    rcases List.mem_append.1 hm with e | e
    · exact h w (by simp) e
    · rcases List.mem_cons.1 e with e | e
      · exact hcd e
      · exact ih e
theorem headW_free {c : UInt8} (hc : c = 32 ∨ c = 10) (k : Int) : ∀ w ∈ headW k, c ∉ w := by
  unfold headW
  rcases hc with rfl | rfl
  · repeat' split
    all_goals decide
  · repeat' split
    all_goals decide
theorem opW_ne (o : Opr) : opW o ≠ [] := by
  unfold opW headW
  repeat' split
  all_goals simp
theorem opW_free {o : Opr} (h : rightO o = true) {c : UInt8} (hc : c = 32 ∨ c = 10) : ∀ w ∈ opW o, c ∉ w := by
  have hf := rightO_has h
  have hd : c < 48 ∨ 57 < c := by rcases hc with rfl | rfl <;> decide
  intro w hw
  unfold opW at hw
  simp only [List.mem_append] at hw
  rcases hw with e | e | e | e | e
  · exact headW_free hc _ w e
  · split at e
    · obtain rfl : w = numT o.n := by simpa using e
      exact num_free (by omega) hd
    · split at e
      · simp at e
      · obtain rfl : w = numT o.ch := by simpa using e
        exact num_free (by omega) hd
  · split at e
    · obtain rfl : w = numT o.v := by simpa using e
      exact num_free (by omega) hd
    · simp at e
  · obtain ⟨q, hq, hw⟩ := List.mem_flatMap.1 e
    have hin := rightC_in (List.all_eq_true.1 hf.2.2.2.2.2.2.2.2.2.2.2.2.2 q hq)
    unfold caseW at hw
    split at hw
    · simp at hw
      rcases hw with rfl | rfl | rfl | rfl
      · rcases hc with rfl | rfl <;> decide
      · rcases hc with rfl | rfl <;> decide
      · exact num_free (by omega) hd
      · exact num_free (by omega) hd
    · simp at hw
      rcases hw with rfl | rfl | rfl
      · rcases hc with rfl | rfl <;> decide
      · rcases hc with rfl | rfl <;> decide
      · exact num_free (by omega) hd
  · unfold elseW at e
    split at e
    · simp at e
      rcases e with rfl | rfl
      · rcases hc with rfl | rfl <;> decide
      · rcases hc with rfl | rfl <;> decide
    · simp at e
theorem readT_enc {o : Opr} (h : rightO o = true) : readT (opT o) = some o := by
  unfold readT opT
  rw [split_join 32 (opW_ne o) (opW_free h (Or.inl rfl)), readW_enc h]
theorem readT_back {s : Tx} {o : Opr} (h : readT s = some o) : rightO o = true ∧ opT o = s := by
  unfold readT at h
  obtain ⟨h1, h2⟩ := readW_back h
  refine ⟨h1, ?_⟩
  unfold opT
  rw [← h2]
  exact join_split 32 s []
theorem opT_free {o : Opr} (h : rightO o = true) : (10 : UInt8) ∉ opT o := joinT_free (by decide) (opW_free h (Or.inr rfl))
theorem readT_go : readT wGo = none := by rfl

/-! ### A plan's text -/
def rowLines (l : List Opr) : List Tx := wGo :: l.map opT
def planLines (p : List (List Opr)) : List Tx := p.flatMap rowLines
def textP (p : List (List Opr)) : Tx := linesT 10 (planLines p)
theorem planLines_free {p : List (List Opr)} (h : p.all rightL = true) : ∀ l ∈ planLines p, (10 : UInt8) ∉ l := by
  intro l hl
  obtain ⟨q, hq, hl⟩ := List.mem_flatMap.1 hl
  have hr := (rightL_hasW (List.all_eq_true.1 h q hq)).1
  rcases List.mem_cons.1 hl with rfl | hl
  · decide
  · obtain ⟨o, ho, rfl⟩ := List.mem_map.1 hl
    exact opT_free (List.all_eq_true.1 hr o ho)

/-! ### A text as a plan -/
/-- The lines, and whether the last one has its end. -/
def linesOf (s : Tx) : List Tx × Bool := if (splitT 10 s).getLast? = some [] then ((splitT 10 s).dropLast, true) else (splitT 10 s, false)
/-- One more op in the last row. -/
def more (p : List (List Opr)) (o : Opr) : List (List Opr) := p.dropLast ++ [(p.getLast?.getD []) ++ [o]]
def lastLen (p : List (List Opr)) : Nat := (p.getLast?.getD []).length
def parseG (ended : Bool) : List Tx → Nat → List (List Opr) → List (List Opr) × Nat
  | [], _, p => (p, 0)
  | l :: r, i, p =>
    if r = [] ∧ ended = false then ([], i + 1)
    else if l = wGo ∧ p.length < 8 then parseG ended r (i + 1) (p ++ [[]])
    else match readT l with
      | none => ([], i + 1)
      | some o => if p = [] ∨ 16 ≤ lastLen p then ([], i + 1) else parseG ended r (i + 1) (more p o)
theorem parseG_cons (ended : Bool) (l : Tx) (r : List Tx) (i : Nat) (p : List (List Opr)) : parseG ended (l :: r) i p =
    if r = [] ∧ ended = false then ([], i + 1)
    else if l = wGo ∧ p.length < 8 then parseG ended r (i + 1) (p ++ [[]])
    else match readT l with
      | none => ([], i + 1)
      | some o => if p = [] ∨ 16 ≤ lastLen p then ([], i + 1) else parseG ended r (i + 1) (more p o) := rfl
def parseT (s : Tx) : List (List Opr) × Nat := if (linesOf s).1 = [] then ([], 1) else parseG (linesOf s).2 (linesOf s).1 0 []

theorem more_snoc (p : List (List Opr)) (l : List Opr) (o : Opr) : more (p ++ [l]) o = p ++ [l ++ [o]] := by
  unfold more
  rw [List.dropLast_concat, List.getLast?_concat]
  rfl
theorem lastLen_snoc (p : List (List Opr)) (l : List Opr) : lastLen (p ++ [l]) = l.length := by
  unfold lastLen
  rw [List.getLast?_concat]
  rfl
theorem planLines_append (p q : List (List Opr)) : planLines (p ++ q) = planLines p ++ planLines q := by simp [planLines]

/-! ### What is written is read -/
theorem parse_row (p : List (List Opr)) (rest : List Tx) : ∀ (m l : List Opr) (i : Nat), m.all rightO = true → l.length + m.length ≤ 16 → parseG true (m.map opT ++ rest) i (p ++ [l]) = parseG true rest (i + m.length) (p ++ [l ++ m])
  | [], l, i, _, _ => by simp
  | o :: m, l, i, h, hl => by
    rw [List.all_cons, Bool.and_eq_true] at h
    rw [List.length_cons] at hl
    show parseG true (opT o :: (m.map opT ++ rest)) i (p ++ [l]) = _
    have hg : opT o ≠ wGo := fun e => by
      have h1 := readT_enc h.1
      rw [e, readT_go] at h1
      cases h1
    rw [parseG_cons, if_neg (by simp), if_neg (fun e => hg e.1), readT_enc h.1]
    dsimp only
    rw [if_neg (by rw [lastLen_snoc]; simp; omega), more_snoc, parse_row p rest m (l ++ [o]) (i + 1) h.2 (by simp; omega), show i + 1 + m.length = i + (o :: m).length by simp; omega, List.append_assoc]
    rfl
theorem parse_plan : ∀ (q p : List (List Opr)) (i : Nat), q.all rightL = true → p.length + q.length ≤ 8 → parseG true (planLines q) i p = (p ++ q, 0)
  | [], p, i, _, _ => by simp [planLines, parseG]
  | l :: q, p, i, h, hl => by
    rw [List.all_cons, Bool.and_eq_true] at h
    rw [List.length_cons] at hl
    obtain ⟨h1, h2⟩ := rightL_hasW h.1
    show parseG true (wGo :: (l.map opT ++ planLines q)) i p = _
    rw [parseG_cons, if_neg (by simp), if_pos ⟨rfl, by omega⟩, parse_row p (planLines q) l [] (i + 1) h1 (by simpa using h2), parse_plan q _ _ h.2 (by simp; omega)]
    simp
theorem linesOf_text {p : List (List Opr)} (h : p.all rightL = true) : linesOf (textP p) = (planLines p, true) := by
  unfold linesOf textP
  rw [split_lines 10 _ (planLines_free h), List.getLast?_concat, if_pos rfl, List.dropLast_concat]
theorem parseT_enc {p : List (List Opr)} (h : rightP p = true) : parseT (textP p) = (p, 0) := by
  unfold rightP at h
  simp only [Bool.and_eq_true, decide_eq_true_eq] at h
  unfold parseT
  rw [linesOf_text h.1.1]
  have hne : planLines p ≠ [] := by
    cases p with
    | nil => simp at h
    | cons l p => simp [planLines, rowLines]
  dsimp only
  rw [if_neg hne, parse_plan p [] 0 h.1.1 (by simpa using h.2)]
  rfl

/-! ### What is read is written so -/
/-- What the plan is, up to here. -/
structure Upto (p : List (List Opr)) : Prop where
  right : p.all rightL = true
  len : p.length ≤ 8
theorem parse_back (ended : Bool) : ∀ (ls : List Tx) (i : Nat) (p q : List (List Opr)) (n : Nat), Upto p → parseG ended ls i p = (q, n) → (n ≠ 0 ∧ q = []) ∨ (n = 0 ∧ (ended = true ∨ ls = []) ∧ Upto q ∧ planLines q = planLines p ++ ls ∧ (p = [] → ls ≠ [] → q ≠ []) ∧ (p ≠ [] → q ≠ []))
  | [], i, p, q, n, hp, h => by
    injection h with h1 h2
    subst h1 h2
    exact Or.inr ⟨rfl, Or.inr rfl, hp, by simp, fun _ h => absurd rfl h, id⟩
  | l :: r, i, p, q, n, hp, h => by
    rw [parseG_cons] at h
    split at h
    · injection h with h1 h2
      exact Or.inl ⟨by omega, h1.symm⟩
    rename_i hr
    split at h
    · rename_i hg
      obtain ⟨rfl, hlen⟩ := hg
      have hp' : Upto (p ++ [[]]) := ⟨by rw [List.all_append, hp.right]; rfl, by simp; omega⟩
      rcases parse_back ended r (i + 1) _ q n hp' h with h1 | ⟨h1, h2, h3, h4, _, h6⟩
      · exact Or.inl h1
      · refine Or.inr ⟨h1, ?_, h3, by rw [h4, planLines_append]; simp [planLines, rowLines], fun _ _ => h6 (by simp), fun _ => h6 (by simp)⟩
        rcases h2 with h2 | h2
        · exact Or.inl h2
        · subst h2
          cases ended with
          | true => exact Or.inl rfl
          | false => exact absurd ⟨rfl, rfl⟩ hr
    · split at h
      · injection h with h1 h2
        exact Or.inl ⟨by omega, h1.symm⟩
      · rename_i o ho
        split at h
        · injection h with h1 h2
          exact Or.inl ⟨by omega, h1.symm⟩
        · rename_i hh
          obtain ⟨ho1, ho2⟩ := readT_back ho
          have hpne : p ≠ [] := fun e => hh (Or.inl e)
          obtain ⟨p', m, rfl⟩ : ∃ p' m, p = p' ++ [m] := ⟨p.dropLast, p.getLast hpne, (List.dropLast_concat_getLast hpne).symm⟩
          rw [more_snoc] at h
          have hm16 : m.length < 16 := by
            rw [lastLen_snoc] at hh
            omega
          have hall := hp.right
          rw [List.all_append, Bool.and_eq_true] at hall
          have hm := (rightL_hasW (by simpa using hall.2 : rightL m = true)).1
          have hp' : Upto (p' ++ [m ++ [o]]) := by
            refine ⟨?_, by have := hp.len; simpa using this⟩
            rw [List.all_append, hall.1]
            simp only [List.all_cons, List.all_nil, Bool.and_true, Bool.true_and]
            unfold rightL
            rw [List.all_append, hm]
            simp [ho1]
            omega
          rcases parse_back ended r (i + 1) _ q n hp' h with h1 | ⟨h1, h2, h3, h4, _, h6⟩
          · exact Or.inl h1
          · refine Or.inr ⟨h1, ?_, h3, ?_, fun e => absurd e hpne, fun _ => h6 (by simp)⟩
            · rcases h2 with h2 | h2
              · exact Or.inl h2
              · subst h2
                cases ended with
                | true => exact Or.inl rfl
                | false => exact absurd ⟨rfl, rfl⟩ hr
            · rw [h4, planLines_append, planLines_append]
              simp [planLines, rowLines, ho2]
theorem linesOf_join (s : Tx) (h : (linesOf s).2 = true) : linesT 10 (linesOf s).1 = s := by
  unfold linesOf at h ⊢
  split at h
  · rename_i hl
    rw [if_pos hl]
    have hne : splitT 10 s ≠ [] := splitG_ne 10 s []
    have e : splitT 10 s = (splitT 10 s).dropLast ++ [[]] := by
      have h1 := List.dropLast_concat_getLast hne
      rw [List.getLast?_eq_some_getLast hne] at hl
      rw [Option.some.inj hl] at h1
      exact h1.symm
    have := join_lines 10 (splitT 10 s).dropLast
    rw [← e] at this
    rw [← this]
    exact join_split 10 s []
  · cases h
theorem parseT_back (s : Tx) : ((parseT s).2 ≠ 0 ∧ (parseT s).1 = []) ∨ ((parseT s).2 = 0 ∧ rightP (parseT s).1 = true ∧ textP (parseT s).1 = s) := by
  unfold parseT
  split
  · exact Or.inl ⟨by decide, rfl⟩
  · rename_i hne
    rcases parse_back _ _ _ _ _ _ (⟨rfl, by decide⟩ : Upto []) (show parseG (linesOf s).2 (linesOf s).1 0 [] = ((parseG (linesOf s).2 (linesOf s).1 0 []).1, (parseG (linesOf s).2 (linesOf s).1 0 []).2) from rfl) with h1 | ⟨h1, h2, h3, h4, h5, _⟩
    · exact Or.inl h1
    · right
      have he : (linesOf s).2 = true := h2.resolve_right hne
      have hq := h5 rfl hne
      refine ⟨h1, ?_, ?_⟩
      · have := h3.len
        unfold rightP
        rw [h3.right]
        have : 0 < (parseG (linesOf s).2 (linesOf s).1 0 []).1.length := List.length_pos_iff.2 hq
        simp
        omega
      · unfold textP
        rw [h4]
        exact linesOf_join s he
end Go.Proofs.YtfghabjpcjcllaaDoor
