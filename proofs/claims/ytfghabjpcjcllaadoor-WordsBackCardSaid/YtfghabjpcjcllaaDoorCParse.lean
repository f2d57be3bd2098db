/- The code's lines as a plan. -/
import Derived.Test.YtfghabjpcjcllaaDoorCIter
import Derived.Test.YtfghabjpcjcllaaDoorCAdd
namespace Go.Proofs.YtfghabjpcjcllaaDoor
open Go.RowKit Go.Shelf
set_option linter.unusedVariables false
attribute [local go_sem] Oper.semAt_some

theorem marks_len (s : Tx) : (marksT s).length ≤ s.length + 1 := by
  have h1 : ∀ (s cur : Tx), (splitG 10 cur s).length ≤ s.length + 1 := by
    intro s
    induction s with
    | nil => intro cur; simp [splitG]
    | cons x s ih =>
      intro cur
      rw [splitG_cons]
      split
      · have := ih []
        simp only [List.length_cons]
        omega
      · have := ih (cur ++ [x])
        simp only [List.length_cons]
        omega
  have h2 : ∀ ws : List Tx, (marksP ws).length ≤ ws.length := by
    intro ws
    induction ws with
    | nil => simp [marksP]
    | cons w ws ih =>
      cases ws with
      | nil =>
        unfold marksP
        split <;> simp
      | cons v ws =>
        rw [marksP_cons w (by simp)]
        simp only [List.length_cons] at ih ⊢
        omega
  exact Nat.le_trans (h2 _) (h1 s [])

/-- The lines have made this plan, and it may go on. -/
structure Ran (pre : List (Tx × Bool)) (p : List (List Opr)) : Prop where
  run : ∀ rest, parseC (pre ++ rest) 0 [] = parseC rest pre.length p
  len : p.length ≤ 8
  rows : ∀ l ∈ p, l.length ≤ 16
theorem Ran.nil : Ran [] [] := ⟨fun _ => rfl, by decide, fun l h => by simp at h⟩
theorem addV_small {p q : List (List Opr)} {l : Tx} (h : addV p l = some q) (h1 : p.length ≤ 8) (h2 : ∀ l ∈ p, l.length ≤ 16) : q.length ≤ 8 ∧ ∀ l ∈ q, l.length ≤ 16 := by
  unfold addV at h
  split at h
  · split at h
    · cases h
      refine ⟨by simp; omega, fun l hl => ?_⟩
      rcases List.mem_append.1 hl with hl | hl
      · exact h2 l hl
      · obtain rfl := List.mem_singleton.1 hl
        simp
    · cases h
  · split at h
    · cases h
    · rename_i hn
      split at h
      · cases h
        have hp : p ≠ [] := fun e => hn (Or.inl e)
        obtain ⟨x, hx⟩ : ∃ x, p.getLast? = some x := ⟨_, List.getLast?_eq_some_getLast hp⟩
        have hx16 : x.length < 16 := by
          rcases Nat.lt_or_ge x.length 16 with h | h
          · exact h
          · exact absurd (Or.inr (by unfold lastLen; rw [hx]; exact h)) hn
        unfold more
        rw [hx]
        have hpl : 1 ≤ p.length := by cases p with | nil => exact absurd rfl hp | cons a b => simp
        refine ⟨by simp; omega, fun l hl => ?_⟩
        rcases List.mem_append.1 hl with hl | hl
        · exact h2 l (List.dropLast_subset p hl)
        · obtain rfl := List.mem_singleton.1 hl
          simp
          omega
      · cases h
theorem Ran.more {pre : List (Tx × Bool)} {p q : List (List Opr)} {l : Tx} (h : Ran pre p) (ha : addV p l = some q) : Ran (pre ++ [(l, true)]) q := by
  have := addV_small ha h.len h.rows
  refine ⟨fun rest => ?_, this.1, this.2⟩
  rw [List.append_assoc, h.run, List.length_append]
  show (match addV p l with | none => ([], pre.length + 1) | some q => if true = true then parseC rest (pre.length + 1) q else ([], pre.length + 1)) = _
  rw [ha]
  rfl
theorem Ran.fail {pre : List (Tx × Bool)} {p : List (List Opr)} {l : Tx} {e : Bool} (h : Ran pre p) (ha : addV p l = none ∨ e = false) : ∀ rest, parseC (pre ++ [(l, e)] ++ rest) 0 [] = ([], (pre ++ [(l, e)]).length) := fun rest => by
  rw [List.append_assoc, h.run, List.length_append]
  show (match addV p l with | none => ([], pre.length + 1) | some q => if e = true then parseC rest (pre.length + 1) q else ([], pre.length + 1)) = _
  rcases ha with ha | ha
  · rw [ha]; rfl
  · subst ha
    cases addV p l <;> rfl
theorem add_line (base : Nat) (s : Sl) (V : List Sl) (p : List (List Opr)) (t : Tx) (w : World) (hP : PG w 40 25 41 base s V p) (h8 : p.length ≤ 8) (h16 : ∀ l ∈ p, l.length ≤ 16) (hb : base ≤ w.heap.size) (hl : t.length ≤ 100000) (hG : Gl w) :
    Calls Tryd.prog 31 #[s.val, .string (bs t)] w (GivesA base s V w p t) := by
  by_cases h : t = wGo
  · subst h
    exact add_go base s V p w hP h8 hb
  · exact add_op base s V p t w hP h8 h16 hb h hl hG
theorem keeps_of_turn {S : Nat → Prop} {w w' : World} (t : Turn S w w') (hS : ∀ b, S b → ∃ cur e, w.heap[b]? = some (.cells cur e (0, 0))) : KeepsOthers w w' :=
  ⟨t.size, fun k o hk ho => t.heap (fun h => by
    obtain ⟨cur, e, hc⟩ := hS k h
    rw [hc] at hk
    cases hk
    simp [Obj.isCells] at ho) hk⟩
theorem marks_short {s : Tx} : ∀ x ∈ marksT s, x.1.length ≤ s.length := by
  have h1 : ∀ (s cur : Tx) (n : Nat), cur.length + s.length ≤ n → ∀ w ∈ splitG 10 cur s, w.length ≤ n := by
    intro s
    induction s with
    | nil => intro cur n hn w hw; simp [splitG] at hw; subst hw; simpa using hn
    | cons x s ih =>
      intro cur n hn w hw
      rw [splitG_cons] at hw
      simp only [List.length_cons] at hn
      split at hw
      · rcases List.mem_cons.1 hw with rfl | hw
        · omega
        · exact ih [] n (by simp; omega) w hw
      · exact ih _ n (by simp; omega) w hw
  have h2 : ∀ (ws : List Tx) (n : Nat), (∀ w ∈ ws, w.length ≤ n) → ∀ x ∈ marksP ws, x.1.length ≤ n := by
    intro ws
    induction ws with
    | nil => intro n _ x hx; simp [marksP] at hx
    | cons w ws ih =>
      intro n hn x hx
      cases ws with
      | nil =>
        unfold marksP at hx
        split at hx
        · simp at hx
        · obtain rfl := List.mem_singleton.1 hx
          exact hn w (by simp)
      | cons v ws =>
        rw [marksP_cons w (by simp)] at hx
        rcases List.mem_cons.1 hx with rfl | hx
        · exact hn w (by simp)
        · exact ih n (fun w hw => hn w (by simp [hw])) x hx
  exact h2 _ _ (h1 s [] s.length (by simp))
end Go.Proofs.YtfghabjpcjcllaaDoor
