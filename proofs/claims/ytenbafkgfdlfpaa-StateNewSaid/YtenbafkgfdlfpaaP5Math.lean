/- The mathematics of the pool: rows by numbers, how often a thing is there, what is taken and what is given. -/
import Derived.Test.YtenbafkgfdlfpaaGBase
namespace Go.Proofs.Ytenbafkgfdlfpaa.R5
set_option linter.unusedVariables false

def upd (M : Nat → List Int) (i : Nat) (l : List Int) : Nat → List Int := fun k => if k = i then l else M k
theorem upd_same (M : Nat → List Int) (i : Nat) (l : List Int) : upd M i l i = l := if_pos rfl
theorem upd_other (M : Nat → List Int) {i k : Nat} (l : List Int) (h : k ≠ i) : upd M i l k = M k := if_neg h
/-- How often v is in the first n rows; how much is in them; all of it. -/
def tot (M : Nat → List Int) (v : Int) : Nat → Nat
  | 0 => 0
  | n + 1 => tot M v n + (M n).count v
def len (M : Nat → List Int) : Nat → Nat
  | 0 => 0
  | n + 1 => len M n + (M n).length
def rowsL (M : Nat → List Int) : Nat → List Int
  | 0 => []
  | n + 1 => rowsL M n ++ M n
theorem count_rowsL (M : Nat → List Int) (v : Int) (n : Nat) : (rowsL M n).count v = tot M v n := by
  induction n with
  | zero => rfl
  | succ n ih => simp [rowsL, tot, ih]
theorem length_rowsL (M : Nat → List Int) (n : Nat) : (rowsL M n).length = len M n := by
  induction n with
  | zero => rfl
  | succ n ih => simp [rowsL, len, ih]
theorem tot_far (M : Nat → List Int) (v : Int) (i : Nat) (l : List Int) (n : Nat) (h : n ≤ i) : tot (upd M i l) v n = tot M v n := by
  induction n with
  | zero => rfl
  | succ n ih =>
    unfold tot
    rw [ih (by omega), upd_other M l (by omega)]
theorem tot_upd (M : Nat → List Int) (v : Int) (i : Nat) (l : List Int) (n : Nat) (h : i < n) : tot (upd M i l) v n + (M i).count v = tot M v n + l.count v := by
  induction n with
  | zero => omega
  | succ n ih =>
    unfold tot
    by_cases hi : i = n
    · subst hi
      rw [tot_far M v i l i (Nat.le_refl _), upd_same]; omega
    · rw [upd_other M l (by omega)]
      have := ih (by omega)
      omega
theorem len_far (M : Nat → List Int) (i : Nat) (l : List Int) (n : Nat) (h : n ≤ i) : len (upd M i l) n = len M n := by
  induction n with
  | zero => rfl
  | succ n ih =>
    unfold len
    rw [ih (by omega), upd_other M l (by omega)]
theorem len_upd (M : Nat → List Int) (i : Nat) (l : List Int) (n : Nat) (h : i < n) : len (upd M i l) n + (M i).length = len M n + l.length := by
  induction n with
  | zero => omega
  | succ n ih =>
    unfold len
    by_cases hi : i = n
    · subst hi
      rw [len_far M i l i (Nat.le_refl _), upd_same]; omega
    · rw [upd_other M l (by omega)]
      have := ih (by omega)
      omega
theorem len_row (M : Nat → List Int) (n i : Nat) (h : i < n) : (M i).length ≤ len M n := by
  induction n with
  | zero => omega
  | succ n ih =>
    unfold len
    by_cases hi : i = n
    · subst hi; omega
    · have := ih (by omega); omega
theorem tot_row (M : Nat → List Int) (v : Int) (n i : Nat) (h : i < n) : (M i).count v ≤ tot M v n := by
  induction n with
  | zero => omega
  | succ n ih =>
    unfold tot
    by_cases hi : i = n
    · subst hi; omega
    · have := ih (by omega); omega

/-- Things from 0 to below m, each once: at most m. -/
theorem few (m : Nat) : ∀ l : List Int, l.Nodup → (∀ v ∈ l, 0 ≤ v ∧ v < (m : Int)) → l.length ≤ m := by
  induction m with
  | zero =>
    intro l _ h
    cases l with
    | nil => simp
    | cons x r => have := h x (by simp); omega
  | succ m ih =>
    intro l hn h
    by_cases hm : (m : Int) ∈ l
    · have h1 := ih (l.erase (m : Int)) (hn.erase _) (fun v hv => by
        have := (hn.mem_erase_iff).1 hv
        have h2 := h v this.2
        omega)
      rw [List.length_erase_of_mem hm] at h1
      omega
    · have := ih l hn (fun v hv => by
        have h2 := h v hv
        have h3 : v ≠ m := fun e => hm (e ▸ hv)
        omega)
      omega

/-- A row of which k things went, one by one, from its end; a row that they came behind of. -/
def shF (F : List Int) (k : Nat) : List Int := F.take (F.length - k)
def shT (F T : List Int) (k : Nat) : List Int := T ++ (F.drop (F.length - k)).reverse
def lastOf (l : List Int) : Int := l.getD (l.length - 1) 0
def cut (l : List Int) : List Int := l.take (l.length - 1)
theorem shF_zero (F : List Int) : shF F 0 = F := by simp [shF]
theorem shT_zero (F T : List Int) : shT F T 0 = T := by simp [shT]
theorem shF_length (F : List Int) (k : Nat) : (shF F k).length = F.length - k := by simp [shF]
theorem shT_length (F T : List Int) (k : Nat) (h : k ≤ F.length) : (shT F T k).length = T.length + k := by simp [shT]; omega
theorem shF_next (F : List Int) (k : Nat) : cut (shF F k) = shF F (k + 1) := by
  unfold cut
  rw [shF_length]
  unfold shF
  rw [List.take_take, Nat.min_eq_left (by omega)]
  congr 1
theorem shT_next (F T : List Int) (k : Nat) (h : k < F.length) : shT F T k ++ [lastOf (shF F k)] = shT F T (k + 1) := by
  unfold lastOf
  rw [shF_length]
  unfold shT shF
  rw [List.append_assoc]
  congr 1
  obtain ⟨m, hm⟩ : ∃ m, F.length - k = m + 1 := ⟨F.length - k - 1, by omega⟩
  rw [hm, show F.length - (k + 1) = m by omega, List.drop_eq_getElem_cons (show m < F.length by omega), List.reverse_cons]
  congr 1
  simp [List.getD, show m < F.length by omega]
theorem sh_count (F T : List Int) (k : Nat) (v : Int) : (shF F k).count v + (shT F T k).count v = F.count v + T.count v := by
  unfold shF shT
  have h : (F.take (F.length - k) ++ F.drop (F.length - k)).count v = F.count v := by rw [List.take_append_drop]
  rw [List.count_append] at h
  rw [List.count_append, List.count_reverse]
  omega
theorem cut_count (l : List Int) (v : Int) (h : l ≠ []) : (cut l).count v + [lastOf l].count v = l.count v := by
  have hl : l.length ≠ 0 := fun e => h (List.eq_nil_of_length_eq_zero e)
  have e : cut l ++ [lastOf l] = l := by
    unfold cut lastOf
    have : l.length - 1 < l.length := by omega
    have h1 : l.getD (l.length - 1) 0 = l[l.length - 1] := by simp [List.getD, this]
    rw [h1, ← List.take_succ_eq_append_getElem this, show l.length - 1 + 1 = l.length by omega, List.take_length]
  rw [← List.count_append, e]
theorem cut_length (l : List Int) : (cut l).length = l.length - 1 := by simp [cut]

/-- What there is: takers, how many things, how many in a cache, how many were given out ever; the rows: the caches, and behind them the middle. -/
structure St where
  n : Nat
  size : Nat
  most : Nat
  fresh : Nat
  M : Nat → List Int
def St.tot (s : St) (v : Int) : Nat := Go.Proofs.Ytenbafkgfdlfpaa.R5.tot s.M v (s.n + 1)
def St.len (s : St) : Nat := Go.Proofs.Ytenbafkgfdlfpaa.R5.len s.M (s.n + 1)
structure Good (s : St) : Prop where
  n : s.n ≤ 8
  size : s.size ≤ 64
  most : 1 ≤ s.most ∧ s.most ≤ 16
  fresh : s.fresh ≤ s.size
  short : ∀ i, i < s.n → (s.M i).length ≤ s.most
  once : ∀ v, s.tot v ≤ 1
  low : ∀ v, 0 < s.tot v → 0 ≤ v ∧ v < (s.fresh : Int)
theorem Good.len {s : St} (h : Good s) : s.len ≤ s.fresh := by
  unfold St.len
  rw [← length_rowsL]
  refine few _ _ (List.nodup_iff_count.2 fun v => ?_) fun v hv => ?_
  · rw [count_rowsL]; exact h.once v
  · refine h.low v ?_
    unfold St.tot
    rw [← count_rowsL]
    exact List.count_pos_iff.2 hv
theorem Good.row {s : St} (h : Good s) {i : Nat} (hi : i ≤ s.n) : (s.M i).length ≤ 64 := by
  have h1 := h.len
  have h2 := len_row s.M (s.n + 1) i (by omega)
  have h3 := h.fresh
  have h4 := h.size
  unfold St.len at h1
  omega

/-- k things of row i go behind row j. -/
def moveM (M : Nat → List Int) (i j k : Nat) : Nat → List Int := upd (upd M i (shF (M i) k)) j (shT (M i) (M j) k)
theorem move_tot (M : Nat → List Int) {i j n : Nat} (k : Nat) (hi : i < n) (hj : j < n) (hij : i ≠ j) (v : Int) : tot (moveM M i j k) v n = tot M v n := by
  have h1 := tot_upd (upd M i (shF (M i) k)) v j (shT (M i) (M j) k) n hj
  have h2 := tot_upd M v i (shF (M i) k) n hi
  have h3 := sh_count (M i) (M j) k v
  rw [upd_other M _ (Ne.symm hij)] at h1
  unfold moveM
  omega
theorem move_len (M : Nat → List Int) {i j n : Nat} (k : Nat) (hi : i < n) (hj : j < n) (hij : i ≠ j) (hk : k ≤ (M i).length) : len (moveM M i j k) n = len M n := by
  have h1 := len_upd (upd M i (shF (M i) k)) j (shT (M i) (M j) k) n hj
  have h2 := len_upd M i (shF (M i) k) n hi
  rw [upd_other M _ (Ne.symm hij)] at h1
  rw [shF_length] at h2
  rw [shT_length _ _ _ hk] at h1
  unfold moveM
  omega
theorem move_i (M : Nat → List Int) {i j : Nat} (k : Nat) (hij : i ≠ j) : moveM M i j k i = shF (M i) k := by
  unfold moveM; rw [upd_other _ _ hij, upd_same]
theorem move_j (M : Nat → List Int) (i j k : Nat) : moveM M i j k j = shT (M i) (M j) k := upd_same _ _ _
theorem move_k (M : Nat → List Int) {i j m : Nat} (k : Nat) (h1 : m ≠ i) (h2 : m ≠ j) : moveM M i j k m = M m := by
  unfold moveM; rw [upd_other _ _ h2, upd_other _ _ h1]
theorem move_zero (M : Nat → List Int) (i j : Nat) : moveM M i j 0 = M := by
  funext m
  unfold moveM upd
  rw [shF_zero, shT_zero]
  by_cases h1 : m = j
  · rw [if_pos h1, h1]
  · rw [if_neg h1]
    by_cases h2 : m = i
    · rw [if_pos h2, h2]
    · rw [if_neg h2]

def half1 (m : Nat) : Nat := max (m / 2) 1
def pullK (s : St) (g : Nat) : Nat := if s.M g = [] then min (s.M s.n).length (half1 s.most) else 0
def pulled (s : St) (g : Nat) : St := { s with M := moveM s.M s.n g (pullK s g) }
def spillK (s : St) (g : Nat) : Nat := if (s.M g).length = s.most then s.most - s.most / 2 else 0
def spilled (s : St) (g : Nat) : St := { s with M := moveM s.M g s.n (spillK s g) }
theorem pulled_none {s : St} {g : Nat} (h : s.M g ≠ []) : pulled s g = s := by
  unfold pulled pullK
  rw [if_neg h, move_zero]
theorem spilled_none {s : St} {g : Nat} (h : (s.M g).length ≠ s.most) : spilled s g = s := by
  unfold spilled spillK
  rw [if_neg h, move_zero]
theorem pullK_le (s : St) (g : Nat) : pullK s g ≤ (s.M s.n).length := by
  unfold pullK
  by_cases h : s.M g = []
  · rw [if_pos h]; omega
  · rw [if_neg h]; omega
theorem spillK_le (s : St) (g : Nat) : spillK s g ≤ (s.M g).length := by
  unfold spillK
  by_cases h : (s.M g).length = s.most
  · rw [if_pos h]; omega
  · rw [if_neg h]; omega
theorem Good.pulled {s : St} (h : Good s) {g : Nat} (hg : g < s.n) : Good (pulled s g) := by
  refine ⟨h.n, h.size, h.most, h.fresh, fun i hi => ?_, fun v => ?_, fun v hv => ?_⟩
  · show (moveM s.M s.n g (pullK s g) i).length ≤ s.most
    have hi' : i < s.n := hi
    by_cases hig : i = g
    · subst hig
      rw [move_j]
      by_cases he : s.M i = []
      · rw [shT_length _ _ _ (pullK_le _ _), he]
        unfold pullK half1
        rw [if_pos he]
        have := h.most
        simp
        omega
      · have : pullK s i = 0 := if_neg he
        rw [this, shT_zero]
        exact h.short i hi'
    · rw [move_k _ _ (by omega) hig]
      exact h.short i hi'
  · have := move_tot s.M (pullK s g) (n := s.n + 1) (i := s.n) (j := g) (by omega) (by omega) (by omega) v
    have h1 := h.once v
    unfold St.tot at h1 ⊢
    show Go.Proofs.Ytenbafkgfdlfpaa.R5.tot (moveM s.M s.n g (pullK s g)) v (s.n + 1) ≤ 1
    omega
  · have := move_tot s.M (pullK s g) (n := s.n + 1) (i := s.n) (j := g) (by omega) (by omega) (by omega) v
    refine h.low v ?_
    unfold St.tot at hv ⊢
    have hv' : 0 < Go.Proofs.Ytenbafkgfdlfpaa.R5.tot (moveM s.M s.n g (pullK s g)) v (s.n + 1) := hv
    omega
theorem pulled_tot {s : St} {g : Nat} (hg : g < s.n) (v : Int) : (pulled s g).tot v = s.tot v :=
  move_tot s.M (pullK s g) (n := s.n + 1) (i := s.n) (j := g) (by omega) (by omega) (by omega) v
theorem pulled_len {s : St} {g : Nat} (hg : g < s.n) : (pulled s g).len = s.len :=
  move_len s.M (pullK s g) (n := s.n + 1) (i := s.n) (j := g) (by omega) (by omega) (by omega) (pullK_le _ _)
theorem spilled_tot {s : St} {g : Nat} (hg : g < s.n) (v : Int) : (spilled s g).tot v = s.tot v :=
  move_tot s.M (spillK s g) (n := s.n + 1) (i := g) (j := s.n) (by omega) (by omega) (by omega) v
theorem spilled_len {s : St} {g : Nat} (hg : g < s.n) : (spilled s g).len = s.len :=
  move_len s.M (spillK s g) (n := s.n + 1) (i := g) (j := s.n) (by omega) (by omega) (by omega) (spillK_le _ _)
/-- Behind a spill the cache has room. -/
theorem spilled_row {s : St} (h : Good s) {g : Nat} (hg : g < s.n) : ((spilled s g).M g).length < s.most ∧ ∀ i, i < s.n → ((spilled s g).M i).length ≤ s.most := by
  have hm := h.most
  refine ⟨?_, fun i hi => ?_⟩
  · show (moveM s.M g s.n (spillK s g) g).length < s.most
    rw [move_i _ _ (by omega), shF_length]
    have := h.short g hg
    unfold spillK
    by_cases he : (s.M g).length = s.most
    · rw [if_pos he]; omega
    · rw [if_neg he]; omega
  · show (moveM s.M g s.n (spillK s g) i).length ≤ s.most
    by_cases hig : i = g
    · subst hig
      rw [move_i _ _ (by omega), shF_length]
      have := h.short i hg
      omega
    · rw [move_k _ _ hig (by omega)]
      exact h.short i hi

def takerB (s : St) (g : Int) : Bool := decide (0 ≤ g ∧ g < (s.n : Int))
def liveB (s : St) (x : Int) : Bool := decide (0 ≤ x ∧ x < (s.fresh : Int) ∧ s.tot x = 0)
def cnt (s : St) : Int := (s.fresh : Int) - (s.len : Int)
def withM (s : St) (g : Nat) (l : List Int) : St := { s with M := upd s.M g l }
def withF (s : St) (f : Nat) : St := { s with fresh := f }

def takeN (s : St) (g : Nat) : St × Int × Bool :=
  if (pulled s g).M g = [] then (if s.fresh < s.size then (withF (pulled s g) (s.fresh + 1), (s.fresh : Int), true) else (pulled s g, 0, false))
  else (withM (pulled s g) g (cut ((pulled s g).M g)), lastOf ((pulled s g).M g), true)
def takeS (s : St) (g : Int) : St := if takerB s g = true then (takeN s g.toNat).1 else s
def takeX (s : St) (g : Int) : Int := if takerB s g = true then (takeN s g.toNat).2.1 else 0
def takeB (s : St) (g : Int) : Bool := if takerB s g = true then (takeN s g.toNat).2.2 else false
def giveB (s : St) (g x : Int) : Bool := takerB s g && liveB s x
def giveN (s : St) (g : Nat) (x : Int) : St := withM (spilled s g) g ((spilled s g).M g ++ [x])
def giveS (s : St) (g x : Int) : St := if giveB s g x = true then giveN s g.toNat x else s

theorem count_one (x v : Int) : [x].count v = if v = x then 1 else 0 := by
  by_cases h : v = x
  · subst h; simp
  · rw [if_neg h, List.count_eq_zero]; simpa using h

/-- What a Take does to what is there. -/
structure Took (s s' : St) (x : Int) : Prop where
  good : Good s'
  range : 0 ≤ x ∧ x < (s.size : Int)
  out : liveB s x = false
  live : ∀ y, liveB s' y = (liveB s y || decide (y = x))
  cnt : cnt s' = cnt s + 1
  same : s'.n = s.n ∧ s'.size = s.size ∧ s'.most = s.most
/-- Nothing that can be told has turned. -/
structure Held (s s' : St) : Prop where
  good : Good s'
  live : ∀ y, liveB s' y = liveB s y
  cnt : cnt s' = cnt s
  same : s'.n = s.n ∧ s'.size = s.size ∧ s'.most = s.most
theorem Held.refl {s : St} (h : Good s) : Held s s := ⟨h, fun _ => rfl, rfl, rfl, rfl, rfl⟩

theorem takeN_true {s : St} (h : Good s) {g : Nat} (hg : g < s.n) (hb : (takeN s g).2.2 = true) : Took s (takeN s g).1 (takeN s g).2.1 := by
  have hp := h.pulled hg
  have ht := pulled_tot (s := s) hg
  have hl := pulled_len (s := s) hg
  unfold takeN at hb ⊢
  by_cases he : (pulled s g).M g = []
  · rw [if_pos he] at hb ⊢
    by_cases hf : s.fresh < s.size
    · rw [if_pos hf] at hb ⊢
      have hz : ∀ v, s.tot v = 0 ∨ (0 ≤ v ∧ v < (s.fresh : Int)) := fun v => by
        rcases Nat.eq_zero_or_pos (s.tot v) with e | e
        · exact Or.inl e
        · exact Or.inr (h.low v e)
      refine ⟨⟨hp.n, hp.size, hp.most, hf, hp.short, hp.once, fun v hv => ?_⟩, ?_, ?_, fun y => ?_, ?_, rfl, rfl, rfl⟩
      · have h1 : 0 ≤ v ∧ v < (s.fresh : Int) := hp.low v hv
        show 0 ≤ v ∧ v < ((s.fresh + 1 : Nat) : Int)
        omega
      · show 0 ≤ (s.fresh : Int) ∧ (s.fresh : Int) < (s.size : Int)
        omega
      · refine decide_eq_false fun e => ?_
        have e2 : (s.fresh : Int) < (s.fresh : Int) := e.2.1
        omega
      · have h1 : (withF (pulled s g) (s.fresh + 1)).tot y = s.tot y := ht y
        unfold liveB
        rw [h1, ← Bool.decide_or, decide_eq_decide]
        show 0 ≤ y ∧ y < ((s.fresh + 1 : Nat) : Int) ∧ s.tot y = 0 ↔ _
        have h2 := hz s.fresh
        constructor
        · rintro ⟨a, b, c⟩
          by_cases hy : y = (s.fresh : Int)
          · exact Or.inr hy
          · exact Or.inl ⟨a, by omega, c⟩
        · rintro (⟨a, b, c⟩ | hy)
          · exact ⟨a, by omega, c⟩
          · have hy' : y = (s.fresh : Int) := hy
            subst hy'
            refine ⟨by omega, by omega, ?_⟩
            rcases h2 with e | e
            · exact e
            · omega
      · show ((s.fresh + 1 : Nat) : Int) - ((pulled s g).len : Int) = (s.fresh : Int) - (s.len : Int) + 1
        rw [hl]; omega
    · rw [if_neg hf] at hb
      cases hb
  · rw [if_neg he] at hb ⊢
    show Took s (withM (pulled s g) g (cut ((pulled s g).M g))) (lastOf ((pulled s g).M g))
    have hu := fun v => tot_upd (pulled s g).M v g (cut ((pulled s g).M g)) (s.n + 1) (by omega)
    have hc := fun v => cut_count ((pulled s g).M g) v he
    have hrow : ∀ v, ((pulled s g).M g).count v ≤ s.tot v := fun v => by
      rw [← ht v]; exact tot_row (pulled s g).M v (s.n + 1) g (by omega)
    have htt : ∀ v, (withM (pulled s g) g (cut ((pulled s g).M g))).tot v + [lastOf ((pulled s g).M g)].count v = s.tot v := fun v => by
      have h1 := hu v
      have h2 := hc v
      have h3 := ht v
      unfold St.tot at h3 ⊢
      show Go.Proofs.Ytenbafkgfdlfpaa.R5.tot (upd (pulled s g).M g (cut ((pulled s g).M g))) v (s.n + 1) + _ = _
      have h4 : Go.Proofs.Ytenbafkgfdlfpaa.R5.tot (pulled s g).M v (s.n + 1) = Go.Proofs.Ytenbafkgfdlfpaa.R5.tot s.M v (s.n + 1) := h3
      omega
    obtain ⟨x, hx⟩ : ∃ x, x = lastOf ((pulled s g).M g) := ⟨_, rfl⟩
    rw [← hx] at htt ⊢
    have hxt := htt x
    rw [count_one, if_pos rfl] at hxt
    have hx1 := h.low x (by omega)
    have hx2 := h.once x
    have hfr := h.fresh
    refine ⟨⟨hp.n, hp.size, hp.most, hp.fresh, fun i hi => ?_, fun v => ?_, fun v hv => ?_⟩, ?_, ?_, fun y => ?_, ?_, rfl, rfl, rfl⟩
    · have hi' : i < s.n := hi
      show (upd (pulled s g).M g (cut ((pulled s g).M g)) i).length ≤ s.most
      by_cases hig : i = g
      · subst hig
        rw [upd_same, cut_length]
        have : ((pulled s i).M i).length ≤ s.most := hp.short i hi'
        omega
      · rw [upd_other _ _ hig]
        exact hp.short i hi'
    · have h1 := htt v
      have h2 := h.once v
      omega
    · have h1 := htt v
      exact h.low v (by omega)
    · exact ⟨hx1.1, by show x < (s.size : Int); omega⟩
    · refine decide_eq_false fun e => ?_
      have := e.2.2
      omega
    · have h1 := htt y
      rw [count_one] at h1
      unfold liveB
      rw [← Bool.decide_or, decide_eq_decide]
      show 0 ≤ y ∧ y < (s.fresh : Int) ∧ (withM (pulled s g) g (cut ((pulled s g).M g))).tot y = 0 ↔ _
      by_cases hy : y = x
      · subst hy
        rw [if_pos rfl] at h1
        constructor
        · intro _; exact Or.inr rfl
        · intro _; exact ⟨hx1.1, hx1.2, by omega⟩
      · rw [if_neg hy] at h1
        constructor
        · rintro ⟨a, b, c⟩; exact Or.inl ⟨a, b, by omega⟩
        · rintro (⟨a, b, c⟩ | e)
          · exact ⟨a, b, by omega⟩
          · exact absurd e hy
    · have h1 := len_upd (pulled s g).M g (cut ((pulled s g).M g)) (s.n + 1) (by omega)
      rw [cut_length] at h1
      have h2 : ((pulled s g).M g).length ≠ 0 := fun e => he (List.eq_nil_of_length_eq_zero e)
      have h3 : Go.Proofs.Ytenbafkgfdlfpaa.R5.len (pulled s g).M (s.n + 1) = s.len := hl
      show (s.fresh : Int) - (Go.Proofs.Ytenbafkgfdlfpaa.R5.len (upd (pulled s g).M g (cut ((pulled s g).M g))) (s.n + 1) : Int) = (s.fresh : Int) - (s.len : Int) + 1
      omega

theorem takeN_false {s : St} (h : Good s) {g : Nat} (hg : g < s.n) (hb : (takeN s g).2.2 = false) : Held s (takeN s g).1 := by
  have hp := h.pulled hg
  have ht := pulled_tot (s := s) hg
  have hl := pulled_len (s := s) hg
  unfold takeN at hb ⊢
  by_cases he : (pulled s g).M g = []
  · rw [if_pos he] at hb ⊢
    by_cases hf : s.fresh < s.size
    · rw [if_pos hf] at hb; cases hb
    · rw [if_neg hf]
      refine ⟨hp, fun y => ?_, ?_, rfl, rfl, rfl⟩
      · unfold liveB
        rw [ht y]
        rfl
      · show (s.fresh : Int) - ((pulled s g).len : Int) = _
        rw [hl]; rfl
  · rw [if_neg he] at hb; cases hb

theorem take_true {s : St} (h : Good s) {g : Int} (hb : takeB s g = true) : Took s (takeS s g) (takeX s g) := by
  unfold takeB takeS takeX at *
  by_cases hg : takerB s g = true
  · rw [if_pos hg] at hb ⊢
    rw [if_pos hg]
    have := of_decide_eq_true hg
    exact takeN_true h (by omega) hb
  · rw [if_neg hg] at hb; cases hb
theorem take_false {s : St} (h : Good s) {g : Int} (hb : takeB s g = false) : Held s (takeS s g) := by
  unfold takeB takeS at *
  by_cases hg : takerB s g = true
  · rw [if_pos hg] at hb ⊢
    have := of_decide_eq_true hg
    exact takeN_false h (by omega) hb
  · rw [if_neg hg]; exact Held.refl h
theorem take_good {s : St} (h : Good s) (g : Int) : Good (takeS s g) := by
  cases hb : takeB s g with
  | true => exact (take_true h hb).good
  | false => exact (take_false h hb).good
theorem take_same (s : St) (g : Int) : (takeS s g).n = s.n ∧ (takeS s g).size = s.size ∧ (takeS s g).most = s.most := by
  unfold takeS takeN
  by_cases hg : takerB s g = true
  · rw [if_pos hg]
    by_cases h1 : (pulled s g.toNat).M g.toNat = []
    · rw [if_pos h1]
      by_cases h2 : s.fresh < s.size
      · rw [if_pos h2]; exact ⟨rfl, rfl, rfl⟩
      · rw [if_neg h2]; exact ⟨rfl, rfl, rfl⟩
    · rw [if_neg h1]; exact ⟨rfl, rfl, rfl⟩
  · rw [if_neg hg]; exact ⟨rfl, rfl, rfl⟩

/-- What a Give does. -/
structure Gave (s s' : St) (x : Int) : Prop where
  good : Good s'
  range : 0 ≤ x ∧ x < (s.size : Int)
  out : liveB s x = true
  live : ∀ y, liveB s' y = (liveB s y && !decide (y = x))
  cnt : cnt s' = cnt s - 1
  same : s'.n = s.n ∧ s'.size = s.size ∧ s'.most = s.most
theorem giveN_true {s : St} (h : Good s) {g : Nat} {x : Int} (hg : g < s.n) (hx : liveB s x = true) : Gave s (giveN s g x) x := by
  have ht := spilled_tot (s := s) hg
  have hl := spilled_len (s := s) hg
  obtain ⟨hs1, hs2⟩ := spilled_row h hg
  have hlive := of_decide_eq_true hx
  have hfr := h.fresh
  have htt : ∀ v, (giveN s g x).tot v = s.tot v + [x].count v := fun v => by
    have h1 := tot_upd (spilled s g).M v g ((spilled s g).M g ++ [x]) (s.n + 1) (by omega)
    rw [List.count_append] at h1
    have h3 := ht v
    unfold St.tot at h3 ⊢
    show Go.Proofs.Ytenbafkgfdlfpaa.R5.tot (upd (spilled s g).M g ((spilled s g).M g ++ [x])) v (s.n + 1) = _
    have h4 : Go.Proofs.Ytenbafkgfdlfpaa.R5.tot (spilled s g).M v (s.n + 1) = Go.Proofs.Ytenbafkgfdlfpaa.R5.tot s.M v (s.n + 1) := h3
    omega
  refine ⟨⟨h.n, h.size, h.most, h.fresh, fun i hi => ?_, fun v => ?_, fun v hv => ?_⟩, ?_, hx, fun y => ?_, ?_, rfl, rfl, rfl⟩
  · have hi' : i < s.n := hi
    show (upd (spilled s g).M g ((spilled s g).M g ++ [x]) i).length ≤ s.most
    by_cases hig : i = g
    · subst hig
      rw [upd_same]
      simp
      omega
    · rw [upd_other _ _ hig]
      exact hs2 i hi'
  · have h1 := htt v
    have h2 := h.once v
    rw [count_one] at h1
    by_cases hv : v = x
    · subst hv; rw [if_pos rfl] at h1; omega
    · rw [if_neg hv] at h1; omega
  · have h1 := htt v
    rw [count_one] at h1
    show 0 ≤ v ∧ v < (s.fresh : Int)
    by_cases hvx : v = x
    · subst hvx; exact ⟨hlive.1, hlive.2.1⟩
    · rw [if_neg hvx] at h1
      exact h.low v (by omega)
  · exact ⟨hlive.1, by omega⟩
  · have h1 := htt y
    rw [count_one] at h1
    unfold liveB
    by_cases hy : y = x
    · subst hy
      rw [if_pos rfl] at h1
      rw [decide_eq_true (rfl : y = y), Bool.not_true, Bool.and_false]
      refine decide_eq_false fun e => ?_
      have := e.2.2
      omega
    · rw [if_neg hy] at h1
      rw [decide_eq_false hy, Bool.not_false, Bool.and_true, decide_eq_decide]
      show 0 ≤ y ∧ y < (s.fresh : Int) ∧ (giveN s g x).tot y = 0 ↔ _
      rw [h1]
      exact Iff.rfl
  · have h1 := len_upd (spilled s g).M g ((spilled s g).M g ++ [x]) (s.n + 1) (by omega)
    rw [List.length_append] at h1
    have h3 : Go.Proofs.Ytenbafkgfdlfpaa.R5.len (spilled s g).M (s.n + 1) = s.len := hl
    show (s.fresh : Int) - (Go.Proofs.Ytenbafkgfdlfpaa.R5.len (upd (spilled s g).M g ((spilled s g).M g ++ [x])) (s.n + 1) : Int) = (s.fresh : Int) - (s.len : Int) - 1
    simp at h1
    omega
theorem give_true {s : St} (h : Good s) {g x : Int} (hb : giveB s g x = true) : Gave s (giveS s g x) x := by
  unfold giveS
  rw [if_pos hb]
  have h1 := Bool.and_eq_true_iff.1 hb
  have := of_decide_eq_true h1.1
  exact giveN_true h (by omega) h1.2
theorem give_false {s : St} {g x : Int} (hb : giveB s g x = false) : giveS s g x = s := by
  unfold giveS
  rw [hb]; rfl
theorem give_good {s : St} (h : Good s) (g x : Int) : Good (giveS s g x) := by
  cases hb : giveB s g x with
  | true => exact (give_true h hb).good
  | false => rw [give_false hb]; exact h
theorem give_same (s : St) (g x : Int) : (giveS s g x).n = s.n ∧ (giveS s g x).size = s.size ∧ (giveS s g x).most = s.most := by
  unfold giveS
  by_cases hg : giveB s g x = true
  · rw [if_pos hg]; exact ⟨rfl, rfl, rfl⟩
  · rw [if_neg hg]; exact ⟨rfl, rfl, rfl⟩

end Go.Proofs.Ytenbafkgfdlfpaa.R5
