/- Lists: what is in order, heaps, locks. -/
namespace Go.Proofs.Ytcnmkbmhkcgejaa

/-- The number at a place. -/
abbrev gt (L : List Int) (i : Nat) : Int := L.getD i 0

/-- x put ahead of the first greater one. -/
def ins (x : Int) (L : List Int) : List Int := L.takeWhile (fun y => decide (y ≤ x)) ++ x :: L.dropWhile (fun y => decide (y ≤ x))
/-- The same numbers in order. -/
def sortL (L : List Int) : List Int := L.foldl (fun a x => ins x a) []
def Rising (L : List Int) : Prop := L.Pairwise (fun a b => a ≤ b)

theorem ins_perm (x : Int) (L : List Int) : (ins x L).Perm (x :: L) := by
  unfold ins
  have h := List.perm_middle (a := x) (l₁ := L.takeWhile (fun y => decide (y ≤ x))) (l₂ := L.dropWhile (fun y => decide (y ≤ x)))
  rwa [List.takeWhile_append_dropWhile] at h
theorem ins_length (x : Int) (L : List Int) : (ins x L).length = L.length + 1 := by simpa using (ins_perm x L).length_eq

theorem takeWhile_all {p : Int → Bool} {L : List Int} : ∀ y ∈ L.takeWhile p, p y = true := by
  induction L with
  | nil => simp
  | cons a r ih =>
    intro y hy
    rw [List.takeWhile_cons] at hy
    split at hy
    · rcases List.mem_cons.1 hy with rfl | h
      · assumption
      · exact ih y h
    · simp at hy

theorem ins_rising {x : Int} {L : List Int} (h : Rising L) : Rising (ins x L) := by
  unfold Rising ins
  have hs : Rising (L.takeWhile (fun y => decide (y ≤ x)) ++ L.dropWhile (fun y => decide (y ≤ x))) := by rwa [List.takeWhile_append_dropWhile]
  obtain ⟨h1, h2, h3⟩ := List.pairwise_append.1 hs
  have hd : ∀ y ∈ L.dropWhile (fun y => decide (y ≤ x)), x ≤ y := by
    intro y hy
    cases e : L.dropWhile (fun y => decide (y ≤ x)) with
    | nil => rw [e] at hy; simp at hy
    | cons a r =>
      have ha : ¬ a ≤ x := by
        have := List.head_dropWhile_not (fun y => decide (y ≤ x)) (l := L) (by rw [e]; simp)
        simp only [e, List.head_cons] at this
        simpa using this
      rw [e] at hy h2
      rcases List.mem_cons.1 hy with rfl | h
      · omega
      · have := (List.pairwise_cons.1 h2).1 y h; omega
  refine List.pairwise_append.2 ⟨h1, List.pairwise_cons.2 ⟨hd, h2⟩, fun a ha b hb => ?_⟩
  have hax : a ≤ x := by simpa using takeWhile_all a ha
  rcases List.mem_cons.1 hb with rfl | h
  · exact hax
  · have := hd b h; omega

theorem sort_aux (L : List Int) : ∀ A : List Int, Rising A → Rising (L.foldl (fun a x => ins x a) A) ∧ (L.foldl (fun a x => ins x a) A).Perm (L ++ A) := by
  induction L with
  | nil => intro A h; exact ⟨h, List.Perm.refl _⟩
  | cons x r ih =>
    intro A h
    obtain ⟨h1, h2⟩ := ih (ins x A) (ins_rising h)
    exact ⟨h1, h2.trans ((List.Perm.append_left r (ins_perm x A)).trans (by simp [List.perm_middle]))⟩
theorem sortL_rising (L : List Int) : Rising (sortL L) := (sort_aux L [] List.Pairwise.nil).1
theorem sortL_perm (L : List Int) : (sortL L).Perm L := by
  have h := (sort_aux L [] List.Pairwise.nil).2
  rwa [List.append_nil] at h
theorem sortL_length (L : List Int) : (sortL L).length = L.length := (sortL_perm L).length_eq
theorem rising_eq {A B : List Int} (ha : Rising A) (hb : Rising B) (h : A.Perm B) : A = B :=
  List.Perm.eq_of_pairwise (le := fun a b => a ≤ b) (fun a b _ _ h1 h2 => by omega) ha hb h
theorem sortL_unique {L S : List Int} (hs : Rising S) (h : S.Perm L) : S = sortL L := rising_eq hs (sortL_rising L) (h.trans (sortL_perm L).symm)
theorem sortL_reverse (L : List Int) : sortL L.reverse = sortL L := sortL_unique (sortL_rising _) ((sortL_perm _).trans (List.reverse_perm L))
theorem sortL_sort (L : List Int) : sortL (sortL L) = sortL L := (sortL_unique (sortL_rising L) (List.Perm.refl _)).symm
theorem sortL_next (L : List Int) (k : Nat) (h : k < L.length) : sortL (L.take (k + 1)) = ins (gt L k) (sortL (L.take k)) := by
  unfold sortL
  rw [List.take_succ_eq_append_getElem h, List.foldl_append]
  simp [h]

/-- The place of the first one above x. -/
def firstAbove (x : Int) (L : List Int) : Nat := (L.takeWhile (fun y => decide (y ≤ x))).length
theorem firstAbove_le (x : Int) (L : List Int) : firstAbove x L ≤ L.length := (List.takeWhile_sublist _).length_le
theorem ins_at (x : Int) (L : List Int) : ins x L = L.take (firstAbove x L) ++ x :: L.drop (firstAbove x L) := by
  unfold ins firstAbove
  have e := List.takeWhile_append_dropWhile (p := fun y => decide (y ≤ x)) (l := L)
  have h1 : L.take (L.takeWhile (fun y => decide (y ≤ x))).length = L.takeWhile (fun y => decide (y ≤ x)) := by
    conv => lhs; arg 2; rw [← e]
    rw [List.take_left']; rfl
  have h2 : L.drop (L.takeWhile (fun y => decide (y ≤ x))).length = L.dropWhile (fun y => decide (y ≤ x)) := by
    conv => lhs; arg 2; rw [← e]
    rw [List.drop_left']; rfl
  rw [h1, h2]
theorem firstAbove_go (x : Int) (L : List Int) : ∀ k, k < L.length → k ≤ firstAbove x L → (gt L k ≤ x → k + 1 ≤ firstAbove x L) ∧ (¬ gt L k ≤ x → k = firstAbove x L) := by
  unfold firstAbove
  induction L with
  | nil => intro k h; simp at h
  | cons a r ih =>
    intro k hk hle
    rw [List.takeWhile_cons] at hle ⊢
    by_cases ha : a ≤ x
    · simp only [ha, decide_true, if_true, List.length_cons] at hle ⊢
      cases k with
      | zero => exact ⟨fun _ => by omega, fun h => absurd ha (by simpa [gt] using h)⟩
      | succ k =>
        obtain ⟨h1, h2⟩ := ih k (by simpa using hk) (by omega)
        simp only [gt, List.getD_cons_succ] at h1 h2 ⊢
        exact ⟨fun h => by have := h1 h; omega, fun h => by have := h2 h; omega⟩
    · simp only [ha, decide_false, Bool.false_eq_true, if_false, List.length_nil] at hle ⊢
      obtain rfl : k = 0 := by omega
      exact ⟨fun h => absurd (by simpa [gt] using h) ha, fun _ => rfl⟩

/-! Heaps. Edge: the number at place c is not above the one at p. -/
def Edge (R : List Int) (p c : Nat) : Prop := gt R c ≤ gt R p
/-- All below the places from lo on, up to len. -/
def HeapFrom (R : List Int) (lo len : Nat) : Prop := ∀ c, 0 < c → c < len → lo ≤ (c - 1) / 2 → Edge R ((c - 1) / 2) c
def isHeap (L : List Int) : Prop := HeapFrom L 0 L.length

/-- Rows R0 and R: the same numbers; behind len nothing changed; ahead of len nothing came from behind. -/
structure Same3 (len : Nat) (R0 R : List Int) : Prop where
  perm : R.Perm R0
  tail : ∀ i, len ≤ i → gt R i = gt R0 i
  front : ∀ i, i < len → ∃ j, j < len ∧ gt R i = gt R0 j
theorem Same3.refl (len : Nat) (R : List Int) : Same3 len R R := ⟨List.Perm.refl _, fun _ _ => rfl, fun i h => ⟨i, h, rfl⟩⟩
theorem Same3.trans {len : Nat} {A B C : List Int} (h : Same3 len A B) (k : Same3 len B C) : Same3 len A C :=
  ⟨k.perm.trans h.perm, fun i hi => (k.tail i hi).trans (h.tail i hi), fun i hi => by
    obtain ⟨j, hj, e⟩ := k.front i hi
    obtain ⟨l, hl, e'⟩ := h.front j hj
    exact ⟨l, hl, e.trans e'⟩⟩

/-- Two places exchanged. -/
def swp (R : List Int) (a b : Nat) : List Int := (R.set a (gt R b)).set b (gt R a)
theorem swp_length (R : List Int) (a b : Nat) : (swp R a b).length = R.length := by simp [swp]
theorem gt_set (R : List Int) (a : Nat) (x : Int) (ha : a < R.length) (i : Nat) : gt (R.set a x) i = if i = a then x else gt R i := by
  unfold gt
  simp only [List.getD, List.getElem?_set]
  by_cases h : a = i
  · subst h; simp [ha]
  · simp [h, Ne.symm h]
theorem swp_gt (R : List Int) (a b : Nat) (ha : a < R.length) (hb : b < R.length) (i : Nat) : gt (swp R a b) i = if i = b then gt R a else if i = a then gt R b else gt R i := by
  unfold swp
  rw [gt_set _ _ _ (by simpa using hb), gt_set _ _ _ ha]
theorem swp_perm (R : List Int) (a b : Nat) (ha : a < R.length) (hb : b < R.length) : (swp R a b).Perm R := by
  have := List.set_set_perm (as := R) ha hb
  unfold swp
  simpa [gt, List.getD, ha, hb] using this
theorem swp_same {R : List Int} {a b len : Nat} (ha : a < len) (hb : b < len) (hl : len ≤ R.length) : Same3 len R (swp R a b) := by
  refine ⟨swp_perm R a b (by omega) (by omega), fun i hi => ?_, fun i hi => ?_⟩
  · rw [swp_gt R a b (by omega) (by omega), if_neg (by omega), if_neg (by omega)]
  · rw [swp_gt R a b (by omega) (by omega)]
    by_cases h : i = b
    · exact ⟨a, ha, by rw [if_pos h]⟩
    · by_cases h' : i = a
      · exact ⟨b, hb, by rw [if_neg h, if_pos h']⟩
      · exact ⟨i, hi, by rw [if_neg h, if_neg h']⟩

/-- On the way down: at p alone what is below may be greater. -/
structure Sink (lo len : Nat) (R0 R : List Int) (p : Nat) : Prop where
  same : Same3 len R0 R
  size : len ≤ R.length
  low : lo ≤ p
  edge : ∀ c, 0 < c → c < len → lo ≤ (c - 1) / 2 → (c - 1) / 2 ≠ p → Edge R ((c - 1) / 2) c
  over : ∀ c, 0 < c → c < len → (c - 1) / 2 = p → 0 < p → lo ≤ (p - 1) / 2 → Edge R ((p - 1) / 2) c

theorem Sink.start {lo len : Nat} {R : List Int} (h : HeapFrom R (lo + 1) len) (hl : len ≤ R.length) : Sink lo len R R lo :=
  ⟨Same3.refl _ _, hl, Nat.le_refl _, fun c h0 hc hlo hne => h c h0 hc (by omega), fun c _ _ _ h0 hp => by omega⟩

/-- None below it: done. -/
theorem Sink.leaf {lo len p : Nat} {R0 R : List Int} (h : Sink lo len R0 R p) (hp : len ≤ 2 * p + 1) : Same3 len R0 R ∧ HeapFrom R lo len :=
  ⟨h.same, fun c h0 hc hlo => h.edge c h0 hc hlo (by omega)⟩
/-- Not above: done. b is the greater one of those below. -/
theorem Sink.stop {lo len p b : Nat} {R0 R : List Int} (h : Sink lo len R0 R p) (hb : ∀ c, 0 < c → c < len → (c - 1) / 2 = p → gt R c ≤ gt R b) (hle : gt R b ≤ gt R p) : Same3 len R0 R ∧ HeapFrom R lo len :=
  ⟨h.same, fun c h0 hc hlo => by
    by_cases e : (c - 1) / 2 = p
    · have := hb c h0 hc e
      unfold Edge; rw [e]; omega
    · exact h.edge c h0 hc hlo e⟩
theorem Sink.next {lo len p b : Nat} {R0 R : List Int} (h : Sink lo len R0 R p) (hb : ∀ c, 0 < c → c < len → (c - 1) / 2 = p → gt R c ≤ gt R b) (hgt : gt R p < gt R b) (h0 : 0 < b) (hbl : b < len) (hbp : (b - 1) / 2 = p) : Sink lo len R0 (swp R p b) b := by
  have hsz := h.size
  have hpl : p < len := by omega
  have g := swp_gt R p b (by omega) (by omega)
  refine ⟨h.same.trans (swp_same hpl hbl hsz), by rw [swp_length]; exact hsz, by have := h.low; omega, fun c c0 cl hlo hne => ?_, fun c c0 cl hc _ hlo => ?_⟩
  · unfold Edge
    rw [g, g, if_neg hne]
    by_cases e1 : (c - 1) / 2 = p
    · rw [if_pos e1]
      by_cases e2 : c = b
      · rw [if_pos e2]; omega
      · rw [if_neg e2, if_neg (by omega)]; exact hb c c0 cl e1
    · rw [if_neg e1]
      have he := h.edge c c0 cl hlo e1
      by_cases e2 : c = b
      · subst e2; omega
      · rw [if_neg e2]
        by_cases e3 : c = p
        · rw [if_pos e3]
          subst e3
          exact h.over b h0 hbl hbp c0 hlo
        · rw [if_neg e3]; exact he
  · unfold Edge
    rw [g, g, if_neg (by omega), hbp, if_pos rfl, if_neg (by omega), if_neg (by omega)]
    have := h.edge c c0 cl (by have := h.low; omega) (by omega)
    rw [hc] at this
    exact this

/-- Which one of the two below. -/
theorem two_below {len p : Nat} {R : List Int} (hx : ¬ (2 * p + 2 < len) ∨ gt R (2 * p + 2) ≤ gt R (2 * p + 1)) : ∀ c, 0 < c → c < len → (c - 1) / 2 = p → gt R c ≤ gt R (2 * p + 1) := by
  intro c c0 cl e
  by_cases h1 : c = 2 * p + 1
  · rw [h1]; omega
  · have h2 : c = 2 * p + 2 := by omega
    subst h2
    rcases hx with hx | hx
    · omega
    · exact hx
theorem two_below' {len p : Nat} {R : List Int} (hx : gt R (2 * p + 1) < gt R (2 * p + 2)) : ∀ c, 0 < c → c < len → (c - 1) / 2 = p → gt R c ≤ gt R (2 * p + 2) := by
  intro c c0 cl e
  by_cases h1 : c = 2 * p + 1
  · rw [h1]; omega
  · have h2 : c = 2 * p + 2 := by omega
    rw [h2]; omega

theorem heap_top {R : List Int} {len : Nat} (h : HeapFrom R 0 len) : ∀ n i, i ≤ n → i < len → gt R i ≤ gt R 0 := by
  intro n
  induction n with
  | zero => intro i hi _; rw [show i = 0 by omega]; omega
  | succ n ih =>
    intro i hi hl
    by_cases h0 : i = 0
    · rw [h0]; omega
    · have h1 := h i (by omega) hl (Nat.zero_le _)
      have h2 := ih ((i - 1) / 2) (by omega) (by omega)
      unfold Edge at h1
      omega

/-- On the way of the sorting: the first m are a heap; those behind are in order, and none of the first is above. -/
structure Half (L R : List Int) (m : Nat) : Prop where
  perm : R.Perm L
  size : m ≤ R.length
  heap : HeapFrom R 0 m
  order : ∀ i j, i < j → m ≤ j → j < R.length → gt R i ≤ gt R j
theorem Half.len {L R : List Int} {m : Nat} (h : Half L R m) : R.length = L.length := h.perm.length_eq
theorem Half.start {L R : List Int} (h : HeapFrom R 0 R.length) (p : R.Perm L) : Half L R R.length := ⟨p, Nat.le_refl _, h, fun i j _ h1 h2 => by omega⟩
/-- Between: the top is behind. -/
theorem Half.mid {L R : List Int} {m : Nat} (h : Half L R (m + 1)) (_ : 0 < m) : HeapFrom (swp R 0 m) 1 m ∧ m ≤ (swp R 0 m).length := by
  have hs := h.size
  refine ⟨fun c c0 cl hlo => ?_, by rw [swp_length]; omega⟩
  have g := swp_gt R 0 m (by omega) (by omega)
  unfold Edge
  rw [g, g, if_neg (by omega), if_neg (by omega), if_neg (by omega), if_neg (by omega)]
  exact h.heap c c0 (by omega) (Nat.zero_le _)
theorem Half.next {L R R' : List Int} {m : Nat} (h : Half L R (m + 1)) (hm : 0 < m) (hs : Same3 m (swp R 0 m) R') (hh : HeapFrom R' 0 m) : Half L R' m := by
  have hz := h.size
  have hp := swp_perm R 0 m (by omega) (by omega)
  have hl : R'.length = R.length := by rw [hs.perm.length_eq, swp_length]
  have g := swp_gt R 0 m (by omega) (by omega)
  refine ⟨hs.perm.trans (hp.trans h.perm), by omega, hh, fun i j hij hmj hj => ?_⟩
  rw [hs.tail j hmj, g j, if_neg (c := j = 0) (by omega)]
  have top := fun i (hi : i < m + 1) => heap_top h.heap i i (Nat.le_refl _) hi
  -- what stands at i was somewhere of the first, or just there
  by_cases him : i < m
  · obtain ⟨k, hk, e⟩ := hs.front i him
    rw [e, g k, if_neg (by omega)]
    by_cases hjm : j = m
    · rw [if_pos hjm]
      by_cases hk0 : k = 0
      · rw [if_pos hk0]; exact top m (by omega)
      · rw [if_neg hk0]; exact top k (by omega)
    · rw [if_neg hjm]
      by_cases hk0 : k = 0
      · rw [if_pos hk0]; exact h.order m j (by omega) (by omega) (by omega)
      · rw [if_neg hk0]; exact h.order k j (by omega) (by omega) (by omega)
  · rw [hs.tail i (by omega), g i, if_neg (c := i = 0) (by omega), if_neg (c := j = m) (by omega)]
    by_cases him' : i = m
    · rw [if_pos him']; exact h.order 0 j (by omega) (by omega) (by omega)
    · rw [if_neg him']; exact h.order i j hij (by omega) (by omega)
theorem Half.done {L R : List Int} {m : Nat} (h : Half L R m) (hm : m ≤ 1) : R = sortL L := by
  refine sortL_unique ?_ h.perm
  unfold Rising
  rw [List.pairwise_iff_getElem]
  intro i j hi hj hij
  have := h.order i j hij (by omega) hj
  simpa [gt, List.getD, hi, hj] using this

/-- Heap or not, as one asks it place by place. -/
theorem heap_none (L : List Int) (n : Nat) (h : n ≤ 1) : HeapFrom L 0 n := fun c h0 hc _ => by omega
theorem heap_next {L : List Int} {k : Nat} (h : HeapFrom L 0 k) (he : gt L k ≤ gt L ((k - 1) / 2)) : HeapFrom L 0 (k + 1) := by
  intro c h0 hc _
  by_cases e : c = k
  · subst e; exact he
  · exact h c h0 (by omega) (Nat.zero_le _)
theorem heap_not {L : List Int} {k : Nat} (h0 : 0 < k) (hk : k < L.length) (he : ¬ gt L k ≤ gt L ((k - 1) / 2)) : ¬ isHeap L := fun h => he (h k h0 hk (Nat.zero_le _))
theorem rev_heap (L : List Int) : isHeap (sortL L).reverse := by
  intro c h0 hc _
  have hr := sortL_rising L
  unfold Rising at hr
  rw [List.pairwise_iff_getElem] at hr
  have hc' : c < (sortL L).length := by simpa using hc
  unfold Edge gt
  rw [List.getD_eq_getElem?_getD, List.getD_eq_getElem?_getD, List.getElem?_reverse hc', List.getElem?_reverse (by omega)]
  rw [List.getElem?_eq_getElem (by omega), List.getElem?_eq_getElem (by omega)]
  exact hr _ _ (by omega) (by omega) (by omega)

/-- Heap or not, as a bool. -/
def heapB (L : List Int) : Bool := (List.range L.length).all fun c => decide (c = 0 ∨ gt L c ≤ gt L ((c - 1) / 2))
theorem heapB_true {L : List Int} (h : isHeap L) : heapB L = true := by
  unfold heapB
  rw [List.all_eq_true]
  intro c hc
  have hc' : c < L.length := by simpa using hc
  rw [decide_eq_true_iff]
  by_cases h0 : c = 0
  · exact Or.inl h0
  · exact Or.inr (h c (by omega) hc' (Nat.zero_le _))
theorem heapB_false {L : List Int} (h : ¬ isHeap L) : heapB L = false := by
  cases e : heapB L with
  | false => rfl
  | true =>
    exfalso; apply h
    intro c h0 hc _
    unfold heapB at e
    rw [List.all_eq_true] at e
    have := e c (by simpa using hc)
    rw [decide_eq_true_iff] at this
    rcases this with h1 | h1
    · omega
    · exact h1

/-! Locks. -/
def lockStep (A : List Int) (x : Int) : List Int := if 0 < x ∧ (A.length = 0 ∨ gt A (A.length - 1) ≠ x) then A ++ [x] else A
def locksL (L : List Int) : List Int := (sortL L).foldl lockStep []
def lockPart (S : List Int) (k : Nat) : List Int := (S.take k).foldl lockStep []
theorem lockPart_zero (S : List Int) : lockPart S 0 = [] := rfl
theorem lockPart_next (S : List Int) (k : Nat) (h : k < S.length) : lockPart S (k + 1) = lockStep (lockPart S k) (gt S k) := by
  unfold lockPart
  rw [List.take_succ_eq_append_getElem h, List.foldl_append]
  simp [h]
theorem lockPart_all (L : List Int) : lockPart (sortL L) (sortL L).length = locksL L := by
  unfold lockPart locksL; rw [List.take_length]
theorem lockStep_length (A : List Int) (x : Int) : (lockStep A x).length ≤ A.length + 1 := by
  unfold lockStep; split <;> simp
theorem lockPart_length (S : List Int) (k : Nat) : (lockPart S k).length ≤ k := by
  unfold lockPart
  have : ∀ (T A : List Int), (T.foldl lockStep A).length ≤ A.length + T.length := by
    intro T
    induction T with
    | nil => intro A; simp
    | cons x r ih => intro A; have := ih (lockStep A x); have := lockStep_length A x; simp; omega
  have h := this (S.take k) []
  have h2 : (S.take k).length ≤ k := by simp; omega
  simp at h; omega
theorem locksL_length (L : List Int) : (locksL L).length ≤ L.length := by
  rw [← lockPart_all, ← sortL_length L]; exact lockPart_length _ _
theorem locksL_reverse (L : List Int) : locksL L.reverse = locksL L := by unfold locksL; rw [sortL_reverse]

/-- Above 0 and rising. -/
def Strict (A : List Int) : Prop := A.Pairwise (fun a b => a < b) ∧ ∀ x ∈ A, 0 < x
theorem locks_aux (T : List Int) : ∀ A : List Int, Strict A → Rising T → (∀ x ∈ A, ∀ y ∈ T, x ≤ y) → Strict (T.foldl lockStep A) := by
  induction T with
  | nil => intro A h _ _; exact h
  | cons x r ih =>
    intro A hA hT hAT
    obtain ⟨hx, hr⟩ := List.pairwise_cons.1 hT
    rw [List.foldl_cons]
    by_cases hc : 0 < x ∧ (A.length = 0 ∨ gt A (A.length - 1) ≠ x)
    · have e : lockStep A x = A ++ [x] := if_pos hc
      rw [e]
      refine ih _ ⟨List.pairwise_append.2 ⟨hA.1, by simp, fun a ha b hb => ?_⟩, fun y hy => ?_⟩ hr (fun a ha b hb => ?_)
      · simp at hb; subst hb
        have hle := hAT a ha b (by simp)
        rcases hc.2 with h0 | hne
        · rw [List.eq_nil_of_length_eq_zero h0] at ha; simp at ha
        · obtain ⟨i, hi, rfl⟩ := List.getElem_of_mem ha
          have hlast : gt A (A.length - 1) ≤ b := by
            have := hAT (A[A.length - 1]'(by omega)) (List.getElem_mem _) b (by simp)
            simpa [gt, List.getD, show A.length - 1 < A.length by omega] using this
          by_cases hil : i = A.length - 1
          · subst hil
            have : gt A (A.length - 1) = A[A.length - 1]'(by omega) := by simp [gt, List.getD, show A.length - 1 < A.length by omega]
            omega
          · have h2 := List.pairwise_iff_getElem.1 hA.1 i (A.length - 1) hi (by omega) (by omega)
            have : gt A (A.length - 1) = A[A.length - 1]'(by omega) := by simp [gt, List.getD, show A.length - 1 < A.length by omega]
            omega
      · rcases List.mem_append.1 hy with h | h
        · exact hA.2 y h
        · simp at h; subst h; exact hc.1
      · rcases List.mem_append.1 ha with h | h
        · exact hAT a h b (by simp [hb])
        · simp at h; subst h; exact hx b hb
    · have e : lockStep A x = A := if_neg hc
      rw [e]
      exact ih A hA hr (fun a ha b hb => hAT a ha b (by simp [hb]))
theorem locks_strict (L : List Int) : Strict (locksL L) := locks_aux _ [] ⟨List.Pairwise.nil, by simp⟩ (sortL_rising L) (by simp)
theorem locks_pos (L : List Int) {i : Nat} (h : i < (locksL L).length) : 0 < gt (locksL L) i := by
  have := (locks_strict L).2 ((locksL L)[i]) (List.getElem_mem h)
  simpa [gt, List.getD, h] using this
theorem locks_rise (L : List Int) {i : Nat} (h : i < (locksL L).length) (h0 : 0 < i) : gt (locksL L) (i - 1) < gt (locksL L) i := by
  have := List.pairwise_iff_getElem.1 (locks_strict L).1 (i - 1) i (by omega) h (by omega)
  simpa [gt, List.getD, h, show i - 1 < (locksL L).length by omega] using this

/-! How often. -/
theorem count_next (L : List Int) (x : Int) (k : Nat) (h : k < L.length) : (L.take (k + 1)).count x = (L.take k).count x + if gt L k = x then 1 else 0 := by
  rw [List.take_succ_eq_append_getElem h, List.count_append, List.count_singleton]
  congr 1
  simp [h]
theorem count_sort (L : List Int) (x : Int) : (sortL L).count x = L.count x := (sortL_perm L).count_eq x
theorem rev_next (L : List Int) (k : Nat) (h : k < L.length) : (L.drop k).reverse = (L.drop (k + 1)).reverse ++ [gt L k] := by
  rw [List.drop_eq_getElem_cons h, List.reverse_cons]
  simp [h]
theorem sortL_wf {L : List Int} {a b : Int} (h : ∀ x ∈ L, a ≤ x ∧ x ≤ b) : ∀ x ∈ sortL L, a ≤ x ∧ x ≤ b := fun x hx => h x ((sortL_perm L).mem_iff.1 hx)

end Go.Proofs.Ytcnmkbmhkcgejaa
