/- Orders and draws, on lists. -/
namespace Go.Proofs.Ytlnjomjeafmobaa
set_option linter.unusedVariables false

/-- What stands at a place. -/
def gt (l : List Int) (i : Nat) : Int := l.getD i 0
theorem gt_set (l : List Int) (k i : Nat) (v : Int) (hk : k < l.length) : gt (l.set k v) i = if i = k then v else gt l i := by
  unfold gt
  rw [List.getD_eq_getElem?_getD, List.getD_eq_getElem?_getD, List.getElem?_set]
  by_cases h : k = i
  · subst h; simp [hk]
  · simp [h, Ne.symm h]
theorem gt_take (l : List Int) (m i : Nat) (h : i < m) : gt (l.take m) i = gt l i := by
  unfold gt; simp [List.getD_eq_getElem?_getD, h]
theorem gt_left (a b : List Int) (i : Nat) (h : i < a.length) : gt (a ++ b) i = gt a i := by
  unfold gt; simp [List.getD_eq_getElem?_getD, List.getElem?_append_left h]
theorem gt_right (a b : List Int) (i : Nat) (h : a.length ≤ i) : gt (a ++ b) i = gt b (i - a.length) := by
  unfold gt; simp [List.getD_eq_getElem?_getD, List.getElem?_append_right h]
theorem gt_ext (a b : List Int) (hl : a.length = b.length) (h : ∀ i, i < a.length → gt a i = gt b i) : a = b := by
  apply List.ext_getElem? 
  intro i
  by_cases hi : i < a.length
  · have := h i hi
    unfold gt at this
    simp only [List.getD_eq_getElem?_getD] at this
    rw [List.getElem?_eq_getElem hi, List.getElem?_eq_getElem (by omega)] at this ⊢
    simpa using this
  · rw [List.getElem?_eq_none (by omega), List.getElem?_eq_none (by omega)]
theorem gt_mem (l : List Int) (i : Nat) (h : i < l.length) : gt l i ∈ l := by
  unfold gt; simp [List.getD_eq_getElem?_getD, h]
theorem mem_gt (l : List Int) (x : Int) (h : x ∈ l) : ∃ i, i < l.length ∧ gt l i = x := by
  obtain ⟨i, hi, e⟩ := List.getElem_of_mem h
  exact ⟨i, hi, by unfold gt; simp [List.getD_eq_getElem?_getD, hi, e]⟩

/-- A draw as it counts, of n. -/
def cnt (d : Int) (n : Nat) : Nat := (d % (n : Int)).toNat
theorem cnt_cast (d : Int) (n : Nat) (h : 0 < n) : (cnt d n : Int) = d % (n : Int) := by
  unfold cnt; have := Int.emod_nonneg d (b := (n : Int)) (by omega); omega
theorem cnt_lt (d : Int) (n : Nat) (h : 0 < n) : cnt d n < n := by
  have h1 := cnt_cast d n h
  have := Int.emod_lt_of_pos d (b := (n : Int)) (by omega)
  omega
theorem cnt_small (k n : Nat) (h : k < n) : cnt (k : Int) n = k := by
  unfold cnt; rw [Int.emod_eq_of_lt (by omega) (by omega)]; omega

/-- One draw more. -/
def ostep (o : List Int) (d : Int) : List Int :=
  if cnt d (o.length + 1) < o.length then o.set (cnt d (o.length + 1)) o.length ++ [gt o (cnt d (o.length + 1))] else o ++ [(o.length : Int)]
theorem ostep_length (o : List Int) (d : Int) : (ostep o d).length = o.length + 1 := by unfold ostep; split <;> simp
def ordL (ds : List Int) : List Int := ds.foldl ostep []
theorem ordL_snoc (ds : List Int) (d : Int) : ordL (ds ++ [d]) = ostep (ordL ds) d := by simp [ordL]
theorem ordL_nil : ordL [] = [] := rfl
theorem snoc_ind {P : List Int → Prop} (h0 : P []) (h1 : ∀ l x, P l → P (l ++ [x])) (l : List Int) : P l := by
  have : ∀ n (l : List Int), l.length = n → P l := by
    intro n
    induction n with
    | zero => intro l hl; rw [List.eq_nil_of_length_eq_zero hl]; exact h0
    | succ n ih =>
      intro l hl
      have hne : l ≠ [] := by intro e; rw [e] at hl; simp at hl
      rw [← List.dropLast_concat_getLast hne]
      exact h1 _ _ (ih _ (by simp; omega))
  exact this _ l rfl
theorem ordL_length (ds : List Int) : (ordL ds).length = ds.length := by
  induction ds using snoc_ind with
  | h0 => rfl
  | h1 l x ih => rw [ordL_snoc, ostep_length, ih]; simp
theorem ostep_gt (o : List Int) (d : Int) (i : Nat) : gt (ostep o d) i = if i = cnt d (o.length + 1) then (o.length : Int) else if i = o.length then gt o (cnt d (o.length + 1)) else gt o i := by
  have hk := cnt_lt d (o.length + 1) (by omega)
  unfold ostep
  generalize cnt d (o.length + 1) = k at *
  have hout : ∀ i, o.length ≤ i → gt o i = 0 := by
    intro i hi; unfold gt; simp [List.getD_eq_getElem?_getD, hi]
  by_cases hkl : k < o.length
  · rw [if_pos hkl]
    by_cases hi : i < o.length
    · rw [gt_left _ _ _ (by simpa using hi), gt_set _ _ _ _ hkl]
      split
      · rfl
      · rw [if_neg (by omega)]
    · rw [gt_right _ _ _ (by simp; omega), if_neg (by omega)]
      simp only [List.length_set]
      by_cases hi2 : i = o.length
      · subst hi2; simp [gt]
      · rw [if_neg hi2, hout i (by omega)]
        unfold gt
        rw [List.getD_eq_getElem?_getD, List.getElem?_eq_none (by simp; omega)]; rfl
  · rw [if_neg hkl]
    have e : k = o.length := by omega
    subst e
    by_cases hi : i < o.length
    · rw [gt_left _ _ _ hi, if_neg (by omega), if_neg (by omega)]
    · rw [gt_right _ _ _ (by omega)]
      by_cases hi2 : i = o.length
      · subst hi2; simp [gt]
      · rw [if_neg hi2, if_neg hi2, hout i (by omega)]
        unfold gt
        rw [List.getD_eq_getElem?_getD, List.getElem?_eq_none (by simp; omega)]; rfl

/-- An order: each number is in, and no two places have one. -/
structure IsOrd (l : List Int) : Prop where
  lo : ∀ i, i < l.length → 0 ≤ gt l i ∧ gt l i < l.length
  ne : ∀ i j, i < l.length → j < l.length → gt l i = gt l j → i = j

theorem IsOrd.nil : IsOrd [] := ⟨fun i h => by simp at h, fun i j h => by simp at h⟩

theorem ordL_isOrd (ds : List Int) : IsOrd (ordL ds) := by
  induction ds using snoc_ind with
  | h0 => exact IsOrd.nil
  | h1 l x ih =>
    rw [ordL_snoc]
    generalize ordL l = o at *
    have hk := cnt_lt x (o.length + 1) (by omega)
    refine ⟨fun i hi => ?_, fun i j hi hj e => ?_⟩
    · rw [ostep_length] at hi
      rw [ostep_gt, ostep_length]
      generalize cnt x (o.length + 1) = k at *
      split
      · omega
      · split
        · have := ih.lo k (by omega); omega
        · have := ih.lo i (by omega); omega
    · rw [ostep_length] at hi hj
      rw [ostep_gt, ostep_gt] at e
      generalize cnt x (o.length + 1) = k at *
      by_cases hi1 : i = k <;> by_cases hj1 : j = k
      · omega
      · rw [if_pos hi1, if_neg hj1] at e
        split at e
        · have := ih.lo k (by omega); omega
        · have := ih.lo j (by omega); omega
      · rw [if_neg hi1, if_pos hj1] at e
        split at e
        · have := ih.lo k (by omega); omega
        · have := ih.lo i (by omega); omega
      · rw [if_neg hi1, if_neg hj1] at e
        split at e <;> split at e
        · omega
        · have := ih.ne _ _ (by omega) (by omega) e; omega
        · have := ih.ne _ _ (by omega) (by omega) e; omega
        · exact ih.ne _ _ (by omega) (by omega) e

/-! Counting. -/
def cs (l : List Int) (n : Nat) : Nat := ((List.range n).map fun i : Nat => l.count (i : Int)).sum
theorem cs_succ (l : List Int) (n : Nat) : cs l (n + 1) = cs l n + l.count (n : Int) := by simp [cs, List.range_succ]
theorem cs_cons (a : Int) (l : List Int) (n : Nat) : cs (a :: l) n = cs l n + if 0 ≤ a ∧ a < n then 1 else 0 := by
  induction n with
  | zero => simp [cs]
  | succ n ih =>
    rw [cs_succ, cs_succ, ih, List.count_cons]
    by_cases h : a = (n : Int)
    · subst h
      have h1 : ¬ (0 ≤ (n : Int) ∧ (n : Int) < (n : Int)) := by omega
      have h2 : (0 ≤ (n : Int) ∧ (n : Int) < ((n + 1 : Nat) : Int)) := by omega
      rw [if_neg h1, if_pos h2]; simp; omega
    · have h3 : (a == (n : Int)) = false := by simpa using h
      rw [h3]
      have h4 : (0 ≤ a ∧ a < ((n + 1 : Nat) : Int)) ↔ (0 ≤ a ∧ a < (n : Int)) := by omega
      simp only [h4]; simp; omega
def out (n : Nat) (x : Int) : Bool := !decide (0 ≤ x ∧ x < n)
theorem cs_len (l : List Int) (n : Nat) : cs l n + l.countP (out n) = l.length := by
  induction l with
  | nil => simp [cs]; 
           induction n with
           | zero => rfl
           | succ n ih => simp [List.range_succ, ih]
  | cons a l ih =>
    rw [cs_cons, List.countP_cons]
    by_cases h : 0 ≤ a ∧ a < n
    · have : out n a = false := by simp [out, h]
      rw [if_pos h, this]; simp; omega
    · have : out n a = true := by simp [out]; omega
      rw [if_neg h, this]; simp; omega
theorem cs_ones (l : List Int) (n : Nat) (h : ∀ i, i < n → l.count (i : Int) = 1) : cs l n = n := by
  induction n with
  | zero => rfl
  | succ n ih => rw [cs_succ, ih (fun i hi => h i (by omega)), h n (by omega)]
theorem cs_le (l : List Int) (n : Nat) (h : ∀ i, i < n → l.count (i : Int) ≤ 1) : cs l n ≤ n := by
  induction n with
  | zero => simp [cs]
  | succ n ih => rw [cs_succ]; have := ih (fun i hi => h i (by omega)); have := h n (by omega); omega
theorem cs_all (l : List Int) (n : Nat) (h : ∀ i, i < n → l.count (i : Int) ≤ 1) (e : cs l n = n) : ∀ i, i < n → l.count (i : Int) = 1 := by
  induction n with
  | zero => intro i hi; omega
  | succ n ih =>
    rw [cs_succ] at e
    have h1 := cs_le l n (fun i hi => h i (by omega))
    have h2 := h n (by omega)
    intro i hi
    by_cases hin : i = n
    · subst hin; omega
    · exact ih (fun i hi => h i (by omega)) (by omega) i (by omega)
theorem nodup_of_ne (l : List Int) (h : ∀ i j, i < l.length → j < l.length → gt l i = gt l j → i = j) : l.Nodup := by
  rw [List.nodup_iff_pairwise_ne, List.pairwise_iff_getElem]
  intro i j hi hj hij e
  have := h i j hi hj (by unfold gt; simp [List.getD_eq_getElem?_getD, hi, hj, e])
  omega
theorem ne_of_nodup (l : List Int) (h : l.Nodup) : ∀ i j, i < l.length → j < l.length → gt l i = gt l j → i = j := by
  rw [List.nodup_iff_pairwise_ne, List.pairwise_iff_getElem] at h
  intro i j hi hj e
  unfold gt at e
  simp only [List.getD_eq_getElem?_getD, hi, hj, List.getElem?_eq_getElem, Option.getD_some] at e
  by_cases h1 : i < j
  · exact absurd e (h i j hi hj h1)
  · by_cases h2 : j < i
    · exact absurd e.symm (h j i hj hi h2)
    · omega
theorem IsOrd.count {l : List Int} (h : IsOrd l) : ∀ i : Nat, i < l.length → l.count (i : Int) = 1 := by
  have hc := List.nodup_iff_count.1 (nodup_of_ne l h.ne)
  refine cs_all l l.length (fun i _ => hc _) ?_
  have h1 := cs_len l l.length
  have h2 : l.countP (out l.length) = 0 := by
    rw [List.countP_eq_zero]
    intro x hx
    obtain ⟨i, hi, e⟩ := mem_gt l x hx
    have := h.lo i hi
    rw [e] at this
    simp [out, this]
  omega
theorem IsOrd.of_count {l : List Int} (h : ∀ i : Nat, i < l.length → l.count (i : Int) = 1) : IsOrd l := by
  have h1 := cs_len l l.length
  rw [cs_ones l _ h] at h1
  have h2 : l.countP (out l.length) = 0 := by omega
  rw [List.countP_eq_zero] at h2
  have h3 : ∀ x ∈ l, 0 ≤ x ∧ x < l.length := by
    intro x hx
    have := h2 x hx
    simpa [out] using this
  refine ⟨fun i hi => h3 _ (gt_mem l i hi), ne_of_nodup l ?_⟩
  rw [List.nodup_iff_count]
  intro a
  by_cases ha : a ∈ l
  · have hb := h3 a ha
    have := h a.toNat (by omega)
    rw [show ((a.toNat : Nat) : Int) = a by omega] at this
    omega
  · rw [List.count_eq_zero.2 ha]; omega
theorem IsOrd.has {l : List Int} (h : IsOrd l) (i : Nat) (hi : i < l.length) : ∃ j, j < l.length ∧ gt l j = i := by
  apply mem_gt
  have := h.count i hi
  exact List.count_pos_iff.1 (by omega)

/-! Back. -/
def pos (l : List Int) : Nat := l.idxOf ((l.length : Int) - 1)
theorem pos_spec {l : List Int} (h : IsOrd l) (hl : 0 < l.length) : pos l < l.length ∧ gt l (pos l) = (l.length : Int) - 1 := by
  obtain ⟨j, hj, e⟩ := h.has (l.length - 1) (by omega)
  have hm : ((l.length : Int) - 1) ∈ l := by
    have := gt_mem l j hj
    rw [e] at this
    rwa [show ((l.length - 1 : Nat) : Int) = (l.length : Int) - 1 by omega] at this
  have hlt := List.idxOf_lt_length_of_mem hm
  refine ⟨hlt, ?_⟩
  unfold gt pos
  rw [List.getD_eq_getElem?_getD, List.getElem?_eq_getElem hlt]
  simp
theorem pos_eq {l : List Int} (h : IsOrd l) {k : Nat} (hk : k < l.length) (e : gt l k = (l.length : Int) - 1) : pos l = k := by
  obtain ⟨h1, h2⟩ := pos_spec h (by omega)
  exact h.ne _ _ h1 hk (by rw [h2, e])
def undo (l : List Int) : List Int := (l.set (pos l) (gt l (l.length - 1))).take (l.length - 1)
theorem undo_length (l : List Int) : (undo l).length = l.length - 1 := by simp [undo]
theorem undo_gt {l : List Int} (h : IsOrd l) {i : Nat} (hi : i < l.length - 1) : gt (undo l) i = if i = pos l then gt l (l.length - 1) else gt l i := by
  unfold undo
  rw [gt_take _ _ _ hi, gt_set _ _ _ _ (pos_spec h (by omega)).1]
theorem undo_isOrd {l : List Int} (h : IsOrd l) : IsOrd (undo l) := by
  refine ⟨fun i hi => ?_, fun i j hi hj e => ?_⟩
  · rw [undo_length] at hi
    obtain ⟨h1, h2⟩ := pos_spec h (by omega)
    rw [undo_gt h hi, undo_length]
    split
    · have h3 := h.lo (l.length - 1) (by omega)
      have h4 : gt l (l.length - 1) ≠ (l.length : Int) - 1 := by
        intro e
        have := h.ne _ _ (by omega) h1 (e.trans h2.symm)
        omega
      omega
    · have h3 := h.lo i (by omega)
      have h4 : gt l i ≠ (l.length : Int) - 1 := by
        intro e
        have := h.ne _ _ (by omega) h1 (e.trans h2.symm)
        omega
      omega
  · rw [undo_length] at hi hj
    rw [undo_gt h hi, undo_gt h hj] at e
    split at e <;> split at e
    · omega
    · have := h.ne _ _ (by omega) (by omega) e; omega
    · have := h.ne _ _ (by omega) (by omega) e; omega
    · exact h.ne _ _ (by omega) (by omega) e
theorem ostep_undo {l : List Int} (h : IsOrd l) (hl : 0 < l.length) : ostep (undo l) (pos l) = l := by
  obtain ⟨h1, h2⟩ := pos_spec h hl
  have hu := undo_length l
  have hc : cnt (pos l) ((undo l).length + 1) = pos l := cnt_small _ _ (by omega)
  refine gt_ext _ _ (by rw [ostep_length]; omega) (fun i hi => ?_)
  rw [ostep_length] at hi
  rw [ostep_gt, hc]
  split
  · next e => rw [e, h2]; omega
  · next ne =>
    split
    · next e =>
      rw [hu] at e
      rw [undo_gt h (by omega), if_pos rfl, e]
    · next ne2 => rw [undo_gt h (by omega), if_neg ne]
def drs : Nat → List Int → List Int
  | 0, _ => []
  | m + 1, l => drs m (undo l) ++ [(pos l : Int)]
theorem drs_length (n : Nat) (l : List Int) : (drs n l).length = n := by
  induction n generalizing l with
  | zero => rfl
  | succ n ih => simp [drs, ih]
theorem ord_drs (n : Nat) (l : List Int) (h : IsOrd l) (hl : l.length = n) : ordL (drs n l) = l := by
  induction n generalizing l with
  | zero => rw [List.eq_nil_of_length_eq_zero hl]; rfl
  | succ n ih =>
    rw [drs, ordL_snoc, ih _ (undo_isOrd h) (by rw [undo_length]; omega)]
    exact ostep_undo h (by omega)
theorem ostep_isOrd {o : List Int} (h : IsOrd o) (d : Int) : IsOrd (ostep o d) := by
  have e := ord_drs _ o h rfl
  have := ordL_isOrd (drs o.length o ++ [d])
  rwa [ordL_snoc, e] at this
theorem pos_ostep {o : List Int} (h : IsOrd o) (d : Int) : pos (ostep o d) = cnt d (o.length + 1) := by
  have hk := cnt_lt d (o.length + 1) (by omega)
  refine pos_eq (ostep_isOrd h d) (by rw [ostep_length]; omega) ?_
  rw [ostep_gt, if_pos rfl, ostep_length]; omega
theorem undo_ostep {o : List Int} (h : IsOrd o) (d : Int) : undo (ostep o d) = o := by
  have hk := cnt_lt d (o.length + 1) (by omega)
  have hp := pos_ostep h d
  refine gt_ext _ _ (by rw [undo_length, ostep_length]; omega) (fun i hi => ?_)
  have hi' := hi
  rw [undo_length, ostep_length] at hi'
  rw [undo_gt (ostep_isOrd h d) (by rw [ostep_length]; omega), hp, ostep_length, ostep_gt, ostep_gt]
  generalize cnt d (o.length + 1) = k at *
  split
  · next e => subst e; rw [if_neg (by omega), if_pos (by omega)]
  · next ne => rw [if_neg (by omega)]
def cntL (ds : List Int) : List Int := ds.mapIdx fun i d => (cnt d (i + 1) : Int)
theorem cntL_snoc (ds : List Int) (d : Int) : cntL (ds ++ [d]) = cntL ds ++ [(cnt d (ds.length + 1) : Int)] := by simp [cntL]
theorem cntL_length (ds : List Int) : (cntL ds).length = ds.length := by simp [cntL]
theorem cntL_gt (ds : List Int) (i : Nat) (h : i < ds.length) : gt (cntL ds) i = cnt (gt ds i) (i + 1) := by
  unfold gt cntL; simp [List.getD_eq_getElem?_getD, h]
theorem drs_ord (ds : List Int) : drs ds.length (ordL ds) = cntL ds := by
  induction ds using snoc_ind with
  | h0 => rfl
  | h1 l x ih =>
    rw [ordL_snoc, cntL_snoc, ← ih]
    rw [show (l ++ [x]).length = l.length + 1 by simp, drs, undo_ostep (ordL_isOrd l), pos_ostep (ordL_isOrd l), ordL_length]

/-! How many. -/
def fact : Nat → Nat
  | 0 => 1
  | n + 1 => (n + 1) * fact n

theorem gt_none (l : List Int) (i : Nat) (h : l.length ≤ i) : gt l i = 0 := by unfold gt; simp [List.getD_eq_getElem?_getD, h]
theorem gt_zeros (n i : Nat) : gt (List.replicate n 0) i = 0 := by
  unfold gt; rw [List.getD_eq_getElem?_getD, List.getElem?_replicate]; split <;> rfl

/-- What stands in the row behind k draws. -/
def part (D : List Int) (k : Nat) : List Int := ordL (D.take k) ++ List.replicate (D.length - k) 0
theorem part_length (D : List Int) (k : Nat) (h : k ≤ D.length) : (part D k).length = D.length := by simp [part, ordL_length]; omega
theorem part_zero (D : List Int) : part D 0 = List.replicate D.length 0 := by simp [part, ordL_nil]
theorem part_all (D : List Int) : part D D.length = ordL D := by simp [part]
theorem part_gt (D : List Int) (k i : Nat) (h : k ≤ D.length) : gt (part D k) i = gt (ordL (D.take k)) i := by
  have hl : (ordL (D.take k)).length = k := by rw [ordL_length]; simp; omega
  unfold part
  by_cases hi : i < k
  · rw [gt_left _ _ _ (by omega)]
  · rw [gt_right _ _ _ (by omega), gt_zeros, gt_none _ _ (by omega)]
theorem part_succ (D : List Int) (k : Nat) (h : k < D.length) :
    ((part D k).set k (gt (part D k) (cnt (D.getD k 0) (k + 1)))).set (cnt (D.getD k 0) (k + 1)) (k : Int) = part D (k + 1) := by
  have hc := cnt_lt (D.getD k 0) (k + 1) (by omega)
  have hl : (ordL (D.take k)).length = k := by rw [ordL_length]; simp; omega
  have hp := part_length D k (by omega)
  have ht : D.take (k + 1) = D.take k ++ [D.getD k 0] := by
    rw [List.take_succ_eq_append_getElem h]; simp [List.getD, h]
  refine gt_ext _ _ (by simp [hp, part_length D (k + 1) (by omega)]) (fun i hi => ?_)
  rw [part_gt D (k + 1) i (by omega), ht, ordL_snoc, ostep_gt, hl]
  generalize cnt (D.getD k 0) (k + 1) = c at *
  rw [gt_set _ _ _ _ (by simp; omega), gt_set _ _ _ _ (by omega), part_gt D k c (by omega), part_gt D k i (by omega)]

theorem fact_le (k : Nat) (h : k ≤ 20) : 1 ≤ fact k ∧ fact k ≤ 2432902008176640000 := by
  have : ∀ k : Fin 21, 1 ≤ fact k.val ∧ fact k.val ≤ 2432902008176640000 := by decide
  exact this ⟨k, by omega⟩
/-- How many orders there are. -/
def howMany (n : Int) : Int := if n < 0 ∨ 20 < n then 0 else fact n.toNat

theorem fact_cast (k : Nat) : ((fact k : Nat) : Int) * ((k : Int) + 1) = ((fact (k + 1) : Nat) : Int) := by
  rw [show fact (k + 1) = (k + 1) * fact k from rfl, Int.natCast_mul, Int.mul_comm]; rfl

/-- The first one that may be. -/
def okB (may : List Bool) (x : Int) : Bool := decide (0 ≤ x) && decide (x < may.length) && may.getD x.toNat false
def firstL (may : List Bool) (l : List Int) : Int := ((l.find? (okB may)).getD 0)
def someL (may : List Bool) (l : List Int) : Bool := (l.find? (okB may)).isSome
theorem find_drop (p : Int → Bool) (l : List Int) (k : Nat) (h : k < l.length) (hn : p (l.getD k 0) = false) (e : l.find? p = (l.drop k).find? p) : l.find? p = (l.drop (k + 1)).find? p := by
  rw [e, List.drop_eq_getElem_cons h]
  have : l.getD k 0 = l[k] := by simp [List.getD, h]
  rw [this] at hn
  rw [List.find?_cons, hn]
theorem find_here (p : Int → Bool) (l : List Int) (k : Nat) (h : k < l.length) (hn : p (l.getD k 0) = true) (e : l.find? p = (l.drop k).find? p) : l.find? p = some (l.getD k 0) := by
  rw [e, List.drop_eq_getElem_cons h]
  have : l.getD k 0 = l[k] := by simp [List.getD, h]
  rw [this] at hn ⊢
  rw [List.find?_cons, hn]
theorem find_end (p : Int → Bool) (l : List Int) (e : l.find? p = (l.drop l.length).find? p) : l.find? p = none := by rw [e]; simp

/-! Is it one? -/
def ordB (l : List Int) : Bool := decide (∀ i, i < l.length → l.count ((i : Nat) : Int) = 1)
theorem ordB_iff (l : List Int) : ordB l = true ↔ IsOrd l := by
  unfold ordB
  rw [decide_eq_true_iff]
  exact ⟨fun h => IsOrd.of_count h, fun h => h.count⟩
theorem ordB_no {l : List Int} (h : ¬ IsOrd l) : ordB l = false := by
  rw [← Bool.not_eq_true, ordB_iff]; exact h
theorem count_next (l : List Int) (j : Nat) (x : Int) (h : j < l.length) : (l.take (j + 1)).count x = (l.take j).count x + if l.getD j 0 = x then 1 else 0 := by
  rw [List.take_succ_eq_append_getElem h, List.count_append]
  have : l.getD j 0 = l[j] := by simp [List.getD, h]
  rw [this]
  by_cases e : l[j] = x <;> simp [e]

/-- The first k numbers' places stand in A. -/
structure Half (L A : List Int) (k : Nat) : Prop where
  len : A.length = L.length
  at_ : ∀ i, i < k → 0 ≤ gt L i ∧ gt L i < L.length ∧ gt A (gt L i).toNat = i
  of_ : ∀ x, x < L.length → gt A x = -1 ∨ ∃ i, i < k ∧ gt A x = (i : Int) ∧ gt L i = (x : Int)
theorem Half.start (L : List Int) : Half L (List.replicate L.length (-1)) 0 := by
  refine ⟨by simp, fun i hi => by omega, fun x hx => .inl ?_⟩
  unfold gt; simp [List.getD_eq_getElem?_getD, hx]
theorem Half.next {L A : List Int} {k : Nat} (h : Half L A k) (hk : k < L.length) {m : Nat} (hm : gt L k = (m : Int)) (hl : m < L.length) (hf : gt A m = -1) : Half L (A.set m k) (k + 1) := by
  have hlen := h.len
  refine ⟨by simp [hlen], fun i hi => ?_, fun x hx => ?_⟩
  · by_cases e : i = k
    · subst e
      rw [hm, gt_set _ _ _ _ (by omega), if_pos (by omega)]
      omega
    · obtain ⟨h1, h2, h3⟩ := h.at_ i (by omega)
      refine ⟨h1, h2, ?_⟩
      rw [gt_set _ _ _ _ (by omega), if_neg, h3]
      intro e2
      rw [e2, hf] at h3
      omega
  · rw [gt_set _ _ _ _ (by omega)]
    by_cases e : x = m
    · rw [if_pos e]
      exact .inr ⟨k, by omega, rfl, by rw [hm, e]⟩
    · rw [if_neg e]
      rcases h.of_ x hx with h1 | ⟨i, h1, h2, h3⟩
      · exact .inl h1
      · exact .inr ⟨i, by omega, h2, h3⟩
theorem Half.twice {L A : List Int} {k : Nat} (h : Half L A k) (hk : k < L.length) {m : Nat} (hm : gt L k = (m : Int)) (hl : m < L.length) (hf : gt A m ≠ -1) : ¬ IsOrd L := by
  intro ho
  rcases h.of_ m hl with h1 | ⟨i, h1, h2, h3⟩
  · exact hf h1
  · have := ho.ne i k (by omega) hk (by rw [h3, hm])
    omega
theorem Half.all {L A : List Int} (h : Half L A L.length) : IsOrd L := by
  refine ⟨fun i hi => ⟨(h.at_ i hi).1, (h.at_ i hi).2.1⟩, fun i j hi hj e => ?_⟩
  have h1 := (h.at_ i hi).2.2
  have h2 := (h.at_ j hj).2.2
  rw [e, h2] at h1
  omega
theorem not_ord_low {L : List Int} {k : Nat} (hk : k < L.length) (h : gt L k < 0) : ¬ IsOrd L := fun ho => by have := ho.lo k hk; omega
theorem not_ord_high {L : List Int} {k : Nat} (hk : k < L.length) (h : (L.length : Int) ≤ gt L k) : ¬ IsOrd L := fun ho => by have := ho.lo k hk; omega
def fill (n k : Nat) : List Int := List.replicate k (-1) ++ List.replicate (n - k) 0
theorem fill_length (n k : Nat) (h : k ≤ n) : (fill n k).length = n := by simp [fill]; omega
theorem fill_succ (n k : Nat) (h : k < n) : (fill n k).set k (-1) = fill n (k + 1) := by
  have hg : ∀ j i, j ≤ n → gt (fill n j) i = if i < j then -1 else 0 := by
    intro j i hj
    unfold fill
    by_cases hi : i < j
    · rw [gt_left _ _ _ (by simpa using hi), if_pos hi]
      unfold gt; simp [List.getD_eq_getElem?_getD, hi]
    · rw [gt_right _ _ _ (by simp; omega), if_neg hi, gt_zeros]
  have h1 := fill_length n k (by omega)
  have h2 := fill_length n (k + 1) (by omega)
  refine gt_ext _ _ (by simp [h1, h2]) (fun i hi => ?_)
  rw [gt_set _ _ _ _ (by omega), hg _ _ (by omega), hg _ _ (by omega)]
  by_cases e : i = k
  · subst e; rw [if_pos rfl, if_pos (by omega)]
  · rw [if_neg e]
    by_cases h3 : i < k
    · rw [if_pos h3, if_pos (by omega)]
    · rw [if_neg h3, if_neg (by omega)]

/-! Draws, from the last one on. -/
structure St (L : List Int) (b : Nat) (C A R D : List Int) : Prop where
  le : b ≤ L.length
  ord : IsOrd C
  clen : C.length = L.length - b
  alen : A.length = L.length
  rlen : R.length = L.length
  dlen : D.length = L.length
  rest : ∀ i, i < L.length - b → gt R i = gt C i
  inv : ∀ i, i < L.length - b → gt A (gt C i).toNat = i
  done : ∀ i, i < L.length → gt (drs L.length L) i = if i < L.length - b then gt (drs (L.length - b) C) i else gt D i
theorem St.start {L A : List Int} (h : Half L A L.length) (D : List Int) (hd : D.length = L.length) : St L 0 L A L D where
  le := Nat.zero_le _
  ord := h.all
  clen := rfl
  alen := h.len
  rlen := rfl
  dlen := hd
  rest := fun _ _ => rfl
  inv := fun i hi => (h.at_ i (by omega)).2.2
  done := fun i hi => by rw [if_pos (by omega)]; rfl
theorem St.last {L C A R D : List Int} {b m : Nat} (h : St L b C A R D) (hm : L.length - b = m + 1) : gt A m = (pos C : Int) ∧ pos C ≤ m ∧ 0 ≤ gt R m ∧ gt R m ≤ m := by
  have hc := h.clen
  obtain ⟨h1, h2⟩ := pos_spec h.ord (by omega)
  have h3 := h.inv (pos C) (by omega)
  rw [h2, hc, hm] at h3
  rw [show (((m + 1 : Nat) : Int) - 1).toNat = m by omega] at h3
  have h4 := h.rest m (by omega)
  have h5 := h.ord.lo m (by omega)
  rw [h4]
  exact ⟨h3, by omega, h5.1, by omega⟩
theorem St.next {L C A R D : List Int} {b m : Nat} (h : St L b C A R D) (hm : L.length - b = m + 1) : St L (b + 1) (undo C) (A.set (gt R m).toNat (pos C)) (R.set (pos C) (gt R m)) (D.set m (pos C)) := by
  have hc := h.clen
  have hal := h.alen
  have hrl := h.rlen
  have hdl := h.dlen
  have hle := h.le
  obtain ⟨l1, l2, l3, l4⟩ := h.last hm
  obtain ⟨p1, p2⟩ := pos_spec h.ord (by omega)
  have hrm := h.rest m (by omega)
  have hcm : C.length - 1 = m := by omega
  refine ⟨by omega, undo_isOrd h.ord, by rw [undo_length]; omega, by simpa using hal, by simpa using hrl, by simpa using hdl, fun i hi => ?_, fun i hi => ?_, fun i hi => ?_⟩
  · rw [gt_set _ _ _ _ (by omega), undo_gt h.ord (by omega), hcm, hrm, h.rest i (by omega)]
  · rw [gt_set _ _ _ _ (by omega), undo_gt h.ord (by omega), hcm, hrm]
    by_cases e : i = pos C
    · rw [if_pos e, if_pos rfl, e]
    · rw [if_neg e, if_neg, h.inv i (by omega)]
      intro e2
      have h5 := h.ord.lo i (by omega)
      have h6 := h.ord.lo m (by omega)
      have := h.ord.ne i m (by omega) (by omega) (by omega)
      omega
  · rw [h.done i hi, hm, drs, show L.length - (b + 1) = m by omega, gt_set _ _ _ _ (by omega)]
    by_cases h1 : i < m
    · rw [if_pos (by omega), if_pos h1, gt_left _ _ _ (by rw [drs_length]; omega)]
    · by_cases h2 : i = m
      · rw [if_pos (by omega), if_neg h1, if_pos h2, gt_right _ _ _ (by rw [drs_length]; omega), drs_length, h2]
        simp [gt]
      · rw [if_neg (by omega), if_neg h1, if_neg h2]
theorem St.all {L C A R D : List Int} (h : St L L.length C A R D) : D = drs L.length L := by
  refine gt_ext _ _ (by rw [h.dlen, drs_length]) (fun i hi => ?_)
  rw [h.done i (by rw [← h.dlen]; exact hi), if_neg (by omega)]

theorem swap_ostep {O : List Int} {m k : Nat} {x y : Int} (hm : O.length = m) (hk : k = cnt x (m + 1)) (hy : y = (O ++ [(m : Int)]).getD k 0) : ((O ++ [(m : Int)]).set k (m : Int)).set m y = ostep O x := by
  subst hm
  have hc := cnt_lt x (O.length + 1) (by omega)
  refine gt_ext _ _ (by simp [ostep_length]) (fun i hi => ?_)
  have hi' : i < O.length + 1 := by simpa using hi
  rw [ostep_gt, ← hk, gt_set _ _ _ _ (by simp), gt_set _ _ _ _ (by simp; omega)]
  have hy' : y = gt (O ++ [(O.length : Int)]) k := hy
  by_cases h1 : i = O.length
  · rw [if_pos h1, hy']
    by_cases h2 : k < O.length
    · rw [gt_left _ _ _ h2, if_neg (by omega), if_pos h1]
    · rw [gt_right _ _ _ (by omega), if_pos (by omega), show k - O.length = 0 by omega]; rfl
  · rw [if_neg h1]
    by_cases h2 : i = k
    · rw [if_pos h2, if_pos h2]
    · rw [if_neg h2, if_neg h2, if_neg h1, gt_left _ _ _ (by omega)]

theorem undo_last {L : List Int} {m : Nat} (hl : L.length = m + 1) (hp : pos L = m) : L.take m = undo L := by
  unfold undo
  rw [hl, hp, show m + 1 - 1 = m by omega, List.take_set_of_le (by omega)]
theorem undo_mid {L : List Int} {m : Nat} (hl : L.length = m + 1) : (L.take m).set (pos L) (gt L m) = undo L := by
  unfold undo
  rw [hl, show m + 1 - 1 = m by omega, List.take_set]
theorem drs_succ {L : List Int} {m : Nat} (hl : L.length = m + 1) : drs L.length L = drs (undo L).length (undo L) ++ [(pos L : Int)] := by
  rw [undo_length, hl, drs, show m + 1 - 1 = m by omega]
def Found (L : List Int) (j q : Nat) : Prop := ∀ i, i < j → gt L i = (L.length : Int) - 1 → q = i
theorem Found.pos {L : List Int} {q : Nat} (h : Found L L.length q) (ho : IsOrd L) (hl : 0 < L.length) : q = pos L := h _ (pos_spec ho hl).1 (pos_spec ho hl).2
theorem Found.yes {L : List Int} {j q : Nat} (h : Found L j q) (ho : IsOrd L) (hj : j < L.length) (e : gt L j = (L.length : Int) - 1) : Found L (j + 1) j := by
  intro i hi e2
  exact (ho.ne i j (by omega) hj (e2.trans e.symm)).symm
theorem Found.no {L : List Int} {j q : Nat} (h : Found L j q) (e : gt L j ≠ (L.length : Int) - 1) : Found L (j + 1) q := by
  intro i hi e2
  by_cases h1 : i = j
  · subst h1; exact absurd e2 e
  · exact h i (by omega) e2

end Go.Proofs.Ytlnjomjeafmobaa
