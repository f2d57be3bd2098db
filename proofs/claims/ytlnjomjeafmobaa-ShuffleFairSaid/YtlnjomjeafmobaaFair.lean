/- Each one alike: how many orders have which first. -/
import Derived.Test.YtlnjomjeafmobaaMath2
namespace Go.Proofs.Ytlnjomjeafmobaa
set_option linter.unusedVariables false

/-- An order whose numbers have changed places, a and b. -/
def swp (a b x : Int) : Int := if x = a then b else if x = b then a else x
theorem swp_swp (a b x : Int) : swp a b (swp a b x) = x := by unfold swp; (repeat' split) <;> omega
theorem swp_inj (a b x y : Int) (h : swp a b x = swp a b y) : x = y := by rw [← swp_swp a b x, h, swp_swp]
theorem gt_map (f : Int → Int) (l : List Int) (i : Nat) (h : i < l.length) : gt (l.map f) i = f (gt l i) := by unfold gt; simp [List.getD_eq_getElem?_getD, h]
theorem IsOrd.swp {l : List Int} (h : IsOrd l) {a b : Nat} (ha : a < l.length) (hb : b < l.length) : IsOrd (l.map (swp a b)) := by
  refine ⟨fun i hi => ?_, fun i j hi hj e => ?_⟩
  · rw [List.length_map] at hi ⊢
    rw [gt_map _ _ _ hi]
    have := h.lo i hi
    unfold Go.Proofs.Ytlnjomjeafmobaa.swp
    split
    · omega
    · split <;> omega
  · rw [List.length_map] at hi hj
    rw [gt_map _ _ _ hi, gt_map _ _ _ hj] at e
    exact h.ne i j hi hj (swp_inj _ _ _ _ e)

def ords (n : Nat) : List (List Int) := (allL n).map ordL
theorem allL_mem (n : Nat) : ∀ l : List Int, l.length = n → (∀ i, i < n → 0 ≤ gt l i ∧ gt l i ≤ i) → l ∈ allL n := by
  induction n with
  | zero => intro l hl _; rw [List.eq_nil_of_length_eq_zero hl]; simp [allL]
  | succ n ih =>
    intro l hl hg
    rw [allL, List.mem_flatMap]
    refine ⟨l.take n, ih _ (by simp; omega) (fun i hi => by rw [gt_take _ _ _ hi]; exact hg i (by omega)), ?_⟩
    simp only [more, List.mem_map, List.mem_range]
    have h1 := hg n (by omega)
    refine ⟨(gt l n).toNat, by omega, ?_⟩
    rw [show (((gt l n).toNat : Nat) : Int) = gt l n by omega]
    refine gt_ext _ _ (by simp; omega) (fun i hi => ?_)
    have hi' : i < n + 1 := by simp at hi; omega
    by_cases h : i < n
    · rw [gt_left _ _ _ (by simp; omega), gt_take _ _ _ h]
    · obtain rfl : i = n := by omega
      rw [gt_right _ _ _ (by simp; omega), show i - (l.take i).length = 0 by simp; omega]
      simp [gt]
theorem mem_ords (n : Nat) (o : List Int) : o ∈ ords n ↔ IsOrd o ∧ o.length = n := by
  unfold ords
  rw [List.mem_map]
  constructor
  · rintro ⟨l, hl, rfl⟩
    exact ⟨ordL_isOrd l, by rw [ordL_length]; exact (allL_each n l hl).1⟩
  · rintro ⟨h, hn⟩
    refine ⟨drs n o, allL_mem n _ (drs_length n o) (fun i hi => ?_), ord_drs n o h hn⟩
    have h1 : ∀ n (l : List Int), IsOrd l → l.length = n → ∀ i, i < n → 0 ≤ gt (drs n l) i ∧ gt (drs n l) i ≤ i := by
      intro n
      induction n with
      | zero => intro l _ _ i hi; omega
      | succ n ih =>
        intro l h hn i hi
        rw [drs]
        by_cases h2 : i < n
        · rw [gt_left _ _ _ (by rw [drs_length]; exact h2)]
          exact ih _ (undo_isOrd h) (by rw [undo_length]; omega) i h2
        · rw [gt_right _ _ _ (by rw [drs_length]; omega), drs_length, show i - n = 0 by omega]
          have := (pos_spec h (by omega)).1
          simp [gt]; omega
    exact h1 n o h hn i hi
theorem ords_nodup (n : Nat) : (ords n).Nodup := by
  unfold ords
  rw [List.nodup_iff_pairwise_ne, List.pairwise_map]
  have h := List.nodup_iff_pairwise_ne.1 (allL_nodup n)
  rw [List.pairwise_iff_getElem] at h ⊢
  intro i j hi hj hij e
  exact h i j hi hj hij (ord_inj (List.getElem_mem hi) (List.getElem_mem hj) e)
theorem map_swp_swp (a b : Int) (l : List Int) : (l.map (swp a b)).map (swp a b) = l := by
  rw [List.map_map]
  conv => rhs; rw [← List.map_id l]
  exact List.map_congr_left (fun x _ => swp_swp a b x)
theorem ords_swp (n : Nat) {a b : Nat} (ha : a < n) (hb : b < n) : ((ords n).map (List.map (swp a b))).Perm (ords n) := by
  rw [List.perm_ext_iff_of_nodup]
  · intro o
    rw [List.mem_map, mem_ords]
    constructor
    · rintro ⟨x, hx, rfl⟩
      rw [mem_ords] at hx
      exact ⟨hx.1.swp (by omega) (by omega), by simp [hx.2]⟩
    · rintro ⟨h, hn⟩
      exact ⟨o.map (swp a b), (mem_ords n _).2 ⟨h.swp (by omega) (by omega), by simp [hn]⟩, map_swp_swp _ _ o⟩
  · rw [List.nodup_iff_pairwise_ne, List.pairwise_map]
    refine List.Pairwise.imp ?_ (List.nodup_iff_pairwise_ne.1 (ords_nodup n))
    intro x y hxy e
    have := congrArg (List.map (swp a b)) e
    rw [map_swp_swp, map_swp_swp] at this
    exact hxy this
  · exact ords_nodup n

/-- How many of these have x first. -/
def winsOf (M : List Bool) (A : List (List Int)) (x : Nat) : Nat := A.countP fun o => o.find? (okB M) == some (x : Int)
theorem find_swp (M : List Bool) {a b : Nat} (ha : okB M a = true) (hb : okB M b = true) (o : List Int) : (o.map (swp a b)).find? (okB M) = (o.find? (okB M)).map (swp a b) := by
  have hok : ∀ x, okB M (swp a b x) = okB M x := by
    intro x
    unfold swp
    split
    · next e => rw [e, ha, hb]
    · split
      · next e => rw [e, ha, hb]
      · rfl
  induction o with
  | nil => rfl
  | cons x o ih =>
    rw [List.map_cons, List.find?_cons, List.find?_cons, hok]
    cases h : okB M x
    · simpa using ih
    · simp
theorem wins_alike (M : List Bool) {a b : Nat} (ha : okB M a = true) (hb : okB M b = true) : winsOf M (ords M.length) a = winsOf M (ords M.length) b := by
  have hal : a < M.length := by
    unfold okB at ha; simp at ha; omega
  have hbl : b < M.length := by
    unfold okB at hb; simp at hb; omega
  unfold winsOf
  rw [← (ords_swp M.length hal hbl).countP_eq, List.countP_map]
  congr 1
  funext o
  simp only [Function.comp]
  rw [find_swp M ha hb]
  cases o.find? (okB M) with
  | none => simp
  | some y =>
    simp only [Option.map_some]
    rw [Bool.eq_iff_iff]
    simp
    unfold swp
    constructor
    · intro h
      split at h
      · omega
      · split at h <;> omega
    · intro h
      subst h
      split
      · omega
      · simp

def sumTo (f : Nat → Nat) : Nat → Nat
  | 0 => 0
  | n + 1 => sumTo f n + f n
theorem sumTo_congr (f g : Nat → Nat) (n : Nat) (h : ∀ i, i < n → f i = g i) : sumTo f n = sumTo g n := by
  induction n with
  | zero => rfl
  | succ n ih => rw [sumTo, sumTo, ih (fun i hi => h i (by omega)), h n (by omega)]
theorem sumTo_one (f g : Nat → Nat) (n y : Nat) (hy : y < n) (h : ∀ i, f i = g i + if i = y then 1 else 0) : sumTo f n = sumTo g n + 1 := by
  induction n with
  | zero => omega
  | succ n ih =>
    rw [sumTo, sumTo, h n]
    by_cases e : n = y
    · subst e
      rw [if_pos rfl, sumTo_congr f g n (fun i hi => by rw [h i, if_neg (by omega)]; rfl)]; omega
    · rw [if_neg e, ih (by omega)]; omega
theorem sumTo_zero (n : Nat) : sumTo (fun _ => 0) n = 0 := by
  induction n with
  | zero => rfl
  | succ n ih => rw [sumTo, ih]
theorem wins_cons (M : List Bool) (o : List Int) (A : List (List Int)) (x : Nat) : winsOf M (o :: A) x = winsOf M A x + if o.find? (okB M) = some (x : Int) then 1 else 0 := by
  unfold winsOf
  rw [List.countP_cons]
  by_cases h : o.find? (okB M) = some (x : Int)
  · rw [if_pos h]; simp [h]
  · rw [if_neg h]; simp [h]
theorem wins_sum (M : List Bool) (n : Nat) (A : List (List Int)) (h : ∀ o ∈ A, ∃ y : Nat, y < n ∧ o.find? (okB M) = some (y : Int)) : sumTo (winsOf M A) n = A.length := by
  induction A with
  | nil =>
    rw [sumTo_congr (winsOf M []) (fun _ => 0) n (fun i _ => rfl), sumTo_zero]; rfl
  | cons o A ih =>
    obtain ⟨y, hy, e⟩ := h o (by simp)
    rw [sumTo_one (winsOf M (o :: A)) (winsOf M A) n y hy, ih (fun o ho => h o (by simp [ho]))]
    · rfl
    · intro i
      rw [wins_cons, e]
      by_cases h1 : i = y
      · subst h1; simp
      · rw [if_neg h1, if_neg (by intro e; injection e with e; omega)]
theorem count_sum (M : List Bool) (c n : Nat) (hn : n ≤ M.length) : sumTo (fun x => if M.getD x false = true then c else 0) n = c * (M.take n).count true := by
  induction n with
  | zero => simp [sumTo]
  | succ n ih =>
    rw [sumTo, ih (by omega), List.take_succ_eq_append_getElem (by omega), List.count_append]
    have e : M.getD n false = M[n] := by simp [List.getD, show n < M.length by omega]
    rw [e]
    cases M[n] <;> simp [Nat.mul_add]
theorem okB_at {M : List Bool} {m : Nat} (h : m < M.length) : okB M m = M.getD m false := by
  unfold okB
  rw [decide_eq_true (by omega : (0 : Int) ≤ m), decide_eq_true (by omega : (m : Int) < M.length)]; simp
theorem okB_nat {M : List Bool} {x : Int} (h : okB M x = true) : ∃ m : Nat, x = m ∧ m < M.length ∧ M.getD m false = true := by
  unfold okB at h
  simp only [Bool.and_eq_true, decide_eq_true_eq] at h
  exact ⟨x.toNat, by omega, by omega, h.2⟩
/-- Some may: then each order has a first one. -/
theorem find_some {M : List Bool} {o : List Int} (ho : IsOrd o) (hl : o.length = M.length) {i : Nat} (hi : i < M.length) (hm : M.getD i false = true) : ∃ y : Nat, y < M.length ∧ o.find? (okB M) = some (y : Int) := by
  obtain ⟨j, hj, e⟩ := ho.has i (by omega)
  cases h : o.find? (okB M) with
  | none =>
    rw [List.find?_eq_none] at h
    have := h _ (gt_mem o j hj)
    rw [e, okB_at hi] at this
    exact absurd hm this
  | some y =>
    have h1 := List.find?_some h
    obtain ⟨m, rfl, h2, _⟩ := okB_nat h1
    exact ⟨m, h2, rfl⟩
theorem find_none {M : List Bool} (o : List Int) (h : ∀ i, i < M.length → M.getD i false = false) : o.find? (okB M) = none := by
  rw [List.find?_eq_none]
  intro x _ hx
  obtain ⟨m, rfl, h1, h2⟩ := okB_nat hx
  rw [h m h1] at h2
  cases h2
theorem wins_none (M : List Bool) (A : List (List Int)) (x : Nat) (h : M.getD x false = false) : winsOf M A x = 0 := by
  unfold winsOf
  rw [List.countP_eq_zero]
  intro o _ e
  have e' : o.find? (okB M) = some (x : Int) := by simpa using e
  obtain ⟨m, h1, h2, h3⟩ := okB_nat (List.find?_some e')
  have : x = m := by omega
  subst this
  rw [h] at h3
  cases h3
theorem count_pos_at {M : List Bool} (h : 0 < M.count true) : ∃ i, i < M.length ∧ M.getD i false = true := by
  obtain ⟨i, hi, e⟩ := List.getElem_of_mem (List.count_pos_iff.1 h)
  exact ⟨i, hi, by simp [List.getD, hi, e]⟩
theorem count_zero_at {M : List Bool} (h : M.count true = 0) : ∀ i, i < M.length → M.getD i false = false := by
  intro i hi
  have e : M.getD i false = M[i] := by simp [List.getD, hi]
  rw [e]
  cases h2 : M[i]
  · rfl
  · exact absurd (h2 ▸ List.getElem_mem hi) (List.count_eq_zero.1 h)
theorem fair_wins (M : List Bool) {i : Nat} (hi : i < M.length) (hm : M.getD i false = true) : M.count true * winsOf M (ords M.length) i = fact M.length := by
  have h1 : sumTo (winsOf M (ords M.length)) M.length = (ords M.length).length := by
    refine wins_sum M M.length _ (fun o ho => ?_)
    rw [mem_ords] at ho
    exact find_some ho.1 ho.2 hi hm
  have h2 : sumTo (winsOf M (ords M.length)) M.length = sumTo (fun x => if M.getD x false = true then winsOf M (ords M.length) i else 0) M.length := by
    refine sumTo_congr _ _ _ (fun x hx => ?_)
    by_cases h : M.getD x false = true
    · rw [if_pos h]
      exact wins_alike M (by rw [okB_at hx]; exact h) (by rw [okB_at hi]; exact hm)
    · rw [if_neg h]
      exact wins_none M _ x (by simpa using h)
  rw [h2, count_sum M _ _ (Nat.le_refl _), List.take_length] at h1
  rw [Nat.mul_comm, h1]
  unfold ords
  rw [List.length_map, allL_length]
theorem fair_want (M : List Bool) {i : Nat} (hi : i < M.length) (hm : M.getD i false = true) : ((fact M.length : Nat) : Int) / ((M.count true : Nat) : Int) = (winsOf M (ords M.length) i : Nat) := by
  have h := fair_wins M hi hm
  have hk : 0 < M.count true := by
    rcases Nat.eq_zero_or_pos (M.count true) with h0 | h0
    · have := count_zero_at h0 i hi
      rw [this] at hm; cases hm
    · exact h0
  rw [← h, Int.natCast_mul, Int.mul_ediv_cancel_left _ (by omega)]
theorem wins_next (M : List Bool) (A : List (List Int)) (j x : Nat) (h : j < A.length) : winsOf M (A.take (j + 1)) x = winsOf M (A.take j) x + if (A.getD j []).find? (okB M) = some (x : Int) then 1 else 0 := by
  unfold winsOf
  rw [List.take_succ_eq_append_getElem h, List.countP_append]
  have e : A.getD j [] = A[j] := by simp [List.getD, h]
  rw [e]
  by_cases h2 : A[j].find? (okB M) = some (x : Int)
  · rw [if_pos h2]; simp [h2]
  · rw [if_neg h2]; simp [h2]
/-- The row of wins behind j orders. -/
def winRow (M : List Bool) (j : Nat) : List Int := (List.range M.length).map fun x => ((winsOf M ((ords M.length).take j) x : Nat) : Int)
theorem winRow_length (M : List Bool) (j : Nat) : (winRow M j).length = M.length := by simp [winRow]
theorem winRow_at (M : List Bool) (j x : Nat) (h : x < M.length) : (winRow M j).getD x 0 = (winsOf M ((ords M.length).take j) x : Nat) := by
  unfold winRow; simp [List.getD, h]
theorem winRow_zero (M : List Bool) : winRow M 0 = List.replicate M.length 0 := by
  refine gt_ext _ _ (by simp [winRow]) (fun i hi => ?_)
  have hi' : i < M.length := by simpa [winRow] using hi
  rw [gt_zeros]
  have := winRow_at M 0 i hi'
  unfold gt
  rw [this]; rfl
theorem winRow_none (M : List Bool) (j : Nat) (hj : j < (ords M.length).length) (h : ((ords M.length).getD j []).find? (okB M) = none) : winRow M (j + 1) = winRow M j := by
  unfold winRow
  refine List.map_congr_left (fun x _ => ?_)
  rw [wins_next _ _ _ _ hj, h]; simp
theorem winRow_some (M : List Bool) (j y : Nat) (hj : j < (ords M.length).length) (hy : y < M.length) (h : ((ords M.length).getD j []).find? (okB M) = some (y : Int)) : winRow M (j + 1) = (winRow M j).set y ((winRow M j).getD y 0 + 1) := by
  refine gt_ext _ _ (by simp [winRow]) (fun i hi => ?_)
  have hi' : i < M.length := by simpa [winRow] using hi
  rw [gt_set _ _ _ _ (by rw [winRow_length]; exact hy)]
  have h1 := winRow_at M (j + 1) i hi'
  have h2 := winRow_at M j i hi'
  have h3 := winRow_at M j y hy
  unfold gt
  rw [h1, h2, h3, wins_next _ _ _ _ hj, h]
  by_cases e : i = y
  · subst e; simp
  · rw [if_neg e, if_neg (by intro e2; injection e2 with e2; omega)]; rfl
theorem wins_le (M : List Bool) (A : List (List Int)) (x : Nat) : winsOf M A x ≤ A.length := List.countP_le_length

end Go.Proofs.Ytlnjomjeafmobaa
