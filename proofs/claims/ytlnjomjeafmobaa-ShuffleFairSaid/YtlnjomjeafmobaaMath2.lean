/- All rows of draws, on lists. -/
import Derived.Test.YtlnjomjeafmobaaMath
namespace Go.Proofs.Ytlnjomjeafmobaa
set_option linter.unusedVariables false

/-! All rows of draws. -/
def more (n : Nat) (l : List Int) : List (List Int) := (List.range (n + 1)).map fun d : Nat => l ++ [(d : Int)]
def allL : Nat → List (List Int)
  | 0 => [[]]
  | n + 1 => (allL n).flatMap (more n)
theorem more_length (n : Nat) (l : List Int) : (more n l).length = n + 1 := by simp [more]
theorem flat_length (n : Nat) (A : List (List Int)) : (A.flatMap (more n)).length = A.length * (n + 1) := by
  induction A with
  | nil => simp
  | cons a A ih => rw [List.flatMap_cons, List.length_append, ih, more_length, List.length_cons, Nat.add_mul]; omega
theorem allL_length (n : Nat) : (allL n).length = fact n := by
  induction n with
  | zero => rfl
  | succ n ih => rw [allL, flat_length, ih, fact, Nat.mul_comm]
theorem allL_each (n : Nat) : ∀ l ∈ allL n, l.length = n ∧ ∀ i, i < n → 0 ≤ gt l i ∧ gt l i ≤ i := by
  induction n with
  | zero => intro l hl; simp [allL] at hl; subst hl; simp
  | succ n ih =>
    intro l hl
    rw [allL, List.mem_flatMap] at hl
    obtain ⟨a, ha, hl⟩ := hl
    obtain ⟨h1, h2⟩ := ih a ha
    simp only [more, List.mem_map, List.mem_range] at hl
    obtain ⟨d, hd, rfl⟩ := hl
    refine ⟨by simp [h1], fun i hi => ?_⟩
    by_cases h : i < n
    · rw [gt_left _ _ _ (by omega)]; exact h2 i h
    · rw [gt_right _ _ _ (by omega), show i - a.length = 0 by omega]
      simp [gt]; omega
theorem flat_next (n : Nat) (A : List (List Int)) (k : Nat) (h : k < A.length) : (A.take (k + 1)).flatMap (more n) = (A.take k).flatMap (more n) ++ more n (A.getD k []) := by
  have e : A.getD k [] = A[k] := by simp [List.getD, h]
  rw [List.take_succ_eq_append_getElem h, e, List.flatMap_append]
  simp
theorem more_next (l : List Int) (d : Nat) : ((List.range (d + 1)).map fun d : Nat => l ++ [(d : Int)]) = ((List.range d).map fun d : Nat => l ++ [(d : Int)]) ++ [l ++ [(d : Int)]] := by
  rw [List.range_succ]; simp

theorem cntL_self (l : List Int) (h : ∀ i, i < l.length → 0 ≤ gt l i ∧ gt l i ≤ i) : cntL l = l := by
  refine gt_ext _ _ (cntL_length l) (fun i hi => ?_)
  rw [cntL_length] at hi
  rw [cntL_gt l i hi]
  have := h i hi
  obtain ⟨m, hm⟩ : ∃ m : Nat, gt l i = m := ⟨(gt l i).toNat, by omega⟩
  rw [hm] at this ⊢
  rw [cnt_small _ _ (by omega)]
theorem allL_nodup (n : Nat) : (allL n).Nodup := by
  induction n with
  | zero => simp [allL]
  | succ n ih =>
    rw [allL, List.nodup_iff_pairwise_ne, List.pairwise_flatMap]
    refine ⟨fun a _ => ?_, ?_⟩
    · unfold more
      rw [List.pairwise_map]
      refine List.Pairwise.imp ?_ (List.nodup_iff_pairwise_ne.1 (List.nodup_range (n := n + 1)))
      intro x y hxy e
      have := List.append_cancel_left e
      simp at this
      exact hxy (by omega)
    · refine List.Pairwise.imp ?_ (List.nodup_iff_pairwise_ne.1 ih)
      intro a b hab x hx y hy e
      simp only [more, List.mem_map] at hx hy
      obtain ⟨c, _, rfl⟩ := hx
      obtain ⟨d, _, rfl⟩ := hy
      have := congrArg List.dropLast e
      simp at this
      exact hab this
theorem ord_inj {n : Nat} {a b : List Int} (ha : a ∈ allL n) (hb : b ∈ allL n) (e : ordL a = ordL b) : a = b := by
  obtain ⟨a1, a2⟩ := allL_each n a ha
  obtain ⟨b1, b2⟩ := allL_each n b hb
  have h1 := drs_ord a
  have h2 := drs_ord b
  rw [cntL_self a (by rw [a1]; exact a2), a1] at h1
  rw [cntL_self b (by rw [b1]; exact b2), b1] at h2
  rw [← h1, ← h2, e]
theorem getD_getElem (L : List (List Int)) (i : Nat) (h : i < L.length) : L.getD i [] = L[i] := by simp [List.getD, h]
theorem ord_ne {n i j : Nat} (hi : i < (allL n).length) (hj : j < (allL n).length) (h : i ≠ j) : ordL ((allL n).getD i []) ≠ ordL ((allL n).getD j []) := by
  intro e
  rw [getD_getElem _ _ hi, getD_getElem _ _ hj] at e
  have h1 := ord_inj (List.getElem_mem hi) (List.getElem_mem hj) e
  have h2 := List.nodup_iff_pairwise_ne.1 (allL_nodup n)
  rw [List.pairwise_iff_getElem] at h2
  by_cases h3 : i < j
  · exact h2 i j hi hj h3 h1
  · exact h2 j i hj hi (by omega) h1.symm
theorem ordLL_at (A : List (List Int)) (k j : Nat) (hj : j < k) (hk : k ≤ A.length) : ((A.take k).map ordL).getD j [] = ordL (A.getD j []) := by
  have h1 : j < ((A.take k).map ordL).length := by simp; omega
  rw [getD_getElem _ _ h1, getD_getElem _ _ (by omega)]
  simp
theorem ordLL_next (A : List (List Int)) (k : Nat) (hk : k < A.length) : (A.take (k + 1)).map ordL = (A.take k).map ordL ++ [ordL (A.getD k [])] := by
  rw [List.take_succ_eq_append_getElem hk, getD_getElem _ _ hk, List.map_append]
  rfl

end Go.Proofs.Ytlnjomjeafmobaa
