/- The contract of the document's All. -/
import Derived.Test.YtlnjomjeafmobaaLists
namespace Go.Proofs.Ytlnjomjeafmobaa
open Go.RowKit
set_option linter.unusedVariables false

theorem fact_le720 (n : Nat) (h : n ≤ 6) : fact n ≤ 720 := by
  have : ∀ k : Fin 7, fact k.val ≤ 720 := by decide
  exact this ⟨n, by omega⟩

theorem lists_made (w : World) (o : Obj) : Lists (w.alloc (.cells #[] 22)) w.heap.size (.slice (some ⟨w.heap.size, 0, none⟩) 0 0) [] :=
  ⟨[], World.ownsRow_made w #[] 0 (Nat.le_refl _) (Nat.zero_le _) rfl, rfl, fun j hj => by simp at hj⟩

theorem lists_one (w : World) : Lists ((w.alloc (.cells #[] 3)).alloc (.cells #[.slice (some ⟨w.heap.size, 0, none⟩) 0 0] 22)) w.heap.size (.slice (some ⟨w.heap.size + 1, 0, none⟩) 1 1) [[]] := by
  have h1 : (w.alloc (.cells #[] 3)).ownsRow w.heap.size 3 1 (.slice (some ⟨w.heap.size, 0, none⟩) 0 0) 0 [] := World.ownsRow_made w #[] 0 (Nat.le_refl _) (Nat.zero_le _) rfl
  have h2 := World.ownsRow_made (base := w.heap.size) (e := 22) (size := 1) (w.alloc (.cells #[] 3)) #[.slice (some ⟨w.heap.size, 0, none⟩) 0 0] 1 (by simp) (by unfold maxLen; omega) rfl
  refine ⟨[.slice (some ⟨w.heap.size, 0, none⟩) 0 0], ?_, rfl, fun j hj => ?_⟩
  · refine ⟨rfl, .inr ⟨w.heap.size + 1, 1, #[.slice (some ⟨w.heap.size, 0, none⟩) 0 0], rfl, by omega, ?_, Nat.le_refl _, by unfold maxLen; omega, rfl, rfl⟩⟩
    have := heap_alloc_new (w.alloc (.cells #[] 3)) (.cells #[.slice (some ⟨w.heap.size, 0, none⟩) 0 0] 22)
    simpa using this
  · match j, hj with
    | 0, _ => exact ⟨_, rfl, h1.alloc _⟩

theorem own_snoc {w : World} {base base' g m c : Nat} {l : List Int} {x : Int} (hl : l.length = m) (h : w.ownsRow base 3 1 (.slice (some ⟨g, 0, none⟩) (m + 1) c) (m + 1) ((l ++ [x]).map (Value.int .i64))) (hb : base' ≤ base) :
    w.ownsRow base' 3 1 (.slice (some ⟨g, 0, none⟩) (m + 1) c) (l ++ [x]).length ((l ++ [x]).map (Value.int .i64)) := by
  rw [show (l ++ [x]).length = m + 1 by simp [hl]]
  exact own_less h hb

set_option maxHeartbeats 4000000 in
theorem all_any (n : Nat) : ∀ (w : World), n ≤ 6 → Calls Try.prog 20 #[.int .i64 n] w fun e w' => ∃ v, e = .returned v ∧ Lists w' w.heap.size v (allL n) ∧ Turn (fun _ => False) w w' := by
  induction n with
  | zero =>
    intro w _
    go_enter Try.func20, Try.ntmps20
    go_wp2_with fail
    go_ret
    exact ⟨_, rfl, lists_one w, ((Turn.refl _ w).alloc _).alloc _⟩
  | succ m ih =>
    intro w hm
    have IH := Lib.hid ih
    have HAL := Lib.hid (allL_length m)
    have hfl := fact_le720 m (by omega)
    have hpos : ¬ ((m : Int) + 1 ≤ 0) := by omega
    rw [show ((m + 1 : Nat) : Int) = (m : Int) + 1 by omega]
    clear ih
    go_enter Try.func20, Try.ntmps20
    go_wp2_with (go_at_call 20; refine (IH.out _ (by omega)).mono ?_; rintro e w1 ⟨v1, rfl, l1, t1⟩; obtain ⟨g1, c1, hv1⟩ := l1.form (by rw [HAL.out]; have := fact_le m (by omega); omega); subst hv1; rw [HAL.out] at l1 ⊢; have L1 := Lib.hid l1; have T1 := Lib.hid t1; clear l1 t1)
    have hg1 := L1.out.lt g1 rfl
    have hsz := World.size_alloc (w := w) (o := .cells #[] 22)
    have hgw : w.heap.size < g1 := by omega
    have T0 := Lib.hid (((Turn.refl (fun _ => False) w).alloc (.cells #[] 22)).trans T1.out)
    have S1 := Lib.hid (L1.out.less (base' := w.heap.size) (by omega))
    have O1 := Lib.hid ((lists_made w (.cells #[] 22)).new T1.out)
    clear L1 T1 hsz hg1
    go_loopw [3, 16] (fun o i wr => ∃ k : Nat, k ≤ fact m ∧ i = .int .i64 k ∧ Hid (Lists wr w.heap.size o (((allL m).take k).flatMap (more m))) ∧ Hid (o.ownBlock ≠ some g1) ∧ Hid (Lists wr w.heap.size (.slice (some ⟨g1, 0, none⟩) (fact m) c1) (allL m)) ∧ Hid (Turn (fun _ => False) w wr)) (fun _ i _ => fact m - (intOf i).toNat)
    case atStart => exact ⟨0, Nat.zero_le _, rfl, Lib.hid (by simpa using O1.out), Lib.hid (by simp [Value.ownBlock]; omega), S1, T0⟩
    case round =>
      obtain ⟨k, hk, rfl, HL, HB, HS, HT⟩ := hrel
      clear T0 S1 O1
      by_cases hlt : k < fact m
      · obtain ⟨bo, d0, hcell, hown⟩ := HS.out.own_at (j := k) (by rw [HAL.out]; exact hlt)
        have HE := Lib.hid (allL_each m _ (List.getElem_mem (l := allL m) (n := k) (by rw [HAL.out]; exact hlt)))
        have HF := Lib.hid (flat_next m (allL m) k (by rw [HAL.out]; exact hlt))
        have hll := HE.out.1
        rw [show (allL m)[k]'(by rw [HAL.out]; exact hlt) = (allL m).getD k [] by simp [List.getD, HAL.out, hlt]] at hll
        have hlen : (((allL m).take k).flatMap (more m)).length ≤ 5040 := by
          rw [flat_length]
          have h1 : ((allL m).take k).length ≤ 720 := by simp; omega
          have h2 : m + 1 ≤ 7 := by omega
          exact Nat.le_trans (Nat.mul_le_mul h1 h2) (by omega)
        obtain ⟨l, hl⟩ : ∃ l, l = (allL m).getD k [] := ⟨_, rfl⟩
        rw [← hl] at hcell hown HF hll
        obtain ⟨LL, hLL⟩ : ∃ LL, LL = ((allL m).take k).flatMap (more m) := ⟨_, rfl⟩
        rw [← hLL] at HL HF hlen
        rw [hll] at hcell hown
        have HLL := Lib.hid hll
        have HI := Lib.hid hown
        have HNil := Lib.hid (own_reads hown).2.2.2
        clear HE hl hLL hll hown
        obtain ⟨wo, hwo⟩ : ∃ wo : World, wo = wr := ⟨_, rfl⟩
        subst hwo
        go_wp2_with fail
        have hnI : ¬ ((0 : Int) ≤ -1) := by omega
        obtain ⟨i0, hi0, hz0, hz1, hz2⟩ := info_parts info_int
        have HInf := Lib.hid (And.intro hi0 (And.intro hz0 (And.intro hz1 hz2)))
        clear hi0 hz0 hz1 hz2 hnI
        go_loopw [3, 6] (fun o i wr => ∃ j : Nat, j ≤ m + 1 ∧ i = .int .i64 j ∧ Hid (Lists wr w.heap.size o (LL ++ (List.range j).map fun d : Nat => l ++ [(d : Int)])) ∧ Hid (o.ownBlock ≠ some g1) ∧ Hid (Lists wr w.heap.size (.slice (some ⟨g1, 0, none⟩) (fact m) c1) (allL m)) ∧ Hid (wr.ownsRow w.heap.size 3 1 (.slice bo m d0) m (l.map (Value.int .i64))) ∧ Hid (Turn (fun _ => False) w wr)) (fun _ i _ => m + 1 - (intOf i).toNat)
        case atStart => exact ⟨0, Nat.zero_le _, rfl, Lib.hid (by have := HL.out; simpa using this), HB, HS, HI, HT⟩
        case round =>
          obtain ⟨j, hj, rfl, HL2, HB2, HS2, HI2, HT2⟩ := hrel
          clear HL HB HS HI HT hcell
          by_cases hjl : j < m + 1
          · have HRI := Lib.hid (own_reads HI2.out).2.1
            have hlen2 : (LL ++ List.map (fun d : Nat => l ++ [(d : Int)]) (List.range j)).length ≤ 5050 := by simp; omega
            have HN := Lib.hid (more_next l j)
            obtain ⟨MM, hMM⟩ : ∃ MM, MM = List.map (fun d : Nat => l ++ [(d : Int)]) (List.range j) := ⟨_, rfl⟩
            rw [← hMM] at HL2 hlen2 HN
            clear hMM
            go_wp2_with (first
              | (at_builtin; refine wpList_append_ints rfl (.tmp 26) (.tmp 27) 22 rfl wr.heap.size 3 i0 (.int .i64 0) 8 Try.underlying22 HInf.out.1 HInf.out.2.1 HInf.out.2.2.1 HInf.out.2.2.2 rfl _ 0 [] rfl (World.ownsRow_made wr #[] 0 (Nat.le_refl _) (Nat.zero_le _) rfl) .i64 bo d0 l (by rw [HLL.out]; rfl) HNil.out (HRI.out.turn ((Turn.refl (fun _ => False) wr).alloc _) (fun _ _ => id)) (by unfold maxLen; rw [HLL.out]; omega) (by rw [HLL.out]; omega) (by simp) ?_; intro v2 w2 H2 hgrow; rw [Nat.zero_add, List.nil_append] at H2; have T2 := Lib.hid (((Turn.refl (fun _ => False) wr).alloc _).grown hgrow (fun k hk => Or.inr (by cases hk; exact Nat.le_refl _))); have O2 := Lib.hid H2; clear H2 hgrow)
              | (at_builtin; refine wpList_append_one rfl (.tmp 28) (.tmp 30) rfl wr.heap.size v2 l m (j : Int) rfl O2.out HLL.out rfl (by omega) T2.out.size ?_; intro g5 c5 w5 hg5 H5 T5; have T25 := Lib.hid (T2.out.and T5.out (fun i hi h => absurd hi (by omega))); have L5 := Lib.hid (HL2.out.new T25.out); have O5 := Lib.hid (own_snoc (HLL.out) H5.out HT2.out.size); have hw5 := T25.out.size; have hwr := HT2.out.size)
              | (at_builtin; refine wpList_append_list rfl (.tmp 25) (.tmp 32) rfl w.heap.size u3 (.slice (some ⟨g5, 0, none⟩) (m + 1) c5) (LL ++ MM) (l ++ [(j : Int)]) rfl L5.out O5.out rfl (by omega) (by omega) ?_; intro v7 w7 L7 T7 B7))
            go_roundw
            case rel =>
              have hty : ∀ i, i < w5.heap.size → u3.ownBlock = some i → ∃ cur, w5.heap[i]? = some (.cells cur 22 (0, 0)) := fun i _ e => L5.out.type i e
              refine ⟨j + 1, by omega, by go_num, Lib.hid ?_, Lib.hid ?_, Lib.hid ?_, Lib.hid ?_, Lib.hid ?_⟩
              · rw [HN.out, ← List.append_assoc]; exact L7.out
              · intro e
                have hg := (HS2.out.lt g1 rfl).2
                rcases B7.out with h | h
                · rw [h] at e; exact HB2.out e
                · rw [h] at e; injection e with e; omega
              · exact (HS2.out.new T25.out).turn T7.out (fun k hk e => by
                  simp [Value.ownBlock] at hk
                  subst hk
                  exact HB2.out e) hty
              · exact own_keep (own_turn HI2.out T25.out (fun _ _ => id)) T7.out hty
              · exact (HT2.out.trans T25.out).and T7.out (fun i hi e => by
                  have := (HL2.out.lt i e).1
                  omega)
            case measure => simp [intOf]; omega
          · obtain rfl : j = m + 1 := by omega
            go_wp2_with fail
            go_roundw
            case rel => exact ⟨k + 1, by omega, by go_num, by rw [HF.out]; exact HL2, HB2, HS2, HT2⟩
            case measure => simp [intOf]; omega
      · obtain rfl : k = fact m := by omega
        have HZ : Hid (Lists wr w.heap.size u3 (allL (m + 1))) := Lib.hid (by have := HL.out; rwa [← HAL.out, List.take_length] at this)
        go_wp2
        go_ret
        exact ⟨_, rfl, HZ.out, HT.out⟩

end Go.Proofs.Ytlnjomjeafmobaa
