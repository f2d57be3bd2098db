/- The contract of the document's own Sort. -/
import Derived.Test.YtcnmkbmhkcgejaaSort
namespace Go.Proofs.Ytcnmkbmhkcgejaa
open Go.RowKit
set_option linter.unusedVariables false

theorem ints_drop {w : World} {g : Nat} {O : List Int} (h : Ints .i64 w (some ⟨g, 0, none⟩) O) (j : Nat) : Ints .i64 w (some ⟨g, j, none⟩) (O.drop j) := by
  intro i hi
  have hi' : j + i < O.length := by simp at hi; omega
  obtain ⟨a, e, hc⟩ := h (j + i) hi'
  cases e
  refine ⟨_, rfl, ?_⟩
  rw [Addr.add_lit] at hc ⊢
  rw [Nat.zero_add] at hc
  rw [hc]
  simp [List.getD]

/-- What stands at the loop's head: out is a row of the call's own. -/
def Outs (w wr : World) (g k c : Nat) (O : List Int) : Prop := wr.ownsRow w.heap.size 3 1 (.slice (some ⟨g, 0, none⟩) k c) k (O.map (Value.int .i64)) ∧ Turn (fun _ => False) w wr

theorem sort_end {w wr w5 w6 : World} {v6 : Value} {n j k : Nat} {O : List Int} {x : Int} (hn : n = k + 1) (hj : j = firstAbove x O) (ht : Turn (fun _ => False) w wr)
    (t2 : Turn (fun _ => False) wr w5) (h6 : w6.ownsRow wr.heap.size 3 1 v6 n ((O.take j ++ [x]).map (Value.int .i64) ++ (O.drop j).map (Value.int .i64))) (t6 : Turn (fun _ => False) wr w6) :
    ∃ g c, v6 = .slice (some ⟨g, 0, none⟩) (k + 1) c ∧ k + 1 ≤ c ∧ Outs w w6 g (k + 1) c (ins x O) := by
  subst hn
  subst hj
  have e : (O.take (firstAbove x O) ++ [x]).map (Value.int .i64) ++ (O.drop (firstAbove x O)).map (Value.int .i64) = (ins x O).map (Value.int .i64) := by
    rw [ins_at, ← List.map_append]; simp
  rw [e] at h6
  obtain ⟨g, c, rfl, _, hc, _⟩ := own_form h6 (by omega)
  exact ⟨g, c, rfl, hc, own_less h6 ht.size, ht.trans t6⟩

set_option maxHeartbeats 4000000 in
theorem rsort_any {ao : Option Addr} {cap : Nat} {L : List Int} (w : World) (hr : Ints .i64 w ao L) (hl : L.length ≤ 1000) :
    Calls Try.prog 9 #[.slice ao L.length cap] w fun e w' => ∃ v, e = .returned v ∧ Fresh .i64 3 w w' v (sortL L) := by
  have HR := Lib.hid hr
  clear hr
  obtain ⟨i0, hi0, hz0, hz1, hz2⟩ := info_parts info_int
  have HInf := Lib.hid (And.intro hi0 (And.intro hz0 (And.intro hz1 hz2)))
  clear hi0 hz0 hz1 hz2
  go_enter Try.func9, Try.ntmps9
  go_wp2_with fail
  go_loopw [3, 11] (fun o i wr => ∃ k g c : Nat, k ≤ L.length ∧ i = .int .i64 k ∧ o = .slice (some ⟨g, 0, none⟩) k c ∧ k ≤ c ∧ Hid (Outs w wr g k c (sortL (L.take k)))) (fun _ i _ => L.length - (intOf i).toNat)
  case atStart =>
    have := fresh_empty .i64 3 w
    exact ⟨0, w.heap.size, 0, Nat.zero_le _, rfl, rfl, Nat.le_refl _, Lib.hid ⟨this.1, this.2⟩⟩
  case round =>
    obtain ⟨k, g, c, hk, rfl, rfl, hkc, HO⟩ := hrel
    by_cases hlt : k < L.length
    · obtain ⟨ad, hao, hc⟩ := HR.out.turn HO.out.2 (fun _ _ => id) k hlt
      subst hao
      have HN := Lib.hid (sortL_next L k hlt)
      have hol : (sortL (L.take k)).length = k := by rw [sortL_length]; simp; omega
      obtain ⟨O, hO⟩ : ∃ O, O = sortL (L.take k) := ⟨_, rfl⟩
      rw [← hO] at HO HN hol
      have HOL := Lib.hid hol
      obtain ⟨x, hx⟩ : ∃ x, x = L.getD k 0 := ⟨_, rfl⟩
      rw [show gt L k = L.getD k 0 from rfl, ← hx] at HN
      rw [← hx] at hc
      clear hx hO hol
      go_wp2_with fail
      go_loop [6] (fun i => ∃ j : Nat, i = .int .i64 j ∧ j ≤ k ∧ Hid (j ≤ firstAbove x O)) (fun i => k - (intOf i).toNat)
      case atStart => exact ⟨0, rfl, Nat.zero_le _, Lib.hid (Nat.zero_le _)⟩
      case round =>
        obtain ⟨j, rfl, hj, HJ⟩ := hrel
        have HI : Hid (Ints .i64 wr (some ⟨g, 0, none⟩) O) := Lib.hid (own_reads HO.out.1).2.1
        have hstep : (j < k ∧ ∃ y, wr.cell? ⟨g, j, none⟩ = some (.int .i64 y) ∧ y ≤ x ∧ Hid (j + 1 ≤ firstAbove x O)) ∨ (j < k ∧ j < c ∧ ∃ y, wr.cell? ⟨g, j, none⟩ = some (.int .i64 y) ∧ x < y ∧ Hid (j = firstAbove x O)) ∨ (¬ j < k ∧ j < c ∧ Hid (j = firstAbove x O)) ∨ (¬ j < k ∧ j = c ∧ Hid (j = firstAbove x O)) := by
          have hfl := firstAbove_le x O
          rw [HOL.out] at hfl
          by_cases h1 : j < k
          · obtain ⟨h2, h3⟩ := firstAbove_go x O j (by rw [HOL.out]; exact h1) HJ.out
            have hcell := (own_cells HO.out.1 h1).1
            by_cases h4 : gt O j ≤ x
            · exact Or.inl ⟨h1, _, hcell, h4, Lib.hid (h2 h4)⟩
            · exact Or.inr (Or.inl ⟨h1, by omega, _, hcell, Int.not_le.1 h4, Lib.hid (h3 h4)⟩)
          · have := HJ.out
            by_cases h5 : j < c
            · exact Or.inr (Or.inr (Or.inl ⟨h1, h5, Lib.hid (by omega)⟩))
            · exact Or.inr (Or.inr (Or.inr ⟨h1, by omega, Lib.hid (by omega)⟩))
        rcases hstep with ⟨h1, y, hcell, hy, HJ2⟩ | ⟨h1, h2, y, hcell, hy, HF⟩ | ⟨h1, h2, HF⟩ | ⟨h1, h2, HF⟩
        · go_wp2
          go_round
          case rel => exact ⟨j + 1, by go_num, by omega, HJ2⟩
          case measure => simp [intOf]; omega
        · skip
          have HTL : Hid ((O.take j).length = j) := Lib.hid (by simp; rw [HOL.out]; omega)
          have HDL : Hid ((O.drop j).length = k - j) := Lib.hid (by simp [HOL.out])
          have HI1 := Lib.hid (HI.out.take j)
          have HI2 : Hid (Ints .i64 wr (some ⟨g, j, none⟩) (O.drop j)) := Lib.hid (ints_drop HI.out j)
          go_wp2_with (first
            | (at_builtin; refine wpList_append_ints rfl (.tmp 29) (.tmp 32) 22 rfl wr.heap.size 3 i0 (.int .i64 0) 8 Try.underlying22 HInf.out.1 HInf.out.2.1 HInf.out.2.2.1 HInf.out.2.2.2 rfl _ 0 [] rfl (World.ownsRow_made wr #[] 0 (Nat.le_refl _) (Nat.zero_le _) rfl) .i64 (some ⟨g, 0, none⟩) c (O.take j) (by rw [HTL.out]; rfl) (by simp) (HI1.out.turn ((Turn.refl (fun _ => False) wr).alloc _) (fun _ _ => id)) (by unfold maxLen; rw [HTL.out]; omega) (by rw [HTL.out]; omega) (by simp) ?_; intro v2 w2 H2 hgrow; rw [Nat.zero_add, List.nil_append] at H2; have T2 := Lib.hid (((Turn.refl (fun _ => False) wr).alloc _).grown hgrow (fun k hk => Or.inr (by cases hk; exact Nat.le_refl _))); have O2 := Lib.hid H2; clear H2 hgrow)
            | (at_builtin; refine wpList_append_one Try.underlying22 info_int (by decide) rfl (.tmp 33) (.tmp 35) rfl wr.heap.size v2 (O.take j) j x rfl O2.out HTL.out rfl (by omega) T2.out.size ?_; intro g5 c5 w5 hg5 H5 T5 B5; have T25 := Lib.hid (T2.out.and T5.out (fun i hi h => absurd (O2.out.lt i h).1 (by omega))))
            | (at_builtin; refine wpList_append_ints rfl (.tmp 37) (.tmp 40) 22 rfl wr.heap.size 3 i0 (.int .i64 0) 8 Try.underlying22 HInf.out.1 HInf.out.2.1 HInf.out.2.2.1 HInf.out.2.2.2 rfl _ (j + 1) _ rfl H5.out .i64 (some ⟨g, j, none⟩) (c - j) (O.drop j) (by rw [HDL.out]; rfl) (by simp) (HI2.out.turn T25.out (fun _ _ => id)) (by unfold maxLen; rw [HDL.out]; omega) (by rw [HDL.out]; omega) T25.out.size ?_; intro v6 w6 H6 hgrow; have T6 := Lib.hid (T25.out.grown hgrow (fun k hk => Or.inr (by cases hk; exact hg5))); have O6 := Lib.hid H6; clear H6 hgrow))
          have HE := Lib.hid (sort_end (k := k) (n := j + 1 + (O.drop j).length) (by have := HDL.out; omega) HF.out HO.out.2 T25.out O6.out T6.out)
          obtain ⟨g7, c7, rfl, hkc7, h7⟩ := HE.out
          rw [← HN.out] at h7
          have HO7 := Lib.hid h7
          clear h7 HE
          go_roundw
          case rel => exact ⟨k + 1, g7, c7, by omega, by go_num, rfl, hkc7, HO7⟩
          case measure => simp [intOf]; omega
        · skip
          have HTL : Hid ((O.take j).length = j) := Lib.hid (by simp; rw [HOL.out]; omega)
          have HDL : Hid ((O.drop j).length = k - j) := Lib.hid (by simp [HOL.out])
          have HI1 := Lib.hid (HI.out.take j)
          have HI2 : Hid (Ints .i64 wr (some ⟨g, j, none⟩) (O.drop j)) := Lib.hid (ints_drop HI.out j)
          go_wp2_with (first
            | (at_builtin; refine wpList_append_ints rfl (.tmp 29) (.tmp 32) 22 rfl wr.heap.size 3 i0 (.int .i64 0) 8 Try.underlying22 HInf.out.1 HInf.out.2.1 HInf.out.2.2.1 HInf.out.2.2.2 rfl _ 0 [] rfl (World.ownsRow_made wr #[] 0 (Nat.le_refl _) (Nat.zero_le _) rfl) .i64 (some ⟨g, 0, none⟩) c (O.take j) (by rw [HTL.out]; rfl) (by simp) (HI1.out.turn ((Turn.refl (fun _ => False) wr).alloc _) (fun _ _ => id)) (by unfold maxLen; rw [HTL.out]; omega) (by rw [HTL.out]; omega) (by simp) ?_; intro v2 w2 H2 hgrow; rw [Nat.zero_add, List.nil_append] at H2; have T2 := Lib.hid (((Turn.refl (fun _ => False) wr).alloc _).grown hgrow (fun k hk => Or.inr (by cases hk; exact Nat.le_refl _))); have O2 := Lib.hid H2; clear H2 hgrow)
            | (at_builtin; refine wpList_append_one Try.underlying22 info_int (by decide) rfl (.tmp 33) (.tmp 35) rfl wr.heap.size v2 (O.take j) j x rfl O2.out HTL.out rfl (by omega) T2.out.size ?_; intro g5 c5 w5 hg5 H5 T5 B5; have T25 := Lib.hid (T2.out.and T5.out (fun i hi h => absurd (O2.out.lt i h).1 (by omega))))
            | (at_builtin; refine wpList_append_ints rfl (.tmp 37) (.tmp 40) 22 rfl wr.heap.size 3 i0 (.int .i64 0) 8 Try.underlying22 HInf.out.1 HInf.out.2.1 HInf.out.2.2.1 HInf.out.2.2.2 rfl _ (j + 1) _ rfl H5.out .i64 (some ⟨g, j, none⟩) (c - j) (O.drop j) (by rw [HDL.out]; rfl) (by simp) (HI2.out.turn T25.out (fun _ _ => id)) (by unfold maxLen; rw [HDL.out]; omega) (by rw [HDL.out]; omega) T25.out.size ?_; intro v6 w6 H6 hgrow; have T6 := Lib.hid (T25.out.grown hgrow (fun k hk => Or.inr (by cases hk; exact hg5))); have O6 := Lib.hid H6; clear H6 hgrow))
          have HE := Lib.hid (sort_end (k := k) (n := j + 1 + (O.drop j).length) (by have := HDL.out; omega) HF.out HO.out.2 T25.out O6.out T6.out)
          obtain ⟨g7, c7, rfl, hkc7, h7⟩ := HE.out
          rw [← HN.out] at h7
          have HO7 := Lib.hid h7
          clear h7 HE
          go_roundw
          case rel => exact ⟨k + 1, g7, c7, by omega, by go_num, rfl, hkc7, HO7⟩
          case measure => simp [intOf]; omega
        · obtain rfl : j = k := by omega
          obtain rfl : c = j := by omega
          have HTL : Hid ((O.take c).length = c) := Lib.hid (by simp; rw [HOL.out]; omega)
          have HDL : Hid ((O.drop c).length = 0) := Lib.hid (by simp [HOL.out])
          have HI1 := Lib.hid (HI.out.take c)
          have HI2 : Hid (Ints .i64 wr (some ⟨g, 0, none⟩) (O.drop c)) := Lib.hid (by intro i hi; simp at hi; rw [HOL.out] at hi; omega)
          go_wp2_with (first
            | (at_builtin; refine wpList_append_ints rfl (.tmp 29) (.tmp 32) 22 rfl wr.heap.size 3 i0 (.int .i64 0) 8 Try.underlying22 HInf.out.1 HInf.out.2.1 HInf.out.2.2.1 HInf.out.2.2.2 rfl _ 0 [] rfl (World.ownsRow_made wr #[] 0 (Nat.le_refl _) (Nat.zero_le _) rfl) .i64 (some ⟨g, 0, none⟩) c (O.take c) (by rw [HTL.out]; rfl) (by simp) (HI1.out.turn ((Turn.refl (fun _ => False) wr).alloc _) (fun _ _ => id)) (by unfold maxLen; rw [HTL.out]; omega) (by rw [HTL.out]; omega) (by simp) ?_; intro v2 w2 H2 hgrow; rw [Nat.zero_add, List.nil_append] at H2; have T2 := Lib.hid (((Turn.refl (fun _ => False) wr).alloc _).grown hgrow (fun k hk => Or.inr (by cases hk; exact Nat.le_refl _))); have O2 := Lib.hid H2; clear H2 hgrow)
            | (at_builtin; refine wpList_append_one Try.underlying22 info_int (by decide) rfl (.tmp 33) (.tmp 35) rfl wr.heap.size v2 (O.take c) c x rfl O2.out HTL.out rfl (by omega) T2.out.size ?_; intro g5 c5 w5 hg5 H5 T5 B5; have T25 := Lib.hid (T2.out.and T5.out (fun i hi h => absurd (O2.out.lt i h).1 (by omega))))
            | (at_builtin; refine wpList_append_ints rfl (.tmp 37) (.tmp 40) 22 rfl wr.heap.size 3 i0 (.int .i64 0) 8 Try.underlying22 HInf.out.1 HInf.out.2.1 HInf.out.2.2.1 HInf.out.2.2.2 rfl _ (c + 1) _ rfl H5.out .i64 (some ⟨g, 0, none⟩) (0) (O.drop c) (by rw [HDL.out]; rfl) (by simp) (HI2.out.turn T25.out (fun _ _ => id)) (by unfold maxLen; rw [HDL.out]; omega) (by rw [HDL.out]; omega) T25.out.size ?_; intro v6 w6 H6 hgrow; have T6 := Lib.hid (T25.out.grown hgrow (fun k hk => Or.inr (by cases hk; exact hg5))); have O6 := Lib.hid H6; clear H6 hgrow))
          have HE := Lib.hid (sort_end (k := c) (n := c + 1 + (O.drop c).length) (by have := HDL.out; omega) HF.out HO.out.2 T25.out O6.out T6.out)
          obtain ⟨g7, c7, rfl, hkc7, h7⟩ := HE.out
          rw [← HN.out] at h7
          have HO7 := Lib.hid h7
          clear h7 HE
          go_roundw
          case rel => exact ⟨c + 1, g7, c7, by omega, by go_num, rfl, hkc7, HO7⟩
          case measure => simp [intOf]; omega
    · obtain rfl : k = L.length := by omega
      have HS : Hid (Outs w wr g L.length c (sortL L)) := by have := HO.out; rw [List.take_length] at this; exact Lib.hid this
      go_wp2
      go_ret
      refine ⟨_, rfl, ?_, HS.out.2⟩
      rw [sortL_length]
      exact HS.out.1

end Go.Proofs.Ytcnmkbmhkcgejaa
