/- shuffleAlive, and the walk of ShuffleOrders. -/
import Derived.Test.YtlnjomjeafmobaaRDrw
namespace Go.Proofs.Ytlnjomjeafmobaa
open Go.RowKit
set_option linter.unusedVariables false

theorem same_eq {ao bo : Option Addr} {ca cb n : Nat} {L : List Int} (w : World) (hr : Ints .i64 w ao L) (hq : Ints .i64 w bo L) (hn : L.length = n) (hl : n ≤ 1000) :
    Calls Try.prog 11 #[.slice ao n ca, .slice bo n cb] w fun e w' => e = .returned (.bool true) ∧ ∃ k, w' = w.drewN k := by
  subst hn
  refine (same_any w hr hq hl hl).mono ?_
  rintro e w' ⟨rfl, k, rfl⟩
  exact ⟨ret_bool (by simp), k, rfl⟩

theorem ints_of3 (w : World) (a b c : Int) : Ints .i64 (w.alloc (.cells #[.int .i64 a, .int .i64 b, .int .i64 c] 3)) (some ⟨w.heap.size, 0, none⟩) [a, b, c] := by
  intro j hj
  refine ⟨_, rfl, ?_⟩
  match j, hj with
  | 0, _ => simp [go_sem]
  | 1, _ => simp [go_sem]
  | 2, _ => simp [go_sem]

theorem count4 (w : World) : Calls Try.prog 16 #[.int .i64 4] w fun e w' => e = .returned (.int .i64 24) ∧ w = w' := by
  have := count_any 4 (by decide) (by decide) w
  rwa [show howMany 4 = 24 by decide] at this

theorem order001 (w : World) : Calls Try.prog 12 #[.slice (some ⟨w.heap.size, 0, none⟩) 3 3] (w.alloc (.cells #[.int .i64 0, .int .i64 0, .int .i64 1] 3)) fun e w' => ∃ v, e = .returned v ∧ Fresh (w.alloc (.cells #[.int .i64 0, .int .i64 0, .int .i64 1] 3)) w' v [1, 2, 0] := by
  have := order_any (D := [0, 0, 1]) (cap := 3) _ (ints_of3 w 0 0 1) (by decide) (by intro x hx; simp at hx; omega)
  rwa [show ordL [0, 0, 1] = [1, 2, 0] by decide] at this

theorem alive_any (w : World) : Calls Try.prog 8 #[] w fun e w' => e = .returned (.bool true) ∧ Turn (fun _ => False) w w' := by
  go_enter Try.func8, Try.ntmps8
  go_wp2_with fail
  refine (order001 w).mono ?_
  rintro e w1 ⟨v, rfl, f⟩
  obtain ⟨ao, c, rfl, hi, hb, _⟩ := f.ints
  have hn : ([1, 2, 0] : List Int).length = 3 := rfl
  rw [hn]
  have T1 := Lib.hid (((Turn.refl (fun _ => False) w).alloc _).trans f.2)
  have HI := Lib.hid hi
  clear f hi hb hn
  go_wp2_with fail
  refine (same_eq (L := [1, 2, 0]) _ (HI.out.turn ((Turn.refl (fun _ => False) w1).alloc _) (fun _ _ => id)) (ints_of3 w1 1 2 0) rfl (by decide)).mono ?_
  rintro e w2 ⟨rfl, k, rfl⟩
  go_wp2_with fail
  refine (count4 _).mono ?_
  rintro e w3 ⟨rfl, rfl⟩
  go_wp2
  go_ret
  exact ⟨rfl, (T1.out.alloc _).drewN _⟩

theorem orders_long {ao bo : Option Addr} {lL lA cap capb : Nat} (n : Int) (w : World) (h : 60 < lL ∨ lL ≤ 60 ∧ 60 < lA) (hL : lL ≤ maxLen) (hA : lA ≤ maxLen) :
    Calls Try.prog 3 #[.slice ao lL cap, .slice bo lA capb, .int .i64 n] w fun e w' => e = .returned (.bool true) ∧ Turn (fun _ => False) w w' := by
  unfold maxLen at hA hL
  rcases h with h | ⟨h, h'⟩
  all_goals
    go_enter Try.func3, Try.ntmps3
    go_wp2_with fail
    refine (alive_any _).mono ?_
    rintro e w1 ⟨rfl, t1⟩
    go_wp2_with fail
    go_ret
    exact ⟨rfl, t1⟩

set_option maxHeartbeats 2000000 in
theorem orders_any {ao bo : Option Addr} {cap capb : Nat} {D L : List Int} (n : Int) (hn1 : -9223372036854775808 ≤ n) (hn2 : n ≤ 9223372036854775807) (w : World) (hr : Ints .i64 w ao D) (hq : Ints .i64 w bo L) (hl : D.length ≤ 60) (hm : L.length ≤ 60) (hc : D.length ≤ cap) (hcb : L.length ≤ capb) (hw : Wf D) :
    Calls Try.prog 3 #[.slice ao D.length cap, .slice bo L.length capb, .int .i64 n] w fun e w' => e = .returned (.bool true) ∧ Turn (fun _ => False) w w' := by
  have HR := Lib.hid hr
  have HQ := Lib.hid hq
  have HW := Lib.hid hw
  clear hr hq hw
  go_enter Try.func3, Try.ntmps3
  go_wp2_with fail
  refine (alive_any _).mono ?_
  rintro e w1 ⟨rfl, t1⟩
  have T1 := Lib.hid t1
  clear t1
  go_wp2_with fail
  refine (draws_any w1 (HQ.out.turn T1.out (fun _ _ => id)) (by omega)).mono ?_
  rintro e w2 (⟨ho, v2, rfl, f2⟩ | ⟨ho, rfl, t2⟩)
  · obtain ⟨a2, c2, rfl, i2, _⟩ := f2.ints
    have T2 := Lib.hid (T1.out.trans f2.2)
    have I2 := Lib.hid i2
    have HO := Lib.hid ho
    clear ho f2 i2
    go_wp2_with fail
    refine (rdraws_any L.length bo capb L w2 rfl (HQ.out.turn T2.out (fun _ _ => id)) hcb (by omega)).mono ?_
    intro e w3 h3
    obtain ⟨v3, rfl, f3⟩ := h3.yes HO.out
    clear h3
    obtain ⟨a3, c3, rfl, i3, _⟩ := f3.ints
    have T3 := Lib.hid (T2.out.trans f3.2)
    have I23 := Lib.hid (I2.out.turn f3.2 (fun _ _ => id))
    have I3 := Lib.hid i3
    clear f3 i3 I2
    go_wp2_with fail
    refine (order_any w3 (HR.out.turn T3.out (fun _ _ => id)) (by omega) HW.out).mono ?_
    rintro e w4 ⟨v4, rfl, f4⟩
    obtain ⟨a4, c4, rfl, i4, _⟩ := f4.ints
    have T4 := Lib.hid (T3.out.trans f4.2)
    have I24 := Lib.hid (I23.out.turn f4.2 (fun _ _ => id))
    have I34 := Lib.hid (I3.out.turn f4.2 (fun _ _ => id))
    have I4 := Lib.hid i4
    clear f4 i4 I3 I23
    go_wp2_with fail
    refine (rorder_any D.length w4 rfl (HR.out.turn T4.out (fun _ _ => id)) hc (by omega) HW.out).mono ?_
    rintro e w5 ⟨v5, rfl, f5⟩
    obtain ⟨a5, c5, rfl, i5, _⟩ := f5.ints
    have T5 := Lib.hid (T4.out.trans f5.2)
    have I25 := Lib.hid (I24.out.turn f5.2 (fun _ _ => id))
    have I35 := Lib.hid (I34.out.turn f5.2 (fun _ _ => id))
    have I45 := Lib.hid (I4.out.turn f5.2 (fun _ _ => id))
    have I5 := Lib.hid i5
    clear f5 i5 I24 I34 I4
    go_wp2_with fail
    refine (same_eq w5 I45.out I5.out rfl (by rw [ordL_length]; omega)).mono ?_
    rintro e w6 ⟨rfl, k6, rfl⟩
    go_wp2_with fail
    refine (is_any (L := L) _ (HQ.out.turn (T5.out.drewN k6) (fun _ _ => id)) (by omega)).mono ?_
    rintro e w7 ⟨rfl, t7⟩
    have T7 := Lib.hid ((T5.out.drewN k6).trans t7)
    have I27 := Lib.hid ((I25.out.turn ((Turn.refl (fun _ => False) w5).drewN k6) (fun _ _ => id)).turn t7 (fun _ _ => id))
    have I37 := Lib.hid ((I35.out.turn ((Turn.refl (fun _ => False) w5).drewN k6) (fun _ _ => id)).turn t7 (fun _ _ => id))
    clear t7 I25 I35
    go_wp2_with fail
    refine (ris_any (L := L) _ (HQ.out.turn T7.out (fun _ _ => id)) (by omega)).mono ?_
    rintro e w8 ⟨rfl, rfl⟩
    rw [(ordB_iff L).2 HO.out]
    go_wp2_with fail
    refine (same_eq _ I27.out I37.out rfl (by rw [drs_length]; omega)).mono ?_
    rintro e w9 ⟨rfl, k9, rfl⟩
    go_wp2_with fail
    refine (count_any n hn1 hn2 _).mono ?_
    rintro e w10 ⟨rfl, rfl⟩
    go_wp2_with fail
    refine (rcount_any n _).mono ?_
    rintro e w11 ⟨rfl, rfl⟩
    go_wp2
    go_ret
    exact ⟨rfl, T7.out.drewN _⟩
  · have T2 := Lib.hid (T1.out.trans t2)
    have HO := Lib.hid ho
    clear ho t2
    go_wp2_with fail
    refine (rdraws_any L.length bo capb L w2 rfl (HQ.out.turn T2.out (fun _ _ => id)) hcb (by omega)).mono ?_
    rintro e w3 (⟨ho, _⟩ | ⟨_, rfl, t3⟩)
    · exact absurd ho HO.out
    have T3 := Lib.hid (T2.out.trans t3)
    clear t3
    go_wp2_with fail
    refine (order_any w3 (HR.out.turn T3.out (fun _ _ => id)) (by omega) HW.out).mono ?_
    rintro e w4 ⟨v4, rfl, f4⟩
    obtain ⟨a4, c4, rfl, i4, _⟩ := f4.ints
    have T4 := Lib.hid (T3.out.trans f4.2)
    have I4 := Lib.hid i4
    clear f4 i4
    go_wp2_with fail
    refine (rorder_any D.length w4 rfl (HR.out.turn T4.out (fun _ _ => id)) hc (by omega) HW.out).mono ?_
    rintro e w5 ⟨v5, rfl, f5⟩
    obtain ⟨a5, c5, rfl, i5, _⟩ := f5.ints
    have T5 := Lib.hid (T4.out.trans f5.2)
    have I45 := Lib.hid (I4.out.turn f5.2 (fun _ _ => id))
    have I5 := Lib.hid i5
    clear f5 i5 I4
    go_wp2_with fail
    refine (same_eq w5 I45.out I5.out rfl (by rw [ordL_length]; omega)).mono ?_
    rintro e w6 ⟨rfl, k6, rfl⟩
    go_wp2_with fail
    refine (is_any (L := L) _ (HQ.out.turn (T5.out.drewN k6) (fun _ _ => id)) (by omega)).mono ?_
    rintro e w7 ⟨rfl, t7⟩
    have T7 := Lib.hid ((T5.out.drewN k6).trans t7)
    clear t7
    go_wp2_with fail
    refine (ris_any (L := L) _ (HQ.out.turn T7.out (fun _ _ => id)) (by omega)).mono ?_
    rintro e w8 ⟨rfl, rfl⟩
    rw [ordB_no HO.out]
    go_wp2_with fail
    refine (same_eq (L := []) (n := 0) _ (fun j hj => absurd hj (by simp)) (fun j hj => absurd hj (by simp)) rfl (by omega)).mono ?_
    rintro e w9 ⟨rfl, k9, rfl⟩
    go_wp2_with fail
    refine (count_any n hn1 hn2 _).mono ?_
    rintro e w10 ⟨rfl, rfl⟩
    go_wp2_with fail
    refine (rcount_any n _).mono ?_
    rintro e w11 ⟨rfl, rfl⟩
    go_wp2
    go_ret
    exact ⟨rfl, T7.out.drewN _⟩

theorem row_cap {k : IntKind} {w : World} {a : Option Addr} {len cap : Nat} {zs : List Int}
    (h : (a = none ∧ len = 0 ∧ cap = 0 ∧ zs = []) ∨ ∃ x, a = some x ∧ len ≤ cap ∧ cap ≤ maxLen ∧ zs.length = cap ∧ (∀ i, i < zs.length → w.cell? (x.add i) = some (.int k (zs.getD i 0))) ∧ ∀ n ∈ zs, (Lit.int k n).wf = true) : len ≤ cap := by
  rcases h with ⟨_, rfl, rfl, _⟩ | ⟨_, _, h, _⟩
  · exact Nat.le_refl _
  · exact h

set_option maxHeartbeats 1000000 in
theorem firsts_long {ao bo : Option Addr} {lL lA cap capb : Nat} (w : World) (h : 100 < lL ∨ lL ≤ 100 ∧ 100 < lA) (hL : lL ≤ maxLen) (hA : lA ≤ maxLen) :
    Calls Try.prog 4 #[.slice ao lL cap, .slice bo lA capb] w fun e w' => e = .returned (.bool true) ∧ Turn (fun _ => False) w w' := by
  unfold maxLen at hA hL
  rcases h with h | ⟨h, h'⟩
  all_goals
    go_enter Try.func4, Try.ntmps4
    go_wp2_with fail
    refine (alive_any _).mono ?_
    rintro e w1 ⟨rfl, t1⟩
    go_wp2_with fail
    go_ret
    exact ⟨rfl, t1⟩

set_option maxHeartbeats 1000000 in
theorem firsts_any {ao bo : Option Addr} {cap capb : Nat} {L : List Int} {M : List Bool} (w : World) (hr : Ints .i64 w ao L) (hq : Bools w bo M) (hl : L.length ≤ 100) (hm : M.length ≤ 100) :
    Calls Try.prog 4 #[.slice ao L.length cap, .slice bo M.length capb] w fun e w' => e = .returned (.bool true) ∧ Turn (fun _ => False) w w' := by
  have HR := Lib.hid hr
  have HQ := Lib.hid hq
  clear hr hq
  go_enter Try.func4, Try.ntmps4
  go_wp2_with fail
  refine (alive_any _).mono ?_
  rintro e w1 ⟨rfl, t1⟩
  have T1 := Lib.hid t1
  clear t1
  go_wp2_with fail
  refine (first_any w1 (HR.out.turn T1.out (fun _ _ => id)) (HQ.out.turn T1.out (fun _ _ => id)) (by omega) (by omega)).mono ?_
  rintro e w2 ⟨rfl, rfl⟩
  go_wp2_with fail
  refine (rfirst_any w1 (HR.out.turn T1.out (fun _ _ => id)) (HQ.out.turn T1.out (fun _ _ => id)) (by omega) (by omega)).mono ?_
  rintro e w3 ⟨rfl, rfl⟩
  go_wp2
  go_ret
  exact ⟨ret_bool (by simp), T1.out⟩

set_option maxHeartbeats 1000000 in
theorem back_long {ao : Option Addr} {lL cap : Nat} (w : World) (h : 60 < lL) (hL : lL ≤ maxLen) :
    Calls Try.prog 5 #[.slice ao lL cap] w fun e w' => e = .returned (.bool true) ∧ Turn (fun _ => False) w w' := by
  unfold maxLen at hL
  go_enter Try.func5, Try.ntmps5
  go_wp2_with fail
  refine (alive_any _).mono ?_
  rintro e w1 ⟨rfl, t1⟩
  go_wp2_with fail
  go_ret
  exact ⟨rfl, t1⟩

/-- A slice of bools that came in: its elements. -/
theorem row_bools {w : World} {a : Option Addr} {len cap : Nat} {B : Nat → Bool}
    (h : (a = none ∧ len = 0 ∧ cap = 0) ∨ ∃ x, a = some x ∧ len ≤ cap ∧ cap ≤ maxLen ∧ ∀ i, i < cap → w.cell? (x.add i) = some (.bool (B i))) :
    ∃ L : List Bool, L.length = len ∧ Bools w a L ∧ L.length ≤ maxLen := by
  rcases h with ⟨rfl, rfl, rfl⟩ | ⟨x, rfl, hl, hm, hc⟩
  · exact ⟨[], rfl, fun j hj => by simp at hj, by simp⟩
  · refine ⟨(List.range len).map B, by simp, fun j hj => ⟨x, rfl, ?_⟩, by simp; omega⟩
    have hj' : j < len := by simpa using hj
    rw [hc j (by omega)]
    simp [List.getD, hj']

end Go.Proofs.Ytlnjomjeafmobaa
