/- orderAlive, and the walks of the laws. -/
import Derived.Test.YtcnmkbmhkcgejaaLocks
namespace Go.Proofs.Ytcnmkbmhkcgejaa
open Go.RowKit
set_option linter.unusedVariables false

theorem ints_of4 (w : World) (a b c d : Int) : Ints .i64 (w.alloc (.cells #[.int .i64 a, .int .i64 b, .int .i64 c, .int .i64 d] 3)) (some ⟨w.heap.size, 0, none⟩) [a, b, c, d] := by
  intro j hj
  refine ⟨_, rfl, ?_⟩
  match j, hj with
  | 0, _ => simp [go_sem]
  | 1, _ => simp [go_sem]
  | 2, _ => simp [go_sem]
  | 3, _ => simp [go_sem]
theorem ints_of2 (w : World) (a b : Int) : Ints .i64 (w.alloc (.cells #[.int .i64 a, .int .i64 b] 3)) (some ⟨w.heap.size, 0, none⟩) [a, b] := by
  intro j hj
  refine ⟨_, rfl, ?_⟩
  match j, hj with
  | 0, _ => simp [go_sem]
  | 1, _ => simp [go_sem]

theorem locks3013 (w : World) : Calls Try.prog 14 #[.slice (some ⟨w.heap.size, 0, none⟩) 4 4] (w.alloc (.cells #[.int .i64 3, .int .i64 0, .int .i64 1, .int .i64 3] 3)) (Reads 2 [1, 3] (w.alloc (.cells #[.int .i64 3, .int .i64 0, .int .i64 1, .int .i64 3] 3))) := by
  refine (locks_any (L := [3, 0, 1, 3]) (cap := 4) _ (ints_of4 w 3 0 1 3) (by decide)).mono fun _ _ h => ?_
  rw [show locksL [3, 0, 1, 3] = [1, 3] by decide] at h
  exact reads_of rfl h

theorem alive_any (w : World) : Calls Try.prog 6 #[] w fun e w' => e = .returned (.bool true) ∧ Turn (fun _ => False) w w' := by
  go_enter Try.func6, Try.ntmps6
  go_wp2_with fail
  refine (locks3013 w).mono ?_
  rintro e w1 ⟨bo, bc, rfl, h1, h2, h3, h4, h5⟩
  have T1 := Lib.hid (((Turn.refl (fun _ => False) w).alloc _).trans h5)
  have HI := Lib.hid h2
  clear h1 h2 h3 h4 h5
  go_wp2_with fail
  refine (same_eq (L := [1, 3]) _ (HI.out.turn ((Turn.refl (fun _ => False) w1).alloc _) (fun _ _ => id)) (ints_of2 w1 1 3) rfl (by decide)).mono ?_
  rintro e w2 ⟨rfl, k, rfl⟩
  go_wp2
  go_ret
  exact ⟨rfl, (T1.out.alloc _).drewN _⟩

theorem sorts_long {ao : Option Addr} {n cap : Nat} (w : World) (h : 200 < n) (hL : n ≤ maxLen) :
    Calls Try.prog 3 #[.slice ao n cap] w fun e w' => e = .returned (.bool true) ∧ Turn (fun _ => False) w w' := by
  unfold maxLen at hL
  go_enter Try.func3, Try.ntmps3
  go_wp2_with fail
  refine (alive_any _).mono ?_
  rintro e w1 ⟨rfl, t1⟩
  go_wp2_with fail
  go_ret
  exact ⟨rfl, t1⟩
theorem locks_long {ao : Option Addr} {n cap : Nat} (w : World) (h : 200 < n) (hL : n ≤ maxLen) :
    Calls Try.prog 4 #[.slice ao n cap] w fun e w' => e = .returned (.bool true) ∧ Turn (fun _ => False) w w' := by
  unfold maxLen at hL
  go_enter Try.func4, Try.ntmps4
  go_wp2_with fail
  refine (alive_any _).mono ?_
  rintro e w1 ⟨rfl, t1⟩
  go_wp2_with fail
  go_ret
  exact ⟨rfl, t1⟩
theorem keeps_long {ao : Option Addr} {n cap : Nat} (x : Int) (w : World) (h : 200 < n) (hL : n ≤ maxLen) :
    Calls Try.prog 5 #[.slice ao n cap, .int .i64 x] w fun e w' => e = .returned (.bool true) ∧ Turn (fun _ => False) w w' := by
  unfold maxLen at hL
  go_enter Try.func5, Try.ntmps5
  go_wp2_with fail
  refine (alive_any _).mono ?_
  rintro e w1 ⟨rfl, t1⟩
  go_wp2_with fail
  go_ret
  exact ⟨rfl, t1⟩

set_option maxHeartbeats 2000000 in
theorem sorts_any {ao : Option Addr} {cap : Nat} {L : List Int} (w : World) (hr : Ints .i64 w ao L) (hl : L.length ≤ 200) :
    Calls Try.prog 3 #[.slice ao L.length cap] w fun e w' => e = .returned (.bool true) ∧ Turn (fun _ => False) w w' := by
  have HR := Lib.hid hr
  clear hr
  go_enter Try.func3, Try.ntmps3
  go_wp2_with fail
  refine (alive_any _).mono ?_
  rintro e w1 ⟨rfl, t1⟩
  have T1 := Lib.hid t1
  clear t1
  go_wp2_with fail
  refine (sort_reads _ (HR.out.turn T1.out (fun _ _ => id)) rfl (by omega)).mono ?_
  rintro e w2 ⟨b2, c2, rfl, l2, i2, _, _, t2⟩
  have L2 := Lib.hid l2
  have I2 := Lib.hid i2
  have T2 := Lib.hid (T1.out.trans t2)
  clear t2 i2 l2 T1
  go_wp2_with fail
  refine (rsort_reads _ (HR.out.turn T2.out (fun _ _ => id)) rfl (by omega)).mono ?_
  rintro e w3 ⟨b3, c3, rfl, _, i3, _, _, t3⟩
  have J3 := Lib.hid (I2.out.turn t3 (fun _ _ => id))
  have I3 := Lib.hid i3
  have T3 := Lib.hid (T2.out.trans t3)
  clear t3 i3 T2 I2
  go_wp2_with fail
  refine (same_eq _ J3.out I3.out L2.out (by omega)).mono ?_
  rintro e w4 ⟨rfl, n4, rfl⟩
  go_wp2_with fail
  refine (heap_any _ (HR.out.turn (T3.out.drewN n4) (fun _ _ => id)) (by omega)).mono ?_
  rintro e w5 ⟨rfl, n5, rfl⟩
  go_wp2_with fail
  refine (rheap_any _ (HR.out.turn (T3.out.drewN (n4 + n5)) (fun _ _ => id)) (by omega)).mono ?_
  rintro e w6 ⟨rfl, rfl⟩
  obtain ⟨hb, hhb⟩ : ∃ hb, hb = heapB L := ⟨_, rfl⟩
  rw [← hhb]
  clear hhb
  go_wp2_with fail
  refine (turned_reads _ (HR.out.turn (T3.out.drewN (n4 + n5)) (fun _ _ => id)) rfl (by omega)).mono ?_
  rintro e w7 ⟨b7, c7, rfl, l7, i7, _, _, t7⟩
  have L7 := Lib.hid l7
  have I7 := Lib.hid i7
  have T7 := Lib.hid ((T3.out.drewN (n4 + n5)).trans t7)
  clear t7 i7 l7 T3
  go_wp2_with fail
  refine (rturned_reads _ (HR.out.turn T7.out (fun _ _ => id)) rfl (by omega)).mono ?_
  rintro e w8 ⟨b8, c8, rfl, _, i8, _, _, t8⟩
  have J8 := Lib.hid (I7.out.turn t8 (fun _ _ => id))
  have I8 := Lib.hid i8
  have T8 := Lib.hid (T7.out.trans t8)
  clear t8 i8 T7 I7
  go_wp2_with fail
  refine (same_eq _ J8.out I8.out L7.out (by omega)).mono ?_
  rintro e w9 ⟨rfl, n9, rfl⟩
  go_wp2
  go_ret
  exact ⟨rfl, T8.out.drewN _⟩

set_option maxHeartbeats 2000000 in
theorem llocks_any {ao : Option Addr} {cap : Nat} {L : List Int} (w : World) (hr : Ints .i64 w ao L) (hl : L.length ≤ 200) :
    Calls Try.prog 4 #[.slice ao L.length cap] w fun e w' => e = .returned (.bool true) ∧ Turn (fun _ => False) w w' := by
  have HR := Lib.hid hr
  clear hr
  go_enter Try.func4, Try.ntmps4
  go_wp2_with fail
  refine (alive_any _).mono ?_
  rintro e w1 ⟨rfl, t1⟩
  have T1 := Lib.hid t1
  clear t1
  go_wp2_with fail
  refine (locks_reads _ (HR.out.turn T1.out (fun _ _ => id)) rfl (by omega)).mono ?_
  rintro e w2 ⟨m, hm, b2, c2, rfl, l2, i2, _, _, t2⟩
  have L2 := Lib.hid l2
  have I2 := Lib.hid i2
  have T2 := Lib.hid (T1.out.trans t2)
  have HP := Lib.hid (fun i (h : i < (locksL L).length) => locks_pos L h)
  have HQ := Lib.hid (fun i (h : i < (locksL L).length) (h0 : 0 < i) => locks_rise L h h0)
  have HV := Lib.hid (locksL_reverse L)
  clear t2 i2 l2 T1
  go_wp2_with fail
  go_loop [15] (fun i => ∃ k : Nat, k ≤ m ∧ i = .int .i64 k) (fun i => m - (intOf i).toNat)
  case atStart => exact ⟨0, Nat.zero_le _, rfl⟩
  case round =>
    obtain ⟨k, hk, rfl⟩ := hrel
    by_cases hlt : k < m
    · obtain ⟨ad, hb, hc⟩ := I2.out k (by rw [L2.out]; exact hlt)
      subst hb
      have hp := HP.out k (by rw [L2.out]; exact hlt)
      by_cases h0 : 0 < k
      · obtain ⟨ad', hb', hd⟩ := I2.out (k - 1) (by rw [L2.out]; omega)
        cases hb'
        have hq := HQ.out k (by rw [L2.out]; exact hlt) h0
        obtain ⟨x, hx⟩ : ∃ x, x = gt (locksL L) k := ⟨_, rfl⟩
        obtain ⟨y, hy⟩ : ∃ y, y = gt (locksL L) (k - 1) := ⟨_, rfl⟩
        rw [show (locksL L).getD k 0 = gt (locksL L) k from rfl, ← hx] at hc
        rw [show (locksL L).getD (k - 1) 0 = gt (locksL L) (k - 1) from rfl, ← hy] at hd
        rw [← hx] at hp
        rw [← hx, ← hy] at hq
        obtain ⟨j, hj⟩ : ∃ j : Nat, (k : Int) - 1 = j := ⟨k - 1, by omega⟩
        rw [show k - 1 = j by omega] at hd
        have hjm : j < m := by omega
        clear hx hy
        go_wp2
        go_round
        case rel => exact ⟨k + 1, by omega, by go_num⟩
        case measure => simp [intOf]; omega
      · obtain ⟨x, hx⟩ : ∃ x, x = gt (locksL L) k := ⟨_, rfl⟩
        rw [show (locksL L).getD k 0 = gt (locksL L) k from rfl, ← hx] at hc
        rw [← hx] at hp
        clear hx
        go_wp2
        go_round
        case rel => exact ⟨k + 1, by omega, by go_num⟩
        case measure => simp [intOf]; omega
    · clear HP HQ
      go_wp2_with fail
      refine (rlocks_reads _ (HR.out.turn T2.out (fun _ _ => id)) rfl (by omega)).mono ?_
      rintro e w3 ⟨m3, hm3, b3, c3, rfl, l3, i3, _, _, t3⟩
      obtain rfl : m3 = m := by rw [← l3, ← L2.out]
      have J3 := Lib.hid (I2.out.turn t3 (fun _ _ => id))
      have I3 := Lib.hid i3
      have T3 := Lib.hid (T2.out.trans t3)
      clear t3 i3 l3 T2 I2
      go_wp2_with fail
      refine (same_eq _ J3.out I3.out L2.out (by omega)).mono ?_
      rintro e w4 ⟨rfl, n4, rfl⟩
      go_wp2_with fail
      refine (rturned_reads _ (HR.out.turn (T3.out.drewN n4) (fun _ _ => id)) rfl (by omega)).mono ?_
      rintro e w5 ⟨b5, c5, rfl, l5, i5, _, _, t5⟩
      have L5 := Lib.hid l5
      have I5 := Lib.hid i5
      have J5 := Lib.hid (J3.out.turn (((Turn.refl (fun _ => False) w3).drewN n4).trans t5) (fun _ _ => id))
      have T5 := Lib.hid ((T3.out.drewN n4).trans t5)
      clear t5 i5 l5 T3 I3 J3
      go_wp2_with fail
      refine (locks_reads _ I5.out L5.out (by omega)).mono ?_
      rintro e w6 ⟨m6, hm6, b6, c6, rfl, l6, i6, _, _, t6⟩
      rw [HV.out] at l6 i6
      obtain rfl : m6 = m3 := by rw [← l6, ← L2.out]
      have J6 := Lib.hid (J5.out.turn t6 (fun _ _ => id))
      have I6 := Lib.hid i6
      have T6 := Lib.hid (T5.out.trans t6)
      clear t6 i6 l6 T5 I5 J5 hm6
      go_wp2_with fail
      refine (same_eq _ J6.out I6.out L2.out (by omega)).mono ?_
      rintro e w7 ⟨rfl, n7, rfl⟩
      go_wp2
      go_ret
      exact ⟨rfl, T6.out.drewN _⟩

end Go.Proofs.Ytcnmkbmhkcgejaa
