/- ringAlive; the walk of RingNew. -/
import Derived.Test.YtakfepgndokdpaaRef
namespace Go.Proofs.Ytakfepgndokdpaa
open Go.RowKit
set_option linter.unusedVariables false

theorem ints_of2 (w : World) (a b : Int) : Ints .i64 (w.alloc (.cells #[.int .i64 a, .int .i64 b] 2)) (some ⟨w.heap.size, 0, none⟩) [a, b] := by
  intro j hj
  refine ⟨_, rfl, ?_⟩
  match j, hj with
  | 0, _ => simp [go_sem]
  | 1, _ => simp [go_sem]

theorem new_two (w : World) : Calls Try.prog 7 #[.int .i64 2] w fun e w' => e = .returned (.tuple #[.pointer (some ⟨w.heap.size, 0, none⟩), .int .i64 0]) ∧ IsRing w' w.heap.size w.heap.size 2 none 0 [] ∧ Turn (fun _ => False) w w' := by
  have := new_good 2 w (by decide)
  rwa [show ((2 : Nat) : Int) = 2 from rfl] at this
theorem put_five {base p c : Nat} {ao : Option Addr} (w : World) (h : IsRing w base p 2 ao c []) : Calls Try.prog 16 #[.pointer (some ⟨p, 0, none⟩), .int .i64 5] w fun e w' => e = .returned (.bool true) ∧ Kept w w' base p 2 ao [5] := put_yes 5 w h (by decide)
theorem put_six {base p c : Nat} {ao : Option Addr} (w : World) (h : IsRing w base p 2 ao c [5]) : Calls Try.prog 16 #[.pointer (some ⟨p, 0, none⟩), .int .i64 6] w fun e w' => e = .returned (.bool true) ∧ Kept w w' base p 2 ao [5, 6] := put_yes 6 w h (by decide)
theorem pass_seven {base p c : Nat} {ao : Option Addr} (w : World) (h : IsRing w base p 2 ao c [5, 6]) : Calls Try.prog 20 #[.pointer (some ⟨p, 0, none⟩), .int .i64 7] w fun e w' => e = .returned (.tuple #[.int .i64 5, .bool true]) ∧ Kept w w' base p 2 ao [6, 7] := by
  have := pass_any 7 w h
  rwa [show passV 2 [5, 6] = 5 by decide, show passB 2 [5, 6] = true by decide, show passL 2 [5, 6] 7 = [6, 7] by decide] at this
theorem all_two {base p c : Nat} {ao : Option Addr} (w : World) (h : IsRing w base p 2 ao c [6, 7]) : Calls Try.prog 14 #[.pointer (some ⟨p, 0, none⟩)] w (Reads .i64 2 [6, 7] w) := all_any w h

set_option maxHeartbeats 1000000 in
theorem alive_any (w : World) : Calls Try.prog 6 #[] w fun e w' => e = .returned (.bool true) ∧ Turn (fun _ => False) w w' := by
  go_enter Try.func6, Try.ntmps6
  go_wp2_with fail
  refine (new_two w).mono ?_
  rintro e w1 ⟨rfl, h1, t1⟩
  have H1 := Lib.hid h1
  have T1 := Lib.hid t1
  clear h1 t1
  go_wp2_with fail
  refine (put_five w1 H1.out).mono ?_
  rintro e w2 ⟨rfl, ao2, c2, h2, t2, b2⟩
  have H2 := Lib.hid h2
  have T2 := Lib.hid (T1.out.and t2 (fun i hi e => by have := (H1.out.blocks e).1; omega))
  clear h2 t2 b2 H1 T1
  go_wp2_with fail
  refine (put_six w2 H2.out).mono ?_
  rintro e w3 ⟨rfl, ao3, c3, h3, t3, b3⟩
  have H3 := Lib.hid h3
  have T3 := Lib.hid (T2.out.and t3 (fun i hi e => by have := (H2.out.blocks e).1; omega))
  clear h3 t3 b3 H2 T2
  go_wp2_with fail
  refine (pass_seven w3 H3.out).mono ?_
  rintro e w4 ⟨rfl, ao4, c4, h4, t4, b4⟩
  have H4 := Lib.hid h4
  have T4 := Lib.hid (T3.out.and t4 (fun i hi e => by have := (H3.out.blocks e).1; omega))
  clear h4 t4 b4 H3 T3
  go_wp2_with fail
  refine (all_two w4 H4.out).mono ?_
  rintro e w5 ⟨bo, bc, rfl, l5, i5, _, _, _, t5⟩
  have I5 := Lib.hid i5
  have T5 := Lib.hid (T4.out.trans t5)
  clear t5 i5 l5 H4 T4
  go_wp2_with fail
  refine (same_eq (L := [6, 7]) _ (I5.out.turn ((Turn.refl (fun _ => False) w5).alloc _) (fun _ _ => id)) (ints_of2 w5 6 7) rfl (by decide)).mono ?_
  rintro e w6 ⟨rfl, k, rfl⟩
  go_wp2
  go_ret
  exact ⟨rfl, (T5.out.alloc _).drewN _⟩

theorem lnew_long {r : Int} {ao : Option Addr} {n cap : Nat} (w : World) (h : 100 < n) (hL : n ≤ maxLen) :
    Calls Try.prog 3 #[.int .i64 r, .slice ao n cap] w fun e w' => e = .returned (.bool true) ∧ Turn (fun _ => False) w w' := by
  unfold maxLen at hL
  go_enter Try.func3, Try.ntmps3
  go_wp2_with fail
  refine (alive_any _).mono ?_
  rintro e w1 ⟨rfl, t1⟩
  have T1 := Lib.hid t1
  clear t1
  go_wp2_with fail
  go_ret
  exact ⟨rfl, T1.out⟩

theorem right_no {r : Int} {n : Nat} (w : World) (hn : n ≤ 9223372036854775807) (h : ¬ (0 ≤ r ∧ r ≤ 64 ∧ (n : Int) ≤ r)) : Calls Try.prog 9 #[.int .i64 r, .int .i64 n] w fun e w' => e = .returned (.bool false) ∧ w = w' := by
  have := right_any r n hn w
  rwa [show rightB r n = false from decide_eq_false h] at this
theorem right_yes {r : Int} {n : Nat} (w : World) (hn : n ≤ 9223372036854775807) (h : 0 ≤ r ∧ r ≤ 64 ∧ (n : Int) ≤ r) : Calls Try.prog 9 #[.int .i64 r, .int .i64 n] w fun e w' => e = .returned (.bool true) ∧ w = w' := by
  have := right_any r n hn w
  rwa [show rightB r n = true from decide_eq_true h] at this
theorem right_no0 {r : Int} (w : World) (h : r < 0 ∨ 64 < r) : Calls Try.prog 9 #[.int .i64 r, .int .i64 0] w fun e w' => e = .returned (.bool false) ∧ w = w' := right_no (n := 0) w (by omega) (by omega)
theorem right_yes0 {n : Nat} (w : World) (h : n ≤ 64) : Calls Try.prog 9 #[.int .i64 n, .int .i64 0] w fun e w' => e = .returned (.bool true) ∧ w = w' := right_yes (n := 0) w (by omega) (by omega)

set_option maxHeartbeats 1000000 in
theorem lnew_bad {r : Int} {ao : Option Addr} {n cap : Nat} (w : World) (h : r < 0 ∨ 64 < r) (hL : n ≤ 100) :
    Calls Try.prog 3 #[.int .i64 r, .slice ao n cap] w fun e w' => e = .returned (.bool true) ∧ Turn (fun _ => False) w w' := by
  have HB := Lib.hid h
  have HR := Lib.hid (show ¬ (0 ≤ r ∧ r ≤ 64 ∧ (n : Int) ≤ r) by omega)
  clear h
  go_enter Try.func3, Try.ntmps3
  go_wp2_with fail
  refine (alive_any _).mono ?_
  rintro e w1 ⟨rfl, t1⟩
  have T1 := Lib.hid t1
  clear t1
  go_wp2_with fail
  refine (new_bad r _ HB.out).mono ?_
  rintro e w2 ⟨rfl, rfl⟩
  go_wp2_with fail
  refine (of_bad r _ HB.out).mono ?_
  rintro e w2 ⟨rfl, rfl⟩
  go_wp2_with fail
  refine (right_no0 _ HB.out).mono ?_
  rintro e w2 ⟨rfl, rfl⟩
  go_wp2_with fail
  refine (right_no0 _ HB.out).mono ?_
  rintro e w2 ⟨rfl, rfl⟩
  go_wp2_with fail
  refine (right_no _ (by omega) HR.out).mono ?_
  rintro e w2 ⟨rfl, rfl⟩
  go_wp2_with fail
  go_ret
  exact ⟨rfl, T1.out⟩

theorem full_none0 {base p : Nat} {room : Nat} (w : World) (h : IsRing w base p room none 0 []) (hr : room = 0) : Calls Try.prog 12 #[.pointer (some ⟨p, 0, none⟩)] w fun e w' => e = .returned (.bool true) ∧ ∃ n, w' = w.drewN n := full_yes w h hr.symm
theorem full_none1 {base p : Nat} {room : Nat} (w : World) (h : IsRing w base p room none 0 []) (hr : 0 < room) : Calls Try.prog 12 #[.pointer (some ⟨p, 0, none⟩)] w fun e w' => e = .returned (.bool false) ∧ ∃ n, w' = w.drewN n := full_no w h hr
theorem len_none {base p : Nat} {room : Nat} (w : World) (h : IsRing w base p room none 0 []) : Calls Try.prog 11 #[.pointer (some ⟨p, 0, none⟩)] w fun e w' => e = .returned (.int .i64 0) ∧ w = w' := len_any w h

set_option maxHeartbeats 2000000 in
theorem lnew_many {r : Nat} {ao : Option Addr} {n cap : Nat} (w : World) (h : r ≤ 64) (hn : r < n) (hL : n ≤ 100) :
    Calls Try.prog 3 #[.int .i64 r, .slice ao n cap] w fun e w' => e = .returned (.bool true) ∧ Turn (fun _ => False) w w' := by
  have HR := Lib.hid (show ¬ (0 ≤ (r : Int) ∧ (r : Int) ≤ 64 ∧ (n : Int) ≤ (r : Int)) by omega)
  have hz : (((r : Int) == 0) = true ∧ Hid (r = 0)) ∨ (((r : Int) == 0) = false ∧ 0 < r) := by
    by_cases h0 : r = 0
    · exact Or.inl ⟨by rw [beq_iff_eq]; omega, Lib.hid h0⟩
    · exact Or.inr ⟨by rw [beq_eq_false_iff_ne]; omega, by omega⟩
  go_enter Try.func3, Try.ntmps3
  go_wp2_with fail
  refine (alive_any _).mono ?_
  rintro e w1 ⟨rfl, t1⟩
  have T1 := Lib.hid t1
  clear t1
  go_wp2_with fail
  refine (new_good r w1 h).mono ?_
  rintro e w2 ⟨rfl, h2, t2⟩
  have H2 := Lib.hid h2
  have T2 := Lib.hid (T1.out.trans t2)
  clear t2 h2 T1
  go_wp2_with fail
  refine (of_many w2 h hn).mono ?_
  rintro e w3 ⟨rfl, t3⟩
  have H3 := Lib.hid (H2.out.new t3)
  have T3 := Lib.hid (T2.out.trans t3)
  clear t3 H2 T2
  rcases hz with ⟨hz, h0⟩ | ⟨hz, h0⟩
  all_goals
    go_wp2_with fail
    refine (right_yes0 _ h).mono ?_
    rintro e w4 ⟨rfl, rfl⟩
    go_wp2_with fail
    refine (right_yes0 _ h).mono ?_
    rintro e w4 ⟨rfl, rfl⟩
    go_wp2_with fail
    refine (room_any _ H3.out).mono ?_
    rintro e w4 ⟨rfl, rfl⟩
    go_wp2_with fail
    refine (len_none _ H3.out).mono ?_
    rintro e w4 ⟨rfl, rfl⟩
    go_wp2_with fail
    first
      | refine (full_none0 _ H3.out h0.out).mono ?_
      | refine (full_none1 _ H3.out h0).mono ?_
    rintro e w4 ⟨rfl, k, rfl⟩
    go_wp2_with fail
    refine (right_no _ (by omega) HR.out).mono ?_
    rintro e w4 ⟨rfl, rfl⟩
    go_wp2_with fail
    go_ret
    exact ⟨rfl, T3.out.drewN _⟩

set_option maxHeartbeats 2000000 in
theorem lnew_good {r : Nat} {ao : Option Addr} {L : List Int} {cap : Nat} (w : World) (h : r ≤ 64) (hn : L.length ≤ r) (hr : Ints .i64 w ao L) :
    Calls Try.prog 3 #[.int .i64 r, .slice ao L.length cap] w fun e w' => e = .returned (.bool true) ∧ Turn (fun _ => False) w w' := by
  have HRt := Lib.hid (show (0 ≤ (r : Int) ∧ (r : Int) ≤ 64 ∧ (L.length : Int) ≤ (r : Int)) by omega)
  have HL := Lib.hid hr
  clear hr
  have hz : (((r : Int) == 0) = true ∧ Hid (r = 0)) ∨ (((r : Int) == 0) = false ∧ 0 < r) := by
    by_cases h0 : r = 0
    · exact Or.inl ⟨by rw [beq_iff_eq]; omega, Lib.hid h0⟩
    · exact Or.inr ⟨by rw [beq_eq_false_iff_ne]; omega, by omega⟩
  go_enter Try.func3, Try.ntmps3
  go_wp2_with fail
  refine (alive_any _).mono ?_
  rintro e w1 ⟨rfl, t1⟩
  have T1 := Lib.hid t1
  clear t1
  go_wp2_with fail
  refine (new_good r w1 h).mono ?_
  rintro e w2 ⟨rfl, h2, t2⟩
  have H2 := Lib.hid h2
  have T2 := Lib.hid (T1.out.trans t2)
  clear t2 h2 T1
  go_wp2_with fail
  refine (of_good w2 h hn (HL.out.turn T2.out (fun _ _ => id))).mono ?_
  rintro e w3 ⟨rfl, ⟨ao3, c3, h3⟩, t3⟩
  have H3 := Lib.hid (H2.out.new t3)
  have K3 := Lib.hid h3
  have T3 := Lib.hid (T2.out.trans t3)
  clear t3 h3 H2 T2
  rcases hz with ⟨hz, h0⟩ | ⟨hz, h0⟩
  all_goals
    go_wp2_with fail
    refine (right_yes0 _ h).mono ?_
    rintro e w4 ⟨rfl, rfl⟩
    go_wp2_with fail
    refine (right_yes0 _ h).mono ?_
    rintro e w4 ⟨rfl, rfl⟩
    go_wp2_with fail
    refine (room_any _ H3.out).mono ?_
    rintro e w4 ⟨rfl, rfl⟩
    go_wp2_with fail
    refine (len_none _ H3.out).mono ?_
    rintro e w4 ⟨rfl, rfl⟩
    go_wp2_with fail
    first
      | refine (full_none0 _ H3.out h0.out).mono ?_
      | refine (full_none1 _ H3.out h0).mono ?_
    rintro e w4 ⟨rfl, k, rfl⟩
    go_wp2_with fail
    refine (right_yes _ (by omega) HRt.out).mono ?_
    rintro e w4 ⟨rfl, rfl⟩
    go_wp2_with fail
    refine (all_any _ (K3.out.drewN _)).mono ?_
    rintro e w5 ⟨b5, c5, rfl, l5, i5, _, _, _, t5⟩
    have I5 := Lib.hid i5
    have K5 := Lib.hid ((K3.out.drewN _).new t5)
    have T5 := Lib.hid ((T3.out.drewN _).trans t5)
    clear t5 i5 l5
    go_wp2_with fail
    refine (same_eq _ I5.out (HL.out.turn T5.out (fun _ _ => id)) rfl (by omega)).mono ?_
    rintro e w6 ⟨rfl, k6, rfl⟩
    go_wp2_with fail
    refine (room_any _ (K5.out.drewN _)).mono ?_
    rintro e w4 ⟨rfl, rfl⟩
    go_wp2_with fail
    go_ret
    exact ⟨rfl, T5.out.drewN _⟩

end Go.Proofs.Ytakfepgndokdpaa
