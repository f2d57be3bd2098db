/- The walk of OrderKeeps. -/
import Derived.Test.YtcnmkbmhkcgejaaLaw
namespace Go.Proofs.Ytcnmkbmhkcgejaa
open Go.RowKit
set_option linter.unusedVariables false

theorem int_of {a b : Int} (h : a = b) : Value.int .i64 a = Value.int .i64 b := by rw [h]

set_option maxHeartbeats 4000000 in
theorem keeps_any {ao : Option Addr} {cap : Nat} {L : List Int} (x : Int) (w : World) (hr : Ints .i64 w ao L) (hl : L.length ≤ 200) (hcap : ao = none → cap = 0) :
    Calls Try.prog 5 #[.slice ao L.length cap, .int .i64 x] w fun e w' => e = .returned (.bool true) ∧ Turn (fun _ => False) w w' := by
  have HR := Lib.hid hr
  have HC := Lib.hid hcap
  clear hr hcap
  obtain ⟨i0, hi0, hz0, hz1, hz2⟩ := info_parts info_int
  have HInf := Lib.hid (And.intro hi0 (And.intro hz0 (And.intro hz1 hz2)))
  clear hi0 hz0 hz1 hz2
  go_enter Try.func5, Try.ntmps5
  go_wp2_with fail
  refine (alive_any _).mono ?_
  rintro e w1 ⟨rfl, t1⟩
  have T1 := Lib.hid t1
  clear t1
  go_wp2_with (first
    | (at_builtin; refine wpList_append_ints rfl (.tmp 17) (.tmp 18) 22 rfl w1.heap.size 3 i0 (.int .i64 0) 8 Try.underlying22 HInf.out.1 HInf.out.2.1 HInf.out.2.2.1 HInf.out.2.2.2 rfl _ 0 [] rfl (World.ownsRow_made w1 #[] 0 (Nat.le_refl _) (Nat.zero_le _) rfl) .i64 ao cap L rfl HC.out (HR.out.turn (T1.out.alloc _) (fun _ _ => id)) (by unfold maxLen; omega) (by omega) (by simp) ?_; intro v2 w2 H2 hgrow; rw [Nat.zero_add, List.nil_append] at H2; have T2 := Lib.hid (((Turn.refl (fun _ => False) w1).alloc _).grown hgrow (fun k hk => Or.inr (by cases hk; exact Nat.le_refl _))); have O2 := Lib.hid H2; clear H2 hgrow)
    | (go_at_call 8; refine (sort_reads _ ((HR.out.turn T1.out (fun _ _ => id)).turn T2.out (fun _ _ => id)) rfl (by omega)).mono ?_; rintro e w3 ⟨b3, c3, rfl, l3, i3, _, _, t3⟩; have L3 := Lib.hid l3; have I3 := Lib.hid i3; have T3 := Lib.hid ((T1.out.trans T2.out).trans t3); have U3 := Lib.hid t3; clear t3 i3 l3))
  obtain ⟨b2, c2, rfl, hc2, _, _, _⟩ := own_slice O2.out
  have I2 := Lib.hid ((own_reads O2.out).2.1.turn U3.out (fun _ _ => id))
  have HCS := Lib.hid (count_sort L x)
  have hcl := List.count_le_length (l := L) (a := x)
  have HRR := Lib.hid (HR.out.turn T3.out (fun _ _ => id))
  have HRev := Lib.hid (heapB_true (rev_heap L))
  have HSS := Lib.hid (sortL_sort L)
  obtain ⟨S, hS⟩ : ∃ S, S = sortL L := ⟨_, rfl⟩
  rw [← hS] at L3 I3 HCS HRev HSS
  clear hS T1 T2 U3 O2
  go_loop [7, 24] (fun n i => ∃ k m : Nat, k ≤ L.length ∧ i = .int .i64 k ∧ n = .int .i64 m ∧ m ≤ L.length ∧ Hid (m = (L.take k).count x)) (fun _ i => L.length - (intOf i).toNat)
  case atStart => exact ⟨0, 0, Nat.zero_le _, rfl, rfl, Nat.zero_le _, Lib.hid (by simp)⟩
  case round =>
    obtain ⟨k, m, hk, rfl, rfl, hm, HM⟩ := hrel
    by_cases hlt : k < L.length
    · obtain ⟨ad, hao, hc⟩ := HRR.out k hlt
      subst hao
      have HN := Lib.hid (count_next L x k hlt)
      have hcn : (L.take (k + 1)).count x ≤ L.length := Nat.le_trans (List.count_le_length (l := L.take (k + 1)) (a := x)) (by simp; omega)
      by_cases he : gt L k = x
      · have HE := Lib.hid (show m + 1 = (L.take (k + 1)).count x by rw [HN.out, if_pos he, ← HM.out])
        rw [show L.getD k 0 = x from he] at hc
        have hm1 : m + 1 ≤ L.length := by have := HE.out; omega
        clear he hcn
        go_wp2
        go_round
        case rel => exact ⟨k + 1, m + 1, by omega, by go_num, by go_num, hm1, HE⟩
        case measure => simp [intOf]; omega
      · have HE := Lib.hid (show m = (L.take (k + 1)).count x by rw [HN.out, if_neg he, ← HM.out]; omega)
        obtain ⟨y, hy⟩ : ∃ y, y = L.getD k 0 := ⟨_, rfl⟩
        rw [show gt L k = L.getD k 0 from rfl, ← hy] at he
        rw [← hy] at hc
        have hne : (y == x) = false := by simpa using he
        clear he hy hcn
        go_wp2
        go_round
        case rel => exact ⟨k + 1, m, by omega, by go_num, rfl, hm, HE⟩
        case measure => simp [intOf]; omega
    · obtain rfl : k = L.length := by omega
      have HM2 := Lib.hid (show m = L.count x by have := HM.out; rwa [List.take_length] at this)
      go_wp2_with fail
      go_loop [7, 36] (fun n i => ∃ k m2 : Nat, ∃ z : Int, k ≤ L.length ∧ i = .int .i64 k ∧ n = .int .i64 z ∧ m2 ≤ m ∧ Hid (z = (m : Int) - m2) ∧ Hid (m2 = (S.take k).count x)) (fun _ i => L.length - (intOf i).toNat)
      case atStart => exact ⟨0, 0, m, Nat.zero_le _, rfl, rfl, Nat.zero_le _, Lib.hid (by omega), Lib.hid (by simp)⟩
      case round =>
        obtain ⟨k, m2, z, hk2, rfl, rfl, hm2, HZ, HK⟩ := hrel
        have hz : 0 ≤ z ∧ z ≤ 1000 := by have := HZ.out; omega
        by_cases hlt2 : k < L.length
        · obtain ⟨ad, hao, hc⟩ := I3.out k (by rw [L3.out]; exact hlt2)
          subst hao
          have HN := Lib.hid (count_next S x k (by rw [L3.out]; exact hlt2))
          have hcn : (S.take (k + 1)).count x ≤ m := by rw [HM2.out, ← HCS.out]; exact (List.take_sublist _ _).count_le x
          by_cases he : gt S k = x
          · have HE := Lib.hid (show m2 + 1 = (S.take (k + 1)).count x by rw [HN.out, if_pos he, ← HK.out])
            rw [show S.getD k 0 = x from he] at hc
            have hm3 : m2 + 1 ≤ m := by have := HE.out; omega
            have HZ2 : Hid (z - 1 = (m : Int) - (m2 + 1 : Nat)) := Lib.hid (by have := HZ.out; omega)
            clear he hcn
            go_wp2
            go_round
            case rel => exact ⟨k + 1, m2 + 1, z - 1, by omega, by go_num, rfl, hm3, HZ2, HE⟩
            case measure => simp [intOf]; omega
          · have HE := Lib.hid (show m2 = (S.take (k + 1)).count x by rw [HN.out, if_neg he, ← HK.out]; omega)
            obtain ⟨y, hy⟩ : ∃ y, y = S.getD k 0 := ⟨_, rfl⟩
            rw [show gt S k = S.getD k 0 from rfl, ← hy] at he
            rw [← hy] at hc
            have hne : (y == x) = false := by simpa using he
            clear he hy hcn
            go_wp2
            go_round
            case rel => exact ⟨k + 1, m2, z, by omega, by go_num, rfl, hm2, HZ, HE⟩
            case measure => simp [intOf]; omega
        · have hz0 : (z == 0) = true := by
            rw [beq_iff_eq]
            have h1 := HK.out
            have h2 := HM2.out
            obtain rfl : k = S.length := by rw [L3.out]; omega
            rw [List.take_length, HCS.out] at h1
            have := HZ.out
            omega
          clear hz
          go_wp2_with fail
          refine (turned_reads _ I3.out L3.out (by omega)).mono ?_
          rintro e w5 ⟨b5, c5, rfl, l5, i5, _, _, t5⟩
          have L5 := Lib.hid l5
          have I5 := Lib.hid i5
          have T5 := Lib.hid t5
          clear t5 i5 l5
          go_wp2_with fail
          have hheap := heap_any (ca := c5) w5 I5.out (by rw [L5.out]; omega)
          rw [L5.out, HRev.out] at hheap
          refine hheap.mono ?_
          rintro e w6 ⟨rfl, n6, rfl⟩
          clear hheap
          go_wp2_with fail
          refine (same_eq _ (HRR.out.turn (T5.out.drewN n6) (fun _ _ => id)) (I2.out.turn (T5.out.drewN n6) (fun _ _ => id)) rfl (by omega)).mono ?_
          rintro e w7 ⟨rfl, n7, rfl⟩
          go_wp2_with fail
          refine (sort_reads _ (I3.out.turn (T5.out.drewN (n6 + n7)) (fun _ _ => id)) L3.out (by omega)).mono ?_
          rintro e w8 ⟨b8, c8, rfl, l8, i8, _, _, t8⟩
          rw [HSS.out] at i8
          have I8 := Lib.hid i8
          have T8 := Lib.hid ((T5.out.drewN (n6 + n7)).trans t8)
          clear t8 i8 l8
          go_wp2_with fail
          refine (same_eq _ I8.out (I3.out.turn T8.out (fun _ _ => id)) L3.out (by omega)).mono ?_
          rintro e w9 ⟨rfl, n9, rfl⟩
          go_wp2
          go_ret
          exact ⟨rfl, (T3.out.trans T8.out).drewN _⟩

end Go.Proofs.Ytcnmkbmhkcgejaa
