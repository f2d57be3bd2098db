/- The contracts of Turned and the document's own. -/
import Derived.Test.YtcnmkbmhkcgejaaSmall
import Derived.RegionTactic
import Derived.ChangeAlike
namespace Go.Proofs.Ytcnmkbmhkcgejaa
open Go.RowKit
set_option linter.unusedVariables false

theorem info_int : (Try.prog.info? 3).map (fun i => (i.zero, i.size, i.bytes)) = some (some (.int .i64 0), 1, 8) := by kernel_rfl

theorem size_int : (Try.prog.info? 3).map (·.size) = some 1 := by kernel_rfl

/-- The last k of n are filled, from the end on. -/
def tpart (L : List Int) (k : Nat) : List Int := List.replicate (L.length - k) 0 ++ (L.take k).reverse
theorem tpart_zero (L : List Int) : tpart L 0 = List.replicate L.length 0 := by simp [tpart]
theorem tpart_length (L : List Int) (k : Nat) (h : k ≤ L.length) : (tpart L k).length = L.length := by simp [tpart]; omega
theorem tpart_all (L : List Int) : tpart L L.length = L.reverse := by simp [tpart]
theorem tpart_next (L : List Int) (k : Nat) (h : k < L.length) : (tpart L k).set (L.length - 1 - k) (gt L k) = tpart L (k + 1) := by
  unfold tpart
  obtain ⟨m, hm⟩ : ∃ m, L.length - k = m + 1 := ⟨L.length - k - 1, by omega⟩
  rw [show L.length - 1 - k = m by omega, show L.length - (k + 1) = m by omega, hm]
  rw [List.take_succ_eq_append_getElem h, List.reverse_append, List.replicate_succ', List.append_assoc]
  rw [List.set_append_right _ _ (by simp)]
  simp [h]

set_option maxHeartbeats 1000000 in
theorem turned_any {ao : Option Addr} {cap : Nat} {L : List Int} (w : World) (hr : Ints .i64 w ao L) (hl : L.length ≤ 1000) :
    Calls Try.prog 12 #[.slice ao L.length cap] w fun e w' => ∃ v, e = .returned v ∧ Fresh .i64 3 w w' v L.reverse := by
  have HR := Lib.hid hr
  clear hr
  go_enter Try.func12, Try.ntmps12
  go_wp2_with (with_reducible refine wpList_make_ints (k := .i64) Try.underlying22 info_int (by decide) rfl (.tmp 7) (.tmp 7) rfl L.length rfl rfl (by omega) ?_; intro w1 R1 T1 hs1)
  go_loopw [11] (fun i wr => ∃ k : Nat, k ≤ L.length ∧ i = .int .i64 k ∧ Row .i64 3 wr w.heap.size (tpart L k) ∧ Turn (fun _ => False) w wr) (fun i _ => L.length - (intOf i).toNat)
  case atStart => exact ⟨0, Nat.zero_le _, rfl, by rw [tpart_zero]; exact R1.out, T1.out⟩
  case round =>
    obtain ⟨k, hk, rfl, hrow, ht⟩ := hrel
    clear R1 T1
    have HRow := Lib.hid hrow
    have HT := Lib.hid ht
    clear hrow ht
    have hpl := tpart_length L k hk
    by_cases hlt : k < L.length
    · obtain ⟨ad, hao, hc⟩ := HR.out.turn HT.out (fun _ _ => id) k hlt
      subst hao
      have HS := Lib.hid (tpart_next L k hlt)
      obtain ⟨x, hx⟩ : ∃ x, x = L.getD k 0 := ⟨_, rfl⟩
      rw [show gt L k = L.getD k 0 from rfl, ← hx] at HS
      rw [← hx] at hc
      obtain ⟨P, hP⟩ : ∃ P, P = tpart L k := ⟨_, rfl⟩
      rw [← hP] at HRow HS hpl
      have c1 := HRow.out.cell (i := L.length - 1 - k) (by omega)
      have f1 := HRow.out.frozen (L.length - 1 - k)
      obtain ⟨y, hy⟩ : ∃ y, y = P.getD (L.length - 1 - k) 0 := ⟨_, rfl⟩
      rw [← hy] at c1
      obtain ⟨j, hj⟩ : ∃ j, j = L.length - 1 - k := ⟨_, rfl⟩
      rw [← hj] at c1 f1 HS
      have hjl : j < L.length := by omega
      have s1 : (L.length : Int) - 1 - (k : Int) = (j : Int) := by omega
      clear hx hy hP hj hpl
      go_wp2
      clear s1
      go_roundw
      case rel => exact ⟨k + 1, by omega, by go_num, by rw [← HS.out]; exact HRow.out.set j x, HT.out.setCell (Or.inr (Nat.le_refl _)) _⟩
      case measure => simp [intOf]; omega
    · obtain rfl : k = L.length := by omega
      go_wp2
      go_ret
      rw [tpart_all] at HRow
      refine ⟨_, rfl, ?_, HT.out⟩
      have := HRow.out.own (base := w.heap.size) (Nat.le_refl _) (by rw [List.length_reverse]; unfold maxLen; omega)
      rw [List.length_reverse] at this ⊢
      exact this

set_option maxHeartbeats 1000000 in
theorem rturned_any {ao : Option Addr} {cap : Nat} {L : List Int} (w : World) (hr : Ints .i64 w ao L) (hl : L.length ≤ 1000) :
    Calls Try.prog 13 #[.slice ao L.length cap] w fun e w' => ∃ v, e = .returned v ∧ Fresh .i64 3 w w' v L.reverse := by
  have HR := Lib.hid hr
  clear hr
  go_enter Try.func13, Try.ntmps13
  go_wp2_with fail
  go_loopw [3, 4] (fun o i wr => ∃ m : Nat, m ≤ L.length ∧ (∃ i0 : Int, i = .int .i64 i0 ∧ i0 + 1 = m) ∧ Hid (wr.ownsRow w.heap.size 3 1 o (L.drop m).reverse.length ((L.drop m).reverse.map (Value.int .i64))) ∧ Turn (fun _ => False) w wr) (fun _ i _ => (intOf i + 1).toNat)
  case atStart =>
    refine ⟨L.length, Nat.le_refl _, ⟨_, rfl, by omega⟩, Lib.hid ?_, (Turn.refl _ _).alloc _⟩
    rw [List.drop_length]
    exact (fresh_empty .i64 3 w).1
  case round =>
    obtain ⟨m, hm, ⟨i0, rfl, hi0⟩, HO, ht⟩ := hrel
    have HT := Lib.hid ht
    clear ht
    cases m with
    | zero =>
      have hi : i0 < 0 := by omega
      clear hi0 hm
      go_wp2
      go_ret
      refine ⟨_, rfl, ?_, HT.out⟩
      have := HO.out
      rwa [List.drop_zero] at this
    | succ k =>
      obtain rfl : i0 = (k : Int) := by omega
      clear hi0
      have hlt : k < L.length := by omega
      obtain ⟨ad, hao, hc⟩ := HR.out.turn HT.out (fun _ _ => id) k hlt
      subst hao
      have HS := Lib.hid (rev_next L k hlt)
      have hol : (L.drop (k + 1)).reverse.length = L.length - (k + 1) := by simp
      obtain ⟨O, hO⟩ : ∃ O, O = (L.drop (k + 1)).reverse := ⟨_, rfl⟩
      rw [← hO] at HO HS hol
      obtain ⟨n, hn⟩ : ∃ n, n = L.length - (k + 1) := ⟨_, rfl⟩
      have hnl : n ≤ 1000 := by omega
      rw [← hn] at hol
      have HOL := Lib.hid hol
      obtain ⟨x, hx⟩ : ∃ x, x = L.getD k 0 := ⟨_, rfl⟩
      rw [show gt L k = L.getD k 0 from rfl, ← hx] at HS
      rw [← hx] at hc
      clear hx hO hol hn hm
      go_wp2_with (at_builtin; refine wpList_append_one Try.underlying22 info_int (by decide) rfl (.tmp 13) (.tmp 18) rfl w.heap.size _ O n x rfl HO.out HOL.out rfl (by omega) HT.out.size ?_; intro g c2 w2 hg H2 T2 B2)
      go_roundw
      case rel =>
        refine ⟨k, by omega, ⟨_, rfl, by omega⟩, Lib.hid ?_, HT.out.and T2.out (fun i hi h => ?_)⟩
        · rw [HS.out]
          have := H2.out
          rwa [List.length_append, HOL.out]
        · exact absurd (HO.out.lt i h).1 (by omega)
      case measure => simp [intOf]

end Go.Proofs.Ytcnmkbmhkcgejaa
