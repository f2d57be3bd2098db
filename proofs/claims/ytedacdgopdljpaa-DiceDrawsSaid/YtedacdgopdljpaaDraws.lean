/- The walk of DiceDraws. -/
import Derived.Test.YtedacdgopdljpaaLaw
namespace Go.Proofs.Ytedacdgopdljpaa
open Go.RowKit
set_option linter.unusedVariables false

def atk (L A : List Int) (k : Nat) : Nat := (A.take k).foldl (dn L) 0
theorem atk_succ (L A : List Int) (k : Nat) (h : k < A.length) : atk L A (k + 1) = dn L (atk L A k) (A.getD k 0) := by
  unfold atk
  rw [List.take_succ_eq_append_getElem h, List.foldl_append]
  simp [List.getD, h]

theorem draws_long {ao bo : Option Addr} {lL lA cap capb : Nat} (w : World) (h : 300 < lL ∨ lL ≤ 300 ∧ 300 < lA) (hA : lA ≤ maxLen) :
    Calls Try.prog 3 #[.slice ao lL cap, .slice bo lA capb] w fun e w' => e = .returned (.bool true) ∧ Turn (fun _ => False) w w' := by
  unfold maxLen at hA
  rcases h with h | ⟨h, h'⟩
  all_goals
    go_enter Try.func3, Try.ntmps3
    go_wp2_with fail
    refine (alive_any _).mono ?_
    rintro e w1 ⟨rfl, t1⟩
    go_wp2_with fail
    go_ret
    exact ⟨rfl, t1⟩

set_option maxHeartbeats 1000000 in
theorem draws_any {ao bo : Option Addr} {cap capb : Nat} {L A : List Int} (w : World) (hr : Ints .u16 w ao L) (ha : Ints .i64 w bo A) (hl : L.length ≤ 300) (hlA : A.length ≤ 300) (hu : ∀ x ∈ L, 0 ≤ x ∧ x ≤ 65535) (hi : ∀ x ∈ A, x ≤ 9223372036854775807) :
    Calls Try.prog 3 #[.slice ao L.length cap, .slice bo A.length capb] w fun e w' => e = .returned (.bool true) ∧ Turn (fun _ => False) w w' := by
  have HR := Lib.hid hr
  have HA := Lib.hid ha
  have HU := Lib.hid hu
  have HI := Lib.hid hi
  clear hr ha hu hi
  go_enter Try.func3, Try.ntmps3
  go_wp2_with fail
  refine (alive_any _).mono ?_
  rintro e w1 ⟨rfl, t1⟩
  have T1 := Lib.hid t1
  clear t1
  go_wp2_with fail
  refine (new_any (L := L) _ (HR.out.turn T1.out (fun _ _ => id)) hl HU.out).mono ?_
  rintro e w2 ⟨p, g, rfl, h2, hp, hg, t2⟩
  have T2 := Lib.hid (T1.out.trans t2)
  have hp2 : w.heap.size ≤ p := Nat.le_trans T1.out.size hp
  have hg2 : w.heap.size ≤ g := Nat.le_trans T1.out.size hg
  have H2 := Lib.hid h2
  clear t2 hp hg h2
  go_wp2
  go_loopw [6, 27] (fun t i wr => ∃ k : Nat, k ≤ A.length ∧ i = .int .i64 k ∧ t = .int .i64 (atk L A k) ∧ IsDice wr p g L (atk L A k) ∧ Turn (fun _ => False) w wr) (fun _ i _ => A.length - (intOf i).toNat)
  case atStart => exact ⟨0, Nat.zero_le _, rfl, rfl, H2.out, T2.out⟩
  case round =>
    obtain ⟨k, hk, rfl, rfl, hd, ht⟩ := hrel
    have HD := Lib.hid hd
    have HT := Lib.hid ht
    have hdl := hd.le
    clear hd ht
    by_cases hlt : k < A.length
    · obtain ⟨ad, hbo, hc⟩ := HA.out.turn HT.out (fun _ _ => id) k hlt
      subst hbo
      have hn2 := HI.out _ (getD_mem (l := A) (j := k) (d := 0) hlt)
      have HS := Lib.hid (atk_succ L A k hlt)
      obtain ⟨x, hx⟩ : ∃ x, x = A.getD k 0 := ⟨_, rfl⟩
      rw [← hx] at hc hn2 HS
      obtain ⟨m, hm⟩ : ∃ m, m = atk L A k := ⟨_, rfl⟩
      rw [← hm] at HD hdl HS ⊢
      clear hx hm
      go_wp2_with fail
      refine (ref_any m x _ (HR.out.turn HT.out (fun _ _ => id)) hl HU.out hdl hn2).mono ?_
      rintro e w3 ⟨rfl, rfl⟩
      go_wp2_with fail
      refine (draw_any x hn2 _ HD.out).mono ?_
      rintro e w4 ⟨rfl, h4, t4⟩
      have T4 := Lib.hid (HT.out.and t4 (fun i hi e => by omega))
      have hdl4 := h4.le
      have H4 := Lib.hid h4
      clear t4 h4
      go_wp2_with fail
      refine (drawn_any _ H4.out).mono ?_
      rintro e w5 ⟨rfl, rfl⟩
      go_wp2_with fail
      refine (left_any _ H4.out).mono ?_
      rintro e w6 ⟨rfl, m6, rfl⟩
      go_wp2
      go_roundw
      case rel => exact ⟨k + 1, by omega, by go_num, by rw [HS.out], by rw [HS.out]; exact H4.out.turn ((Turn.refl (fun _ => False) _).drewN _) id id, T4.out.drewN _⟩
      case measure => simp [intOf]; omega
    · go_wp2
      go_ret
      exact ⟨rfl, HT.out⟩

end Go.Proofs.Ytedacdgopdljpaa
