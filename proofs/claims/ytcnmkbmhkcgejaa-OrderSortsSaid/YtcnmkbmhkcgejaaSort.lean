/- The contract of Sort. -/
import Derived.Test.YtcnmkbmhkcgejaaSink
namespace Go.Proofs.Ytcnmkbmhkcgejaa
open Go.RowKit
set_option linter.unusedVariables false

theorem sink0_any {g len cap : Nat} {R : List Int} (w : World) (hrow : Row .i64 3 w g R) (hl : len ≤ R.length) (hR : R.length ≤ 1000) (hh : HeapFrom R 1 len) :
    Calls Try.prog 16 #[.slice (some ⟨g, 0, none⟩) len cap, .int .i64 0] w (SinkPost 0 len g R w) := by
  have := sink_any (cap := cap) (lo := 0) w hrow hl hR (by omega) hh
  rwa [show ((0 : Nat) : Int) = 0 from rfl] at this

theorem row_drew {w : World} {g : Nat} {R : List Int} (h : Row .i64 3 w g R) : Row .i64 3 w.drew g R := h

/-- On the way of the first loop. -/
def Making (n : Nat) (L R : List Int) (m : Nat) : Prop := R.Perm L ∧ HeapFrom R m n ∧ m ≤ n
theorem making_start (n : Nat) (L : List Int) : Making n L L (n / 2) := ⟨List.Perm.refl _, fun c h0 hc h => by omega, by omega⟩
theorem making_next {n m : Nat} {L R R' : List Int} (h : Making n L R (m + 1)) (s : Same3 n R R') (k : HeapFrom R' m n) : Making n L R' m := ⟨s.perm.trans h.1, k, by have := h.2.2; omega⟩

set_option maxHeartbeats 2000000 in
theorem sort_any {ao : Option Addr} {cap : Nat} {L : List Int} (w : World) (hr : Ints .i64 w ao L) (hl : L.length ≤ 1000) :
    Calls Try.prog 8 #[.slice ao L.length cap] w fun e w' => ∃ v, e = .returned v ∧ Fresh .i64 3 w w' v (sortL L) := by
  have HR := Lib.hid hr
  clear hr
  go_enter Try.func8, Try.ntmps8
  go_wp2_with (first
    | (with_reducible refine wpList_make_ints (k := .i64) Try.underlying22 info_int (by decide) rfl (.tmp 7) (.tmp 7) rfl L.length rfl rfl (by omega) ?_; intro w1 R1 T1 hs1)
    | (with_reducible refine wpList_copy_ints (k := .i64) Try.underlying22 size_int rfl (.tmp 9) (.tmp 10) rfl w.heap.size ao cap L.length (List.replicate L.length 0) L rfl rfl R1.out (by simp) (HR.out.turn T1.out (fun _ _ => id)) (fun _ => False) w T1.out (Or.inr (Nat.le_refl _)) ?_; intro w2 R2 U2 T2))
  have hlq : (L.length : Int) / 2 = ((L.length / 2 : Nat) : Int) := by omega
  go_loopw [4] (fun i wr => ∃ m : Nat, ∃ R : List Int, (∃ i0 : Int, i = .int .i64 i0 ∧ i0 + 1 = m) ∧ Hid (Making L.length L R m) ∧ Hid (Row .i64 3 wr w.heap.size R) ∧ Hid (Turn (fun _ => False) w wr)) (fun i _ => (intOf i + 1).toNat)
  case atStart => exact ⟨L.length / 2, L, ⟨_, rfl, by omega⟩, Lib.hid (making_start _ L), R2, T2⟩
  case round =>
    obtain ⟨m, R, ⟨i0, rfl, hi0⟩, HM, HRow, HT⟩ := hrel
    clear R1 T1 R2 T2 U2 hlq
    cases m with
    | zero =>
      have hi : i0 < 0 := by omega
      clear hi0
      have HA := Lib.hid (Half.start (L := L) (R := R) (by rw [HM.out.1.length_eq]; exact HM.out.2.1) HM.out.1)
      have HAL := Lib.hid HM.out.1.length_eq
      go_wp2_with fail
      go_loopw [5] (fun i wr => ∃ m : Nat, ∃ R : List Int, (∃ i0 : Int, i = .int .i64 i0 ∧ i0 + 1 = m) ∧ Hid (Half L R m) ∧ Hid (Row .i64 3 wr w.heap.size R) ∧ Hid (Turn (fun _ => False) w wr)) (fun i _ => (intOf i + 1).toNat)
      case atStart => exact ⟨R.length, R, ⟨_, rfl, by rw [HAL.out]; omega⟩, HA, HRow, HT⟩
      case round =>
        clear HM HRow HT HA HAL hi
        obtain ⟨m, R, ⟨i1, rfl, hi1⟩, HH, HRow, HT⟩ := hrel
        have hml := HH.out.size
        rw [HH.out.len] at hml
        by_cases hm : m ≤ 1
        · have hi : i1 ≤ 0 := by omega
          have HD := Lib.hid (HH.out.done hm)
          clear hi1
          go_wp2
          go_ret
          rw [HD.out] at HRow
          refine ⟨_, rfl, ?_, HT.out⟩
          have := HRow.out.own (base := w.heap.size) (Nat.le_refl _) (by rw [sortL_length]; unfold maxLen; omega)
          rw [sortL_length] at this ⊢
          exact this
        · obtain ⟨k, rfl⟩ : ∃ k, m = k + 1 := ⟨m - 1, by omega⟩
          obtain rfl : i1 = (k : Int) := by omega
          have hk0 : 0 < k := by omega
          have hkl : k < L.length := by omega
          have hk1 : k ≤ L.length := by omega
          clear hi1 hm hml
          have HLen := Lib.hid HH.out.len
          have HM := Lib.hid (HH.out.mid hk0)
          have c0 := HRow.out.cell (i := 0) (by rw [HLen.out]; omega)
          have ck := HRow.out.cell (i := k) (by rw [HLen.out]; omega)
          have f0 := HRow.out.frozen 0
          have fk := HRow.out.frozen k
          have HR2 := Lib.hid (row_swp (a := 0) (b := k) HRow.out)
          obtain ⟨x, hx⟩ : ∃ x, x = gt R 0 := ⟨_, rfl⟩
          obtain ⟨y, hy⟩ : ∃ y, y = gt R k := ⟨_, rfl⟩
          rw [show R.getD 0 0 = gt R 0 from rfl, ← hx] at c0
          rw [show R.getD k 0 = gt R k from rfl, ← hy] at ck
          rw [← hx, ← hy] at HR2
          clear hx hy
          go_wp2
          go_region
          all_goals
            go_wp2_with fail
            refine (sink0_any (len := k) (R := swp R 0 k) _ (row_drew HR2.out) HM.out.2 (by rw [swp_length, HLen.out]; omega) HM.out.1).mono ?_
            rintro e w5 ⟨rfl, R5, r5, s5, h5, t5⟩
            have HN := Lib.hid (HH.out.next hk0 s5 h5)
            have HR5 := Lib.hid r5
            have HT5 := Lib.hid (((HT.out.setCell (p := ⟨w.heap.size, 0, none⟩) (Or.inr (Nat.le_refl _)) _).setCell (p := ⟨w.heap.size, k, none⟩) (Or.inr (Nat.le_refl _)) _).drew.and t5 (fun i hi e => by omega))
            clear r5 s5 h5 t5
            go_wp2
            go_roundw
            case rel => exact ⟨k, R5, ⟨_, rfl, by omega⟩, HN, HR5, HT5⟩
            case measure => simp [intOf]
    | succ k =>
      obtain rfl : i0 = (k : Int) := by omega
      clear hi0
      have hk := HM.out.2.2
      have HPL := Lib.hid HM.out.1.length_eq
      go_wp2_with fail
      refine (sink_any (len := L.length) (lo := k) (R := R) _ HRow.out (by rw [HPL.out]; omega) (by rw [HPL.out]; omega) (by omega) HM.out.2.1).mono ?_
      rintro e w5 ⟨rfl, R5, r5, s5, h5, t5⟩
      have HN := Lib.hid (making_next HM.out s5 h5)
      have HR5 := Lib.hid r5
      have HT5 := Lib.hid (HT.out.and t5 (fun i hi e => by omega))
      clear r5 s5 h5 t5
      go_wp2
      go_roundw
      case rel => exact ⟨k, R5, ⟨_, rfl, by omega⟩, HN, HR5, HT5⟩
      case measure => simp [intOf]

end Go.Proofs.Ytcnmkbmhkcgejaa
