/- The contracts of package shuffle's Order and what it calls. -/
import Derived.Test.YtlnjomjeafmobaaBase
import Derived.Test.YtlnjomjeafmobaaMath
import Derived.Laws.CopyOwn
import Derived.BigQuiet
import Derived.Deep.QuietTactic
import Derived.Outline
namespace Go.Proofs.Ytlnjomjeafmobaa
open Go.RowKit
set_option linter.unusedVariables false

theorem ret_int {k : IntKind} {a b : Int} (h : a = b) : Ending.returned (.int k a) = .returned (.int k b) := by rw [h]
theorem ret_bool {a b : Bool} (h : a = b) : Ending.returned (.bool a) = .returned (.bool b) := by rw [h]

theorem tmod_neg (d : Int) (n : Nat) (h : d < 0) (hn : 0 < n) : -(n : Int) < d.tmod n ∧ d.tmod n ≤ 0 ∧ (d.tmod n = 0 → d % (n : Int) = 0) ∧ (d.tmod n < 0 → d % (n : Int) = d.tmod n + n) := by
  have h1 : d.tmod n = -((-d) % (n : Int)) := by
    rw [← Int.tmod_eq_emod_of_nonneg (by omega), Int.neg_tmod]; omega
  have h2 := Int.emod_nonneg (-d) (b := (n : Int)) (by omega)
  have h3 := Int.emod_lt_of_pos (-d) (b := (n : Int)) (by omega)
  have h4 : d = -((-d) % (n : Int)) + n * (-((-d) / n)) := by
    have := Int.emod_add_mul_ediv (-d) n
    rw [Int.mul_neg]; omega
  refine ⟨by omega, by omega, fun e => ?_, fun e => ?_⟩
  · rw [h4, Int.add_mul_emod_self_left]
    rw [show -(-d % (n : Int)) = 0 by omega]; simp
  · have h5 : d = (d.tmod n + n) + n * (-((-d) / n) - 1) := by rw [Int.mul_sub, h1]; omega
    conv => lhs; rw [h5]
    rw [Int.add_mul_emod_self_left, Int.emod_eq_of_lt (by omega) (by omega)]

theorem counts_any (d : Int) (i : Nat) (hi : i ≤ 1000) (h1 : -9223372036854775808 ≤ d) (h2 : d ≤ 9223372036854775807) (w : World) :
    Calls Try.prog 22 #[.int .i64 d, .int .i64 i] w fun e w' => e = .returned (.int .i64 (cnt d (i + 1))) ∧ w = w' := by
  have hc := cnt_cast d (i + 1) (by omega)
  have hlt := cnt_lt d (i + 1) (by omega)
  rw [hc]
  have HC := Lib.hid hc
  clear hc
  by_cases h0 : 0 ≤ d
  · have hm := Int.emod_nonneg d (b := (i : Int) + 1) (by omega)
    have hn : ¬ (d % ((i : Int) + 1) < 0) := by omega
    have hz : ¬ ((i : Int) + 1 = 0) := by omega
    go_enter Try.func22, Try.ntmps22
    go_wp2
    go_ret
    exact ⟨rfl, rfl⟩
  · obtain ⟨t1, t2, t3, t4⟩ := tmod_neg d (i + 1) (by omega) (by omega)
    rw [show ((i + 1 : Nat) : Int) = (i : Int) + 1 by omega] at *
    have hz : ¬ ((i : Int) + 1 = 0) := by omega
    have T3 := Lib.hid t3
    have T4 := Lib.hid t4
    clear t3 t4
    by_cases hl : d.tmod ((i : Int) + 1) < 0
    · go_enter Try.func22, Try.ntmps22
      go_wp2
      go_ret
      exact ⟨ret_int (T4.out hl).symm, rfl⟩
    · go_enter Try.func22, Try.ntmps22
      go_wp2
      go_ret
      exact ⟨ret_int (by rw [T3.out (by omega)]; omega), rfl⟩

/-- A slice of integers that is read, each of 64 bits. -/
def Wf (L : List Int) : Prop := ∀ x ∈ L, -9223372036854775808 ≤ x ∧ x ≤ 9223372036854775807
theorem Wf.at_ {L : List Int} (h : Wf L) {i : Nat} (hi : i < L.length) : -9223372036854775808 ≤ L.getD i 0 ∧ L.getD i 0 ≤ 9223372036854775807 := h _ (getD_mem hi)

set_option maxHeartbeats 1000000 in
theorem order_any {ao : Option Addr} {cap : Nat} {D : List Int} (w : World) (hr : Ints .i64 w ao D) (hl : D.length ≤ 1000) (hw : Wf D) :
    Calls Try.prog 12 #[.slice ao D.length cap] w fun e w' => ∃ v, e = .returned v ∧ Fresh w w' v (ordL D) := by
  have HR := Lib.hid hr
  have HW := Lib.hid hw
  clear hr hw
  go_enter Try.func12, Try.ntmps12
  go_wp2_with (with_reducible refine wpList_make_ints rfl (.tmp 7) (.tmp 7) rfl D.length rfl rfl (by omega) ?_; intro w1 R1 T1 hs1)
  go_loopw [11] (fun i wr => ∃ k : Nat, k ≤ D.length ∧ i = .int .i64 k ∧ Row wr w.heap.size (part D k) ∧ Turn (fun _ => False) w wr) (fun i _ => D.length - (intOf i).toNat)
  case atStart => exact ⟨0, Nat.zero_le _, rfl, by rw [part_zero]; exact R1, T1⟩
  case round =>
    obtain ⟨k, hk, rfl, hrow, ht⟩ := hrel
    clear R1 T1
    have HRow := Lib.hid hrow
    have HT := Lib.hid ht
    clear hrow ht
    have hpl := part_length D k hk
    by_cases hlt : k < D.length
    · obtain ⟨ad, hao, hc⟩ := HR.out.turn HT.out (fun _ _ => id) k hlt
      subst hao
      have hwf := HW.out.at_ hlt
      have HS := Lib.hid (part_succ D k hlt)
      have hcl := cnt_lt (D.getD k 0) (k + 1) (by omega)
      obtain ⟨x, hx⟩ : ∃ x, x = D.getD k 0 := ⟨_, rfl⟩
      rw [← hx] at hc hwf HS hcl
      have HX := Lib.hid hx
      clear hx
      obtain ⟨P, hP⟩ : ∃ P, P = part D k := ⟨_, rfl⟩
      rw [← hP] at HRow HS hpl
      clear hP
      go_wp2_with fail
      refine (counts_any x k (by omega) hwf.1 hwf.2 _).mono ?_
      rintro e w2 ⟨rfl, rfl⟩
      obtain ⟨c, hcc⟩ : ∃ c, c = cnt x (k + 1) := ⟨_, rfl⟩
      rw [← hcc] at HS hcl ⊢
      clear hcc
      have c0 := HRow.out.cell (i := c) (by omega)
      have c1 := HRow.out.cell (i := k) (by omega)
      have f1 := HRow.out.frozen k
      obtain ⟨y, hy⟩ : ∃ y, y = P.getD c 0 := ⟨_, rfl⟩
      obtain ⟨z, hz⟩ : ∃ z, z = P.getD k 0 := ⟨_, rfl⟩
      have HS' : Hid ((P.set k y).set c (k : Int) = part D (k + 1)) := by rw [hy]; exact HS.out
      rw [← hy] at c0
      rw [← hz] at c1
      clear hy hz HS
      have R2 := Lib.hid (HRow.out.set k y)
      have c2 := R2.out.cell (i := c) (by simp; omega)
      have f2 := R2.out.frozen c
      obtain ⟨u, hu⟩ : ∃ u, u = (P.set k y).getD c 0 := ⟨_, rfl⟩
      rw [← hu] at c2
      clear hu
      go_wp2
      go_roundw
      case rel => exact ⟨k + 1, by omega, by go_num, by rw [← HS'.out]; exact R2.out.set c k, (HT.out.setCell (Or.inr (Nat.le_refl _)) _).setCell (Or.inr (Nat.le_refl _)) _⟩
      case measure => simp [intOf]; omega
    · obtain rfl : k = D.length := by omega
      go_wp2
      go_ret
      rw [part_all] at HRow
      refine ⟨_, rfl, ?_, HT.out⟩
      have := HRow.out.own (base := w.heap.size) (Nat.le_refl _) (by rw [ordL_length]; unfold maxLen; omega)
      simpa [ordL_length] using this

end Go.Proofs.Ytlnjomjeafmobaa
