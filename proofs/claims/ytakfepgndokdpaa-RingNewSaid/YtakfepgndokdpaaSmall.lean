/- The contracts of Same and Right; the ring in memory; copied. -/
import Derived.Test.YtakfepgndokdpaaGBase
import Derived.BigQuiet
import Derived.Deep.QuietTactic
import Derived.Outline
import Derived.RegionTactic
import Derived.ChangeAlike
namespace Go.Proofs.Ytakfepgndokdpaa
open Go.RowKit
set_option linter.unusedVariables false

theorem take_next {L M : List Int} {k : Nat} (hl : k < L.length) (hm : k < M.length) (h : L.take k = M.take k) (e : L.getD k 0 = M.getD k 0) : L.take (k + 1) = M.take (k + 1) := by
  rw [List.take_succ_eq_append_getElem hl, List.take_succ_eq_append_getElem hm, h]
  simp [List.getD, hl, hm] at e
  rw [e]

theorem same_any {ao bo : Option Addr} {ca cb : Nat} {L M : List Int} (w : World) (hr : Ints .i64 w ao L) (hq : Ints .i64 w bo M) (hl : L.length ≤ 1000) (hm : M.length ≤ 1000) :
    Calls Try.prog 13 #[.slice ao L.length ca, .slice bo M.length cb] w fun e w' => e = .returned (.bool (decide (L = M))) ∧ ∃ n, w' = w.drewN n := by
  by_cases hlen : L.length = M.length
  · have HR := Lib.hid hr
    have HQ := Lib.hid hq
    clear hr hq
    have HL := Lib.hid hlen
    rw [← hlen] at hm ⊢
    clear hlen
    go_enter Try.func13, Try.ntmps13
    go_wp2
    go_loopw [13] (fun i wr => ∃ k n : Nat, k ≤ L.length ∧ i = .int .i64 k ∧ L.take k = M.take k ∧ wr = w.drewN n) (fun i _ => L.length - (intOf i).toNat)
    case atStart => exact ⟨0, 0, Nat.zero_le _, rfl, by simp, rfl⟩
    case round =>
      obtain ⟨k, n, hk, rfl, ht, rfl⟩ := hrel
      have HT := Lib.hid ht
      clear ht
      by_cases hlt : k < L.length
      · obtain ⟨ad, ha, hc⟩ := HR.out k hlt
        obtain ⟨bd, hb, hd⟩ := HQ.out k (by rw [← HL.out]; exact hlt)
        subst ha
        subst hb
        by_cases he : L.getD k 0 = M.getD k 0
        · have HN := Lib.hid (take_next hlt (by rw [← HL.out]; exact hlt) HT.out he)
          rw [← he] at hd
          obtain ⟨x, hx⟩ : ∃ x, x = L.getD k 0 := ⟨_, rfl⟩
          rw [← hx] at hc hd
          clear hx he
          go_wp2
          go_quiet (fail)
          go_wp2
          go_roundw
          case rel => exact ⟨k + 1, _, by omega, by go_num, HN.out, rfl⟩
          case measure => simp [intOf]; omega
        · have HE := Lib.hid (show decide (L = M) = false by rw [decide_eq_false_iff_not]; intro e; exact he (by rw [e]))
          obtain ⟨x, hx⟩ : ∃ x, x = L.getD k 0 := ⟨_, rfl⟩
          obtain ⟨y, hy⟩ : ∃ y, y = M.getD k 0 := ⟨_, rfl⟩
          rw [← hx, ← hy] at he
          rw [← hx] at hc
          rw [← hy] at hd
          clear hx hy
          have hne : (x != y) = true := by simpa using he
          go_wp2
          go_quiet (fail)
          go_wp2
          go_ret
          exact ⟨ret_bool HE.out.symm, n + nq, by simp⟩
      · obtain rfl : k = L.length := by omega
        have HE := Lib.hid (show L = M by have := HT.out; rwa [List.take_length, HL.out, List.take_length] at this)
        go_wp2
        go_ret
        exact ⟨ret_bool (by simp [HE.out]), _, rfl⟩
  · have he : decide (L = M) = false := by
      rw [decide_eq_false_iff_not]; intro e; exact hlen (by rw [e])
    rw [he]
    clear he
    have hne : ((L.length : Int) != (M.length : Int)) = true := by
      simp; omega
    go_enter Try.func13, Try.ntmps13
    go_wp2
    go_ret
    exact ⟨rfl, 0, rfl⟩
theorem same_eq {ao bo : Option Addr} {ca cb n : Nat} {L : List Int} (w : World) (hr : Ints .i64 w ao L) (hq : Ints .i64 w bo L) (hn : L.length = n) (hl : n ≤ 1000) :
    Calls Try.prog 13 #[.slice ao n ca, .slice bo n cb] w fun e w' => e = .returned (.bool true) ∧ ∃ k, w' = w.drewN k := by
  subst hn
  refine (same_any w hr hq hl hl).mono ?_
  rintro e w' ⟨rfl, k, rfl⟩
  exact ⟨ret_bool (by simp), k, rfl⟩

end Go.Proofs.Ytakfepgndokdpaa
