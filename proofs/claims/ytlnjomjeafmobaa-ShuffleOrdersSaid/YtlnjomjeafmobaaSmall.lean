/- The contracts of Same, Count, First and the document's own. -/
import Derived.Test.YtlnjomjeafmobaaOrd
namespace Go.Proofs.Ytlnjomjeafmobaa
open Go.RowKit
set_option linter.unusedVariables false

theorem take_next {L M : List Int} {k : Nat} (hl : k < L.length) (hm : k < M.length) (h : L.take k = M.take k) (e : L.getD k 0 = M.getD k 0) : L.take (k + 1) = M.take (k + 1) := by
  rw [List.take_succ_eq_append_getElem hl, List.take_succ_eq_append_getElem hm, h]
  simp [List.getD, hl, hm] at e
  rw [e]

theorem same_any {ao bo : Option Addr} {ca cb : Nat} {L M : List Int} (w : World) (hr : Ints .i64 w ao L) (hq : Ints .i64 w bo M) (hl : L.length ≤ 1000) (hm : M.length ≤ 1000) :
    Calls Try.prog 11 #[.slice ao L.length ca, .slice bo M.length cb] w fun e w' => e = .returned (.bool (decide (L = M))) ∧ ∃ n, w' = w.drewN n := by
  by_cases hlen : L.length = M.length
  · have HR := Lib.hid hr
    have HQ := Lib.hid hq
    clear hr hq
    have HL := Lib.hid hlen
    rw [← hlen] at hm ⊢
    clear hlen
    go_enter Try.func11, Try.ntmps11
    go_wp2
    go_loopw [13] (fun i wr => ∃ k n : Nat, k ≤ L.length ∧ i = .int .i64 k ∧ L.take k = M.take k ∧ wr = w.drewN n) (fun i _ => L.length - (intOf i).toNat)
    case atStart => exact ⟨0, 0, Nat.zero_le _, rfl, by simp, rfl⟩
    case round =>
      obtain ⟨k, n, hk, rfl, ht, rfl⟩ := hrel
      have HT := Lib.hid ht
      clear ht
      by_cases hlt : k < L.length
      · obtain ⟨ad, ha, hc⟩ := HR.out k hlt
        obtain ⟨bd, hb, hd⟩ := HQ.out k (by rw [← HL.out]; exact hlt)
        subst ha
        subst hb
        by_cases he : L.getD k 0 = M.getD k 0
        · have HN := Lib.hid (take_next hlt (by rw [← HL.out]; exact hlt) HT.out he)
          rw [← he] at hd
          obtain ⟨x, hx⟩ : ∃ x, x = L.getD k 0 := ⟨_, rfl⟩
          rw [← hx] at hc hd
          clear hx he
          go_wp2
          go_quiet (fail)
          go_wp2
          go_roundw
          case rel => exact ⟨k + 1, _, by omega, by go_num, HN.out, rfl⟩
          case measure => simp [intOf]; omega
        · have HE := Lib.hid (show decide (L = M) = false by rw [decide_eq_false_iff_not]; intro e; exact he (by rw [e]))
          obtain ⟨x, hx⟩ : ∃ x, x = L.getD k 0 := ⟨_, rfl⟩
          obtain ⟨y, hy⟩ : ∃ y, y = M.getD k 0 := ⟨_, rfl⟩
          rw [← hx, ← hy] at he
          rw [← hx] at hc
          rw [← hy] at hd
          clear hx hy
          have hne : (x != y) = true := by simpa using he
          go_wp2
          go_quiet (fail)
          go_wp2
          go_ret
          exact ⟨ret_bool HE.out.symm, n + nq, by simp⟩
      · obtain rfl : k = L.length := by omega
        have HE := Lib.hid (show L = M by have := HT.out; rwa [List.take_length, HL.out, List.take_length] at this)
        go_wp2
        go_ret
        exact ⟨ret_bool (by simp [HE.out]), _, rfl⟩
  · have he : decide (L = M) = false := by
      rw [decide_eq_false_iff_not]; intro e; exact hlen (by rw [e])
    rw [he]
    clear he
    have hne : ((L.length : Int) != (M.length : Int)) = true := by
      simp; omega
    go_enter Try.func11, Try.ntmps11
    go_wp2
    go_ret
    exact ⟨rfl, 0, rfl⟩

set_option maxHeartbeats 1000000 in
theorem count_any (n : Int) (h1 : -9223372036854775808 ≤ n) (h2 : n ≤ 9223372036854775807) (w : World) :
    Calls Try.prog 16 #[.int .i64 n] w fun e w' => e = .returned (.int .i64 (howMany n)) ∧ w = w' := by
  by_cases h : n < 0 ∨ 20 < n
  · have e : howMany n = 0 := if_pos h
    rw [e]
    clear e
    rcases h with h | h
    all_goals
      go_enter Try.func16, Try.ntmps16
      go_wp2
      go_ret
      exact ⟨rfl, rfl⟩
  · obtain ⟨m, rfl⟩ : ∃ m : Nat, n = m := ⟨n.toNat, by omega⟩
    have hm : m ≤ 20 := by omega
    have e : howMany m = fact m := by unfold howMany; rw [if_neg h]; simp
    rw [e]
    clear e h h1 h2
    go_enter Try.func16, Try.ntmps16
    go_wp2
    go_loop [3, 12] (fun c i => ∃ k : Nat, k ≤ m ∧ i = .int .i64 k ∧ c = .int .i64 (fact k)) (fun _ i => m - (intOf i).toNat)
    case atStart => exact ⟨0, Nat.zero_le _, rfl, rfl⟩
    case round =>
      obtain ⟨k, hk, rfl, rfl⟩ := hrel
      have hb := fact_le k (by omega)
      by_cases hlt : k < m
      · have hb2 := fact_le (k + 1) (by omega)
        have HB := Lib.hid hb2
        clear hb2
        go_wp2
        go_round
        case rel => exact ⟨k + 1, by omega, by go_num, by have hb2 := HB.out; rw [fact_cast, IntWalk.wrap64_in _ ⟨by omega, by omega⟩]⟩
        case measure => simp [intOf]; omega
      · obtain rfl : k = m := by omega
        go_wp2
        go_ret
        exact ⟨rfl, rfl⟩

theorem rcount_nat (m : Nat) : ∀ (w : World), m ≤ 20 → Calls Try.prog 17 #[.int .i64 m] w fun e w' => e = .returned (.int .i64 (fact m)) ∧ w = w' := by
  induction m with
  | zero =>
    intro w _
    go_enter Try.func17, Try.ntmps17
    go_wp2_with fail
    go_ret
    exact ⟨rfl, rfl⟩
  | succ m ih =>
    intro w h
    have hb := Lib.hid (fact_le m (by omega))
    have hb2 := Lib.hid (fact_le (m + 1) (by omega))
    have hc := Lib.hid (fact_cast m)
    have hz : (((m : Int) + 1) == 0) = false := by rw [beq_eq_false_iff_ne]; omega
    rw [show ((m + 1 : Nat) : Int) = (m : Int) + 1 by omega]
    go_enter Try.func17, Try.ntmps17
    go_wp2_with (go_at_call 17; refine (ih _ (by omega)).mono ?_; rintro e w' ⟨rfl, rfl⟩)
    go_ret
    exact ⟨ret_int (by have h1 := hb2.out; rw [Int.mul_comm, hc.out, IntWalk.wrap64_in _ ⟨by omega, by omega⟩]), rfl⟩

theorem rcount_any (n : Int) (w : World) :
    Calls Try.prog 17 #[.int .i64 n] w fun e w' => e = .returned (.int .i64 (howMany n)) ∧ w = w' := by
  by_cases h : n < 0 ∨ 20 < n
  · have e : howMany n = 0 := if_pos h
    rw [e]
    clear e
    rcases h with h | h
    all_goals
      go_enter Try.func17, Try.ntmps17
      go_wp2
      go_ret
      exact ⟨rfl, rfl⟩
  · obtain ⟨m, rfl⟩ : ∃ m : Nat, n = m := ⟨n.toNat, by omega⟩
    have e : howMany m = fact m := by unfold howMany; rw [if_neg h]; simp
    rw [e]
    exact rcount_nat m w (by omega)

/-- The slice at ao reads as the bools L. -/
def Bools (w : World) (ao : Option Addr) (L : List Bool) : Prop :=
  ∀ j, j < L.length → ∃ a, ao = some a ∧ w.cell? (a.add j) = some (.bool (L.getD j false))
theorem Bools.turn {S : Nat → Prop} {a b : World} {ao : Option Addr} {L : List Bool} (h : Bools a ao L) (t : Turn S a b) (hs : ∀ ad, ao = some ad → ¬ S ad.block) : Bools b ao L := by
  intro j hj
  obtain ⟨ad, e, hc⟩ := h j hj
  refine ⟨ad, e, t.cell ?_ hc⟩
  rw [block_add]
  exact hs ad e

theorem ret_pair {a b : Int} {c d : Bool} (h : a = b) (h' : c = d) : Ending.returned (.tuple #[.int .i64 a, .bool c]) = .returned (.tuple #[.int .i64 b, .bool d]) := by rw [h, h']

theorem okB_lo {may : List Bool} {x : Int} (h : x < 0) : okB may x = false := by
  unfold okB
  rw [decide_eq_false (by omega : ¬ 0 ≤ x)]; rfl
theorem okB_hi {may : List Bool} {x : Int} (h : (may.length : Int) ≤ x) : okB may x = false := by
  unfold okB
  rw [decide_eq_false (by omega : ¬ x < (may.length : Int))]; simp
theorem okB_in {may : List Bool} {m : Nat} (h : m < may.length) : okB may m = may.getD m false := by
  unfold okB
  rw [decide_eq_true (by omega : (0 : Int) ≤ m), decide_eq_true (by omega : (m : Int) < may.length)]; simp

set_option maxHeartbeats 1000000 in
theorem first_any {ao bo : Option Addr} {ca cb : Nat} {L : List Int} {M : List Bool} (w : World) (hr : Ints .i64 w ao L) (hq : Bools w bo M) (hl : L.length ≤ 1000) (hm : M.length ≤ 1000) :
    Calls Try.prog 18 #[.slice ao L.length ca, .slice bo M.length cb] w fun e w' => e = .returned (.tuple #[.int .i64 (firstL M L), .bool (someL M L)]) ∧ w = w' := by
  have HR := Lib.hid hr
  have HQ := Lib.hid hq
  clear hr hq
  go_enter Try.func18, Try.ntmps18
  go_wp2
  go_loop [10] (fun i => ∃ k : Nat, k ≤ L.length ∧ i = .int .i64 k ∧ L.find? (okB M) = (L.drop k).find? (okB M)) (fun i => L.length - (intOf i).toNat)
  case atStart => exact ⟨0, Nat.zero_le _, rfl, by simp⟩
  case round =>
    obtain ⟨k, hk, rfl, ht⟩ := hrel
    have HT := Lib.hid ht
    clear ht
    by_cases hlt : k < L.length
    · obtain ⟨ad, ha, hc⟩ := HR.out k hlt
      subst ha
      have HN := Lib.hid (fun h => find_drop (okB M) L k hlt h HT.out)
      have HH := Lib.hid (fun h => find_here (okB M) L k hlt h HT.out)
      obtain ⟨x, hx⟩ : ∃ x, x = L.getD k 0 := ⟨_, rfl⟩
      rw [← hx] at hc HN HH
      clear hx
      by_cases h1 : x < 0
      · have HO := Lib.hid (okB_lo (may := M) h1)
        go_wp2
        go_round
        case rel => exact ⟨k + 1, by omega, by go_num, HN.out HO.out⟩
        case measure => simp [intOf]; omega
      by_cases h2 : (M.length : Int) ≤ x
      · have HO := Lib.hid (okB_hi h2)
        go_wp2
        go_round
        case rel => exact ⟨k + 1, by omega, by go_num, HN.out HO.out⟩
        case measure => simp [intOf]; omega
      obtain ⟨m, rfl⟩ : ∃ m : Nat, x = m := ⟨x.toNat, by omega⟩
      have hm1 : m < M.length := by omega
      obtain ⟨bd, hb, hd⟩ := HQ.out m hm1
      subst hb
      have HO := Lib.hid (okB_in hm1)
      obtain ⟨b, hb⟩ : ∃ b, b = M.getD m false := ⟨_, rfl⟩
      rw [← hb] at hd HO
      clear hb h1 h2
      cases b
      · go_wp2
        go_round
        case rel => exact ⟨k + 1, by omega, by go_num, HN.out HO.out⟩
        case measure => simp [intOf]; omega
      · have HF := Lib.hid (HH.out HO.out)
        go_wp2
        go_ret2
        exact ⟨ret_pair (by unfold firstL; rw [HF.out]; rfl) (by unfold someL; rw [HF.out]; rfl), rfl⟩
    · obtain rfl : k = L.length := by omega
      have HF := Lib.hid (find_end (okB M) L HT.out)
      go_wp2
      go_ret2
      exact ⟨ret_pair (by unfold firstL; rw [HF.out]; rfl) (by unfold someL; rw [HF.out]; rfl), rfl⟩

set_option maxHeartbeats 1000000 in
theorem rfirst_any {ao bo : Option Addr} {ca cb : Nat} {L : List Int} {M : List Bool} (w : World) (hr : Ints .i64 w ao L) (hq : Bools w bo M) (hl : L.length ≤ 1000) (hm : M.length ≤ 1000) :
    Calls Try.prog 19 #[.slice ao L.length ca, .slice bo M.length cb] w fun e w' => e = .returned (.tuple #[.int .i64 (firstL M L), .bool (someL M L)]) ∧ w = w' := by
  have HR := Lib.hid hr
  have HQ := Lib.hid hq
  clear hr hq
  go_enter Try.func19, Try.ntmps19
  go_wp2
  go_loop [10] (fun i => ∃ k : Nat, k ≤ L.length ∧ i = .int .i64 k ∧ L.find? (okB M) = (L.drop k).find? (okB M)) (fun i => L.length - (intOf i).toNat)
  case atStart => exact ⟨0, Nat.zero_le _, rfl, by simp⟩
  case round =>
    obtain ⟨k, hk, rfl, ht⟩ := hrel
    have HT := Lib.hid ht
    clear ht
    by_cases hlt : k < L.length
    · obtain ⟨ad, ha, hc⟩ := HR.out k hlt
      subst ha
      have HN := Lib.hid (fun h => find_drop (okB M) L k hlt h HT.out)
      have HH := Lib.hid (fun h => find_here (okB M) L k hlt h HT.out)
      obtain ⟨x, hx⟩ : ∃ x, x = L.getD k 0 := ⟨_, rfl⟩
      rw [← hx] at hc HN HH
      clear hx
      by_cases h1 : x < 0
      · have HO := Lib.hid (okB_lo (may := M) h1)
        go_wp2
        go_round
        case rel => exact ⟨k + 1, by omega, by go_num, HN.out HO.out⟩
        case measure => simp [intOf]; omega
      by_cases h2 : (M.length : Int) ≤ x
      · have HO := Lib.hid (okB_hi h2)
        go_wp2
        go_round
        case rel => exact ⟨k + 1, by omega, by go_num, HN.out HO.out⟩
        case measure => simp [intOf]; omega
      obtain ⟨m, rfl⟩ : ∃ m : Nat, x = m := ⟨x.toNat, by omega⟩
      have hm1 : m < M.length := by omega
      obtain ⟨bd, hb, hd⟩ := HQ.out m hm1
      subst hb
      have HO := Lib.hid (okB_in hm1)
      obtain ⟨b, hb⟩ : ∃ b, b = M.getD m false := ⟨_, rfl⟩
      rw [← hb] at hd HO
      clear hb h1 h2
      cases b
      · go_wp2
        go_round
        case rel => exact ⟨k + 1, by omega, by go_num, HN.out HO.out⟩
        case measure => simp [intOf]; omega
      · have HF := Lib.hid (HH.out HO.out)
        go_wp2
        go_ret2
        exact ⟨ret_pair (by unfold firstL; rw [HF.out]; rfl) (by unfold someL; rw [HF.out]; rfl), rfl⟩
    · obtain rfl : k = L.length := by omega
      have HF := Lib.hid (find_end (okB M) L HT.out)
      go_wp2
      go_ret2
      exact ⟨ret_pair (by unfold firstL; rw [HF.out]; rfl) (by unfold someL; rw [HF.out]; rfl), rfl⟩

end Go.Proofs.Ytlnjomjeafmobaa
