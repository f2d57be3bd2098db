/- The contracts of Same, copied, Index, Contains, has. -/
import Derived.Test.YtmjenbkhmhpleaaMath
import Derived.BigQuiet
import Derived.Deep.QuietTactic
import Derived.Outline
import Derived.RegionTactic
import Derived.ChangeAlike
namespace Go.Proofs.Ytmjenbkhmhpleaa
open Go.RowKit
set_option linter.unusedVariables false

theorem info_int : (Try.prog.info? 3).map (fun i => (i.zero, i.size, i.bytes)) = some (some (.int .i64 0), 1, 8) := by kernel_rfl
theorem size_int : (Try.prog.info? 3).map (·.size) = some 1 := by kernel_rfl

theorem take_next {L M : List Int} {k : Nat} (hl : k < L.length) (hm : k < M.length) (h : L.take k = M.take k) (e : L.getD k 0 = M.getD k 0) : L.take (k + 1) = M.take (k + 1) := by
  rw [List.take_succ_eq_append_getElem hl, List.take_succ_eq_append_getElem hm, h]
  simp [List.getD, hl, hm] at e
  rw [e]

theorem same_any {ao bo : Option Addr} {ca cb : Nat} {L M : List Int} (w : World) (hr : Ints .i64 w ao L) (hq : Ints .i64 w bo M) (hl : L.length ≤ 1000) (hm : M.length ≤ 1000) :
    Calls Try.prog 24 #[.slice ao L.length ca, .slice bo M.length cb] w fun e w' => e = .returned (.bool (decide (L = M))) ∧ ∃ n, w' = w.drewN n := by
  by_cases hlen : L.length = M.length
  · have HR := Lib.hid hr
    have HQ := Lib.hid hq
    clear hr hq
    have HL := Lib.hid hlen
    rw [← hlen] at hm ⊢
    clear hlen
    go_enter Try.func24, Try.ntmps24
    go_wp2
    go_loopw [13] (fun i wr => ∃ k n : Nat, k ≤ L.length ∧ i = .int .i64 k ∧ L.take k = M.take k ∧ wr = w.drewN n) (fun i _ => L.length - (intOf i).toNat)
    case atStart => exact ⟨0, 0, Nat.zero_le _, rfl, by simp, rfl⟩
    case round =>
      obtain ⟨k, n, hk, rfl, ht, rfl⟩ := hrel
      have HT := Lib.hid ht
      clear ht
      by_cases hlt : k < L.length
      · obtain ⟨ad, ha, hc⟩ := HR.out k hlt
        obtain ⟨bd, hb, hd⟩ := HQ.out k (by rw [← HL.out]; exact hlt)
        subst ha
        subst hb
        by_cases he : L.getD k 0 = M.getD k 0
        · have HN := Lib.hid (take_next hlt (by rw [← HL.out]; exact hlt) HT.out he)
          rw [← he] at hd
          obtain ⟨x, hx⟩ : ∃ x, x = L.getD k 0 := ⟨_, rfl⟩
          rw [← hx] at hc hd
          clear hx he
          go_wp2
          go_quiet (fail)
          go_wp2
          go_roundw
          case rel => exact ⟨k + 1, _, by omega, by go_num, HN.out, rfl⟩
          case measure => simp [intOf]; omega
        · have HE := Lib.hid (show decide (L = M) = false by rw [decide_eq_false_iff_not]; intro e; exact he (by rw [e]))
          obtain ⟨x, hx⟩ : ∃ x, x = L.getD k 0 := ⟨_, rfl⟩
          obtain ⟨y, hy⟩ : ∃ y, y = M.getD k 0 := ⟨_, rfl⟩
          rw [← hx, ← hy] at he
          rw [← hx] at hc
          rw [← hy] at hd
          clear hx hy
          have hne : (x != y) = true := by simpa using he
          go_wp2
          go_quiet (fail)
          go_wp2
          go_ret
          exact ⟨ret_bool HE.out.symm, n + nq, by simp⟩
      · obtain rfl : k = L.length := by omega
        have HE := Lib.hid (show L = M by have := HT.out; rwa [List.take_length, HL.out, List.take_length] at this)
        go_wp2
        go_ret
        exact ⟨ret_bool (by simp [HE.out]), _, rfl⟩
  · have he : decide (L = M) = false := by
      rw [decide_eq_false_iff_not]; intro e; exact hlen (by rw [e])
    rw [he]
    clear he
    have hne : ((L.length : Int) != (M.length : Int)) = true := by
      simp; omega
    go_enter Try.func24, Try.ntmps24
    go_wp2
    go_ret
    exact ⟨rfl, 0, rfl⟩
theorem same_eq {ao bo : Option Addr} {ca cb n : Nat} {L : List Int} (w : World) (hr : Ints .i64 w ao L) (hq : Ints .i64 w bo L) (hn : L.length = n) (hl : n ≤ 1000) :
    Calls Try.prog 24 #[.slice ao n ca, .slice bo n cb] w fun e w' => e = .returned (.bool true) ∧ ∃ k, w' = w.drewN k := by
  subst hn
  refine (same_any w hr hq hl hl).mono ?_
  rintro e w' ⟨rfl, k, rfl⟩
  exact ⟨ret_bool (by simp), k, rfl⟩

theorem copied_any {ao : Option Addr} {cap : Nat} {L : List Int} (w : World) (hr : Ints .i64 w ao L) (hl : L.length ≤ 1000) :
    Calls Try.prog 27 #[.slice ao L.length cap] w fun e w' => e = .returned (.slice (some ⟨w.heap.size, 0, none⟩) L.length L.length) ∧ Row .i64 3 w' w.heap.size L ∧ Turn (fun _ => False) w w' := by
  have HR := Lib.hid hr
  clear hr
  go_enter Try.func27, Try.ntmps27
  go_wp2_with (first
    | (with_reducible refine wpList_make_ints (k := .i64) Try.underlying23 info_int (by decide) rfl (.tmp 5) (.tmp 5) rfl L.length rfl rfl (by omega) ?_; intro w1 R1 T1 hs1)
    | (with_reducible refine wpList_copy_ints (k := .i64) Try.underlying23 size_int rfl (.tmp 7) (.tmp 8) rfl w.heap.size ao cap L.length (List.replicate L.length 0) L rfl rfl R1.out (by simp) (HR.out.turn T1.out (fun _ _ => id)) (fun _ => False) w T1.out (Or.inr (Nat.le_refl _)) ?_; intro w2 R2 U2 T2))
  go_ret
  exact ⟨rfl, R2.out, T2.out⟩

theorem count_next {L : List Int} {k : Nat} (h : k < L.length) (x : Int) : (L.take (k + 1)).count x = (L.take k).count x + if x = L.getD k 0 then 1 else 0 := by
  have e : L.getD k 0 = L[k] := by simp [List.getD, h]
  rw [List.take_succ_eq_append_getElem h, List.count_append, count_one, e]
theorem count_at {L : List Int} {k : Nat} (h : k < L.length) {x : Int} (h0 : L.count x = 0) : x ≠ L.getD k 0 := by
  intro e
  have : 0 < L.count x := by
    rw [e]; exact List.count_pos_iff.2 (getD_mem h)
  omega

theorem index_no {ao : Option Addr} {cap n : Nat} {L : List Int} {x : Int} (w : World) (hr : Ints .i64 w ao L) (hn : L.length = n) (hl : n ≤ 1000) (h0 : L.count x = 0) :
    Calls Try.prog 39 #[.slice ao n cap, .int .i64 x] w fun e w' => e = .returned (.int .i64 (-1)) ∧ w = w' := by
  have HR := Lib.hid hr
  have HN := Lib.hid hn
  have H0 := Lib.hid h0
  clear hr hn h0
  go_enter Try.func39, Try.ntmps39
  go_wp2
  go_loop [8] (fun i => ∃ k : Nat, k ≤ n ∧ i = .int .i64 k) (fun i => n - (intOf i).toNat)
  case atStart => exact ⟨0, Nat.zero_le _, rfl⟩
  case round =>
    obtain ⟨k, hk, rfl⟩ := hrel
    by_cases hlt : k < n
    · obtain ⟨ad, ha, hc⟩ := HR.out k (by rw [HN.out]; exact hlt)
      subst ha
      have hne : (x == L.getD k 0) = false := beq_eq_false_iff_ne.2 (count_at (by rw [HN.out]; exact hlt) H0.out)
      generalize L.getD k 0 = y at hc hne
      go_wp2
      go_round
      case rel => exact ⟨k + 1, by omega, by go_num⟩
      case measure => simp [intOf]; omega
    · go_wp2
      go_ret
      exact ⟨rfl, rfl⟩
def AtSome (n : Nat) (w : World) (e : Ending) (w' : World) : Prop := ∃ k : Nat, k < n ∧ e = .returned (.int .i64 k) ∧ w = w'
theorem index_yes {ao : Option Addr} {cap n : Nat} {L : List Int} {x : Int} (w : World) (hr : Ints .i64 w ao L) (hn : L.length = n) (hl : n ≤ 1000) (h0 : 0 < L.count x) :
    Calls Try.prog 39 #[.slice ao n cap, .int .i64 x] w (AtSome n w) := by
  have HR := Lib.hid hr
  have HN := Lib.hid hn
  have H0 := Lib.hid h0
  clear hr hn h0
  go_enter Try.func39, Try.ntmps39
  go_wp2
  go_loop [8] (fun i => ∃ k : Nat, k ≤ n ∧ i = .int .i64 k ∧ Hid ((L.take k).count x = 0)) (fun i => n - (intOf i).toNat)
  case atStart => exact ⟨0, Nat.zero_le _, rfl, Lib.hid rfl⟩
  case round =>
    obtain ⟨k, hk, rfl, HC⟩ := hrel
    by_cases hlt : k < n
    · obtain ⟨ad, ha, hc⟩ := HR.out k (by rw [HN.out]; exact hlt)
      subst ha
      have HNx := Lib.hid (count_next (L := L) (k := k) (by rw [HN.out]; exact hlt) x)
      by_cases he : x = L.getD k 0
      · have hb : (x == L.getD k 0) = true := by rw [beq_iff_eq]; exact he
        generalize L.getD k 0 = y at hc hb
        clear he HNx
        go_wp2
        go_ret
        exact ⟨k, hlt, rfl, rfl⟩
      · have hb : (x == L.getD k 0) = false := beq_eq_false_iff_ne.2 he
        have HC2 := Lib.hid (show (L.take (k + 1)).count x = 0 by rw [HNx.out, HC.out, if_neg he])
        generalize L.getD k 0 = y at hc hb
        clear he HNx
        go_wp2
        go_round
        case rel => exact ⟨k + 1, by omega, by go_num, HC2⟩
        case measure => simp [intOf]; omega
    · exfalso
      have h1 := HC.out
      rw [List.take_of_length_le (by rw [HN.out]; omega)] at h1
      have := H0.out
      omega

theorem contains_no {ao : Option Addr} {cap n : Nat} {L : List Int} {x : Int} (w : World) (hr : Ints .i64 w ao L) (hn : L.length = n) (hl : n ≤ 1000) (h0 : L.count x = 0) :
    Calls Try.prog 35 #[.slice ao n cap, .int .i64 x] w fun e w' => e = .returned (.bool false) ∧ w = w' := by
  have HR := Lib.hid hr
  have HN := Lib.hid hn
  have H0 := Lib.hid h0
  clear hr hn h0
  go_enter Try.func35, Try.ntmps35
  go_wp2_with fail
  refine (index_no w HR.out HN.out hl H0.out).mono ?_
  rintro e w' ⟨rfl, rfl⟩
  go_wp2
  go_ret
  exact ⟨rfl, rfl⟩
theorem contains_yes {ao : Option Addr} {cap n : Nat} {L : List Int} {x : Int} (w : World) (hr : Ints .i64 w ao L) (hn : L.length = n) (hl : n ≤ 1000) (h0 : 0 < L.count x) :
    Calls Try.prog 35 #[.slice ao n cap, .int .i64 x] w fun e w' => e = .returned (.bool true) ∧ w = w' := by
  have HR := Lib.hid hr
  have HN := Lib.hid hn
  have H0 := Lib.hid h0
  clear hr hn h0
  go_enter Try.func35, Try.ntmps35
  go_wp2_with fail
  refine (index_yes w HR.out HN.out hl H0.out).mono ?_
  rintro e w' ⟨k, hk, rfl, rfl⟩
  go_wp2
  go_ret
  exact ⟨rfl, rfl⟩

theorem has_no {ao : Option Addr} {cap n : Nat} {L : List Int} {x : Int} (w : World) (hr : Ints .i64 w ao L) (hn : L.length = n) (hl : n ≤ 10000) (h0 : L.count x = 0) :
    Calls Try.prog 29 #[.slice ao n cap, .int .i64 x] w fun e w' => e = .returned (.bool false) ∧ w = w' := by
  have HR := Lib.hid hr
  have HN := Lib.hid hn
  have H0 := Lib.hid h0
  clear hr hn h0
  go_enter Try.func29, Try.ntmps29
  go_wp2
  go_loop [9] (fun i => ∃ k : Nat, k ≤ n ∧ i = .int .i64 k) (fun i => n - (intOf i).toNat)
  case atStart => exact ⟨0, Nat.zero_le _, rfl⟩
  case round =>
    obtain ⟨k, hk, rfl⟩ := hrel
    by_cases hlt : k < n
    · obtain ⟨ad, ha, hc⟩ := HR.out k (by rw [HN.out]; exact hlt)
      subst ha
      have hne : (x == L.getD k 0) = false := beq_eq_false_iff_ne.2 (count_at (by rw [HN.out]; exact hlt) H0.out)
      generalize L.getD k 0 = y at hc hne
      go_wp2
      go_round
      case rel => exact ⟨k + 1, by omega, by go_num⟩
      case measure => simp [intOf]; omega
    · go_wp2
      go_ret
      exact ⟨rfl, rfl⟩
theorem has_yes {ao : Option Addr} {cap n : Nat} {L : List Int} {x : Int} (w : World) (hr : Ints .i64 w ao L) (hn : L.length = n) (hl : n ≤ 10000) (h0 : 0 < L.count x) :
    Calls Try.prog 29 #[.slice ao n cap, .int .i64 x] w fun e w' => e = .returned (.bool true) ∧ w = w' := by
  have HR := Lib.hid hr
  have HN := Lib.hid hn
  have H0 := Lib.hid h0
  clear hr hn h0
  go_enter Try.func29, Try.ntmps29
  go_wp2
  go_loop [9] (fun i => ∃ k : Nat, k ≤ n ∧ i = .int .i64 k ∧ Hid ((L.take k).count x = 0)) (fun i => n - (intOf i).toNat)
  case atStart => exact ⟨0, Nat.zero_le _, rfl, Lib.hid rfl⟩
  case round =>
    obtain ⟨k, hk, rfl, HC⟩ := hrel
    by_cases hlt : k < n
    · obtain ⟨ad, ha, hc⟩ := HR.out k (by rw [HN.out]; exact hlt)
      subst ha
      have HNx := Lib.hid (count_next (L := L) (k := k) (by rw [HN.out]; exact hlt) x)
      by_cases he : x = L.getD k 0
      · have hb : (x == L.getD k 0) = true := by rw [beq_iff_eq]; exact he
        generalize L.getD k 0 = y at hc hb
        clear he HNx
        go_wp2
        go_ret
        exact ⟨rfl, rfl⟩
      · have hb : (x == L.getD k 0) = false := beq_eq_false_iff_ne.2 he
        have HC2 := Lib.hid (show (L.take (k + 1)).count x = 0 by rw [HNx.out, HC.out, if_neg he])
        generalize L.getD k 0 = y at hc hb
        clear he HNx
        go_wp2
        go_round
        case rel => exact ⟨k + 1, by omega, by go_num, HC2⟩
        case measure => simp [intOf]; omega
    · exfalso
      have h1 := HC.out
      rw [List.take_of_length_le (by rw [HN.out]; omega)] at h1
      have := H0.out
      omega

end Go.Proofs.Ytmjenbkhmhpleaa
