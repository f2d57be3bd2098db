/- The contracts of Is, of the document's Is, and of places. -/
import Derived.Test.YtlnjomjeafmobaaSmall
namespace Go.Proofs.Ytlnjomjeafmobaa
open Go.RowKit
set_option linter.unusedVariables false

set_option maxHeartbeats 1000000 in
theorem ris_any {ao : Option Addr} {cap : Nat} {L : List Int} (w : World) (hr : Ints .i64 w ao L) (hl : L.length ≤ 1000) :
    Calls Try.prog 15 #[.slice ao L.length cap] w fun e w' => e = .returned (.bool (ordB L)) ∧ w = w' := by
  have HR := Lib.hid hr
  clear hr
  go_enter Try.func15, Try.ntmps15
  go_wp2
  go_loop [9] (fun i => ∃ k : Nat, k ≤ L.length ∧ i = .int .i64 k ∧ Hid (∀ j : Nat, j < k → L.count (j : Int) = 1)) (fun i => L.length - (intOf i).toNat)
  case atStart => exact ⟨0, Nat.zero_le _, rfl, fun j hj => by omega⟩
  case round =>
    obtain ⟨k, hk, rfl, HD⟩ := hrel
    by_cases hlt : k < L.length
    · go_wp2
      go_loop [4, 14] (fun c i => ∃ j : Nat, j ≤ L.length ∧ i = .int .i64 j ∧ c = .int .i64 ((L.take j).count (k : Int))) (fun _ i => L.length - (intOf i).toNat)
      case atStart => exact ⟨0, Nat.zero_le _, rfl, by simp⟩
      case round =>
        obtain ⟨j, hj, rfl, rfl⟩ := hrel
        by_cases hjl : j < L.length
        · obtain ⟨ad, ha, hc⟩ := HR.out j hjl
          subst ha
          have HN := Lib.hid (count_next L j (k : Int) hjl)
          have hcl : (L.take j).count (k : Int) ≤ 1000 := Nat.le_trans List.count_le_length (by simp; omega)
          obtain ⟨x, hx⟩ : ∃ x, x = L.getD j 0 := ⟨_, rfl⟩
          obtain ⟨c, hcc⟩ : ∃ c, c = (L.take j).count (k : Int) := ⟨_, rfl⟩
          rw [← hx] at hc HN
          rw [← hcc] at HN hcl ⊢
          clear hx hcc
          by_cases he : x = (k : Int)
          · have HE := Lib.hid (HN.out.trans (by rw [if_pos he]))
            subst he
            go_wp2
            go_round
            case rel => exact ⟨j + 1, by omega, by go_num, by rw [HE.out]; go_num⟩
            case measure => simp [intOf]; omega
          · have HE := Lib.hid (HN.out.trans (by rw [if_neg he]))
            have hb : (x == (k : Int)) = false := by rw [beq_eq_false_iff_ne]; exact he
            clear he
            go_wp2
            go_round
            case rel => exact ⟨j + 1, by omega, by go_num, by rw [HE.out]; rfl⟩
            case measure => simp [intOf]; omega
        · obtain rfl : j = L.length := by omega
          rw [List.take_length]
          have hcl : L.count (k : Int) ≤ 1000 := Nat.le_trans List.count_le_length (by omega)
          by_cases h1 : L.count (k : Int) = 1
          · have H1 := Lib.hid h1
            rw [h1]
            clear h1
            go_wp2
            go_round
            case rel => exact ⟨k + 1, by omega, by go_num, fun i hi => by
              by_cases e : i = k
              · rw [e]; exact H1.out
              · exact HD.out i (by omega)⟩
            case measure => simp [intOf]; omega
          · have HF := Lib.hid (show ordB L = false by
              unfold ordB
              rw [decide_eq_false_iff_not]
              intro h
              exact h1 (h k hlt))
            obtain ⟨c, hcc⟩ : ∃ c, c = L.count (k : Int) := ⟨_, rfl⟩
            rw [← hcc] at h1 hcl ⊢
            have hne : ((c : Int) != 1) = true := by simp; omega
            clear hcc h1
            go_wp2
            go_ret
            exact ⟨ret_bool HF.out.symm, rfl⟩
    · obtain rfl : k = L.length := by omega
      have HF := Lib.hid (show ordB L = true by unfold ordB; rw [decide_eq_true_iff]; exact HD.out)
      go_wp2
      go_ret
      exact ⟨ret_bool HF.out.symm, rfl⟩

/-- What places answers. -/
def Places (L : List Int) (w : World) (e : Ending) (w' : World) : Prop :=
  Turn (fun _ => False) w w' ∧ ((IsOrd L ∧ ∃ g A, e = .returned (.tuple #[.slice (some ⟨g, 0, none⟩) L.length L.length, .bool true]) ∧ w.heap.size ≤ g ∧ Row w' g A ∧ Half L A L.length) ∨
    (¬ IsOrd L ∧ e = .returned (.tuple #[.slice none 0 0, .bool false])))
theorem Places.no {L : List Int} {w w' : World} (h : ¬ IsOrd L) (t : Turn (fun _ => False) w w') : Places L w (.returned (.tuple #[.slice none 0 0, .bool false])) w' := ⟨t, .inr ⟨h, rfl⟩⟩

set_option maxHeartbeats 2000000 in
theorem places_any {ao : Option Addr} {cap : Nat} {L : List Int} (w : World) (hr : Ints .i64 w ao L) (hl : L.length ≤ 1000) :
    Calls Try.prog 21 #[.slice ao L.length cap] w (Places L w) := by
  have HR := Lib.hid hr
  clear hr
  go_enter Try.func21, Try.ntmps21
  go_wp2_with (with_reducible refine wpList_make_ints rfl (.tmp 9) (.tmp 9) rfl L.length rfl rfl (by omega) ?_; intro w1 R1 T1 hs1)
  go_loopw [13] (fun i wr => ∃ k : Nat, k ≤ L.length ∧ i = .int .i64 k ∧ Row wr w.heap.size (fill L.length k) ∧ Turn (fun _ => False) w wr) (fun i _ => L.length - (intOf i).toNat)
  case atStart => exact ⟨0, Nat.zero_le _, rfl, by simpa [fill] using R1.out, T1⟩
  case round =>
    obtain ⟨k, hk, rfl, hrow, ht⟩ := hrel
    clear R1 T1
    have HRow := Lib.hid hrow
    have HT := Lib.hid ht
    clear hrow ht
    have hfl := fill_length L.length k hk
    by_cases hlt : k < L.length
    · have HS := Lib.hid (fill_succ L.length k hlt)
      have c0 := HRow.out.cell (i := k) (by omega)
      have f0 := HRow.out.frozen k
      obtain ⟨y, hy⟩ : ∃ y, y = (fill L.length k).getD k 0 := ⟨_, rfl⟩
      rw [← hy] at c0
      clear hy
      go_wp2
      go_roundw
      case rel => exact ⟨k + 1, by omega, by go_num, by rw [← HS.out]; exact HRow.out.set k (-1), HT.out.setCell (Or.inr (Nat.le_refl _)) _⟩
      case measure => simp [intOf]; omega
    · obtain rfl : k = L.length := by omega
      have hst : Hid (Half L (fill L.length L.length) 0) := Lib.hid (by simpa [fill] using Half.start L)
      clear hfl hlt hk
      obtain ⟨B, hB⟩ : ∃ B, B = fill L.length L.length := ⟨_, rfl⟩
      rw [← hB] at HRow hst
      clear hB
      obtain ⟨wo, rfl⟩ : ∃ wo : World, wo = wr := ⟨_, rfl⟩
      go_wp2
      go_loopw [22] (fun i wr => ∃ k : Nat, ∃ A, k ≤ L.length ∧ i = .int .i64 k ∧ Row wr w.heap.size A ∧ Half L A k ∧ Turn (fun _ => False) w wr) (fun i _ => L.length - (intOf i).toNat)
      case atStart => exact ⟨0, B, Nat.zero_le _, rfl, HRow.out, hst.out, HT.out⟩
      case round =>
        obtain ⟨k, A, hk, rfl, hrow, hh, ht⟩ := hrel
        clear HRow HT hst
        have HRow := Lib.hid hrow
        have HT := Lib.hid ht
        have hAl := hh.len
        have HH := Lib.hid hh
        clear hrow ht hh
        by_cases hlt : k < L.length
        · obtain ⟨ad, ha, hc⟩ := HR.out.turn HT.out (fun _ _ => id) k hlt
          subst ha
          have HLow := Lib.hid (fun h => not_ord_low (L := L) hlt h)
          have HHigh := Lib.hid (fun h => not_ord_high (L := L) hlt h)
          have HNext := Lib.hid (fun (m : Nat) (h : gt L k = (m : Int)) => And.intro (HH.out.next hlt h) (HH.out.twice hlt h))
          rw [show gt L k = L.getD k 0 from rfl] at HLow HHigh HNext
          obtain ⟨x, hx⟩ : ∃ x, x = L.getD k 0 := ⟨_, rfl⟩
          rw [← hx] at hc HLow HHigh HNext
          clear hx
          by_cases h1 : x < 0
          · have HNo := Lib.hid (HLow.out h1)
            go_wp2
            go_ret2
            exact Places.no HNo.out HT.out
          by_cases h2 : (L.length : Int) ≤ x
          · have HNo := Lib.hid (HHigh.out h2)
            go_wp2
            go_ret2
            exact Places.no HNo.out HT.out
          obtain ⟨m, rfl⟩ : ∃ m : Nat, x = m := ⟨x.toNat, by omega⟩
          have hm1 : m < L.length := by omega
          have c0 := HRow.out.cell (i := m) (by omega)
          have f0 := HRow.out.frozen m
          have HM := Lib.hid (HNext.out m rfl)
          rw [show gt A m = A.getD m 0 from rfl] at HM
          obtain ⟨y, hy⟩ : ∃ y, y = A.getD m 0 := ⟨_, rfl⟩
          rw [← hy] at c0 HM
          clear hy h1 h2 HLow HHigh HNext
          by_cases h3 : y = -1
          · have HN := Lib.hid (HM.out.1 hm1 h3)
            subst h3
            clear HM
            go_wp2
            go_roundw
            case rel => exact ⟨k + 1, _, by omega, by go_num, HRow.out.set m k, HN.out, HT.out.setCell (Or.inr (Nat.le_refl _)) _⟩
            case measure => simp [intOf]; omega
          · have HNo := Lib.hid (HM.out.2 hm1 h3)
            have hne : (y != -1) = true := by simpa using h3
            clear HM h3
            go_wp2
            go_ret2
            exact Places.no HNo.out HT.out
        · obtain rfl : k = L.length := by omega
          have HO := Lib.hid HH.out.all
          go_wp2
          go_ret2
          exact ⟨HT.out, .inl ⟨HO.out, _, A, rfl, Nat.le_refl _, HRow.out, HH.out⟩⟩

theorem is_any {ao : Option Addr} {cap : Nat} {L : List Int} (w : World) (hr : Ints .i64 w ao L) (hl : L.length ≤ 1000) :
    Calls Try.prog 14 #[.slice ao L.length cap] w fun e w' => e = .returned (.bool (ordB L)) ∧ Turn (fun _ => False) w w' := by
  go_enter Try.func14, Try.ntmps14
  go_wp2_with fail
  refine (places_any w hr hl).mono ?_
  rintro e w1 ⟨t, h⟩
  have T := Lib.hid t
  clear t hr
  rcases h with ⟨ho, g, A, rfl, hg, hrow, hh⟩ | ⟨ho, rfl⟩
  · have HB := Lib.hid ((ordB_iff L).2 ho)
    clear ho hrow hh
    go_wp2
    go_ret
    exact ⟨ret_bool HB.out.symm, T.out⟩
  · have HB := Lib.hid (ordB_no ho)
    clear ho
    go_wp2
    go_ret
    exact ⟨ret_bool HB.out.symm, T.out⟩

end Go.Proofs.Ytlnjomjeafmobaa
