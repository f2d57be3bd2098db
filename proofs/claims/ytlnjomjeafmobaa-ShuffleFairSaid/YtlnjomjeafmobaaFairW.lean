/- The walk of ShuffleFair. -/
import Derived.Test.YtlnjomjeafmobaaAllW
import Derived.Test.YtlnjomjeafmobaaFair
namespace Go.Proofs.Ytlnjomjeafmobaa
open Go.RowKit
set_option linter.unusedVariables false

theorem count_true_next (M : List Bool) (j : Nat) (h : j < M.length) : (M.take (j + 1)).count true = (M.take j).count true + if M.getD j false = true then 1 else 0 := by
  rw [List.take_succ_eq_append_getElem h, List.count_append]
  have e : M.getD j false = M[j] := by simp [List.getD, h]
  rw [e]
  cases M[j] <;> simp

theorem fair_long {ao : Option Addr} {lL cap : Nat} (w : World) (h : 6 < lL) (hL : lL ≤ maxLen) :
    Calls Try.prog 7 #[.slice ao lL cap] w fun e w' => e = .returned (.bool true) ∧ Turn (fun _ => False) w w' := by
  unfold maxLen at hL
  go_enter Try.func7, Try.ntmps7
  go_wp2_with fail
  refine (alive_any _).mono ?_
  rintro e w1 ⟨rfl, t1⟩
  go_wp2_with fail
  go_ret
  exact ⟨rfl, t1⟩

theorem first_yes {ao bo : Option Addr} {ca cb n m : Nat} {L : List Int} {M : List Bool} {y : Nat} (w : World) (hr : Ints .i64 w ao L) (hq : Bools w bo M) (hn : L.length = n) (hmm : M.length = m) (hl : n ≤ 1000) (hm : m ≤ 1000) (hf : L.find? (okB M) = some (y : Int)) :
    Calls Try.prog 18 #[.slice ao n ca, .slice bo m cb] w fun e w' => e = .returned (.tuple #[.int .i64 y, .bool true]) ∧ w = w' := by
  subst hn
  subst hmm
  refine (first_any w hr hq hl hm).mono ?_
  rintro e w' ⟨rfl, rfl⟩
  exact ⟨ret_pair (by unfold firstL; rw [hf]; rfl) (by unfold someL; rw [hf]; rfl), rfl⟩
theorem first_no {ao bo : Option Addr} {ca cb n m : Nat} {L : List Int} {M : List Bool} (w : World) (hr : Ints .i64 w ao L) (hq : Bools w bo M) (hn : L.length = n) (hmm : M.length = m) (hl : n ≤ 1000) (hm : m ≤ 1000) (hf : L.find? (okB M) = none) :
    Calls Try.prog 18 #[.slice ao n ca, .slice bo m cb] w fun e w' => e = .returned (.tuple #[.int .i64 0, .bool false]) ∧ w = w' := by
  subst hn
  subst hmm
  refine (first_any w hr hq hl hm).mono ?_
  rintro e w' ⟨rfl, rfl⟩
  exact ⟨ret_pair (by unfold firstL; rw [hf]; rfl) (by unfold someL; rw [hf]; rfl), rfl⟩

set_option maxHeartbeats 4000000 in
theorem fair_any {ao : Option Addr} {cap : Nat} {M : List Bool} (w : World) (hq : Bools w ao M) (hm : M.length ≤ 6) :
    Calls Try.prog 7 #[.slice ao M.length cap] w fun e w' => e = .returned (.bool true) ∧ Turn (fun _ => False) w w' := by
  have HQ := Lib.hid hq
  have HAL := Lib.hid (allL_length M.length)
  have hfl := fact_le720 M.length hm
  have hpos : 0 < fact M.length := by have := fact_le M.length (by omega); omega
  clear hq
  go_enter Try.func7, Try.ntmps7
  go_wp2_with fail
  refine (alive_any _).mono ?_
  rintro e w1 ⟨rfl, t1⟩
  have T1 := Lib.hid t1
  have Q1 := Lib.hid (HQ.out.turn t1 (fun _ _ => id))
  clear t1 HQ
  go_wp2_with fail
  go_loop [3, 21] (fun c i => ∃ j : Nat, j ≤ M.length ∧ i = .int .i64 j ∧ c = .int .i64 ((M.take j).count true)) (fun _ i => M.length - (intOf i).toNat)
  case atStart => exact ⟨0, Nat.zero_le _, rfl, by simp⟩
  case round =>
    obtain ⟨j, hj, rfl, rfl⟩ := hrel
    by_cases hlt : j < M.length
    · obtain ⟨ad, ha, hc⟩ := Q1.out j hlt
      subst ha
      have HN := Lib.hid (count_true_next M j hlt)
      have hcl : (M.take j).count true ≤ 6 := Nat.le_trans List.count_le_length (by simp; omega)
      obtain ⟨c, hcc⟩ : ∃ c, c = (M.take j).count true := ⟨_, rfl⟩
      rw [← hcc] at HN hcl ⊢
      obtain ⟨b, hb⟩ : ∃ b, b = M.getD j false := ⟨_, rfl⟩
      rw [← hb] at HN hc
      clear hcc hb
      cases b
      · have HE : Hid ((M.take (j + 1)).count true = c) := Lib.hid (HN.out.trans (by simp))
        go_wp2
        go_round
        case rel => exact ⟨j + 1, by omega, by go_num, by rw [HE.out]⟩
        case measure => simp [intOf]; omega
      · have HE : Hid ((M.take (j + 1)).count true = c + 1) := Lib.hid (HN.out.trans (by simp))
        go_wp2
        go_round
        case rel => exact ⟨j + 1, by omega, by go_num, by rw [HE.out]; go_num⟩
        case measure => simp [intOf]; omega
    · obtain rfl : j = M.length := by omega
      rw [List.take_length]
      have hcl : M.count true ≤ 6 := Nat.le_trans List.count_le_length hm
      have HC0 := Lib.hid (fun h => count_zero_at (M := M) h)
      have HC1 := Lib.hid (fun h => count_pos_at (M := M) h)
      have HW := Lib.hid (fun i hi hm => fair_want M (i := i) hi hm)
      obtain ⟨c, hcc⟩ : ∃ c, c = M.count true := ⟨_, rfl⟩
      rw [← hcc] at HC0 HC1 HW hcl ⊢
      clear hcc hlt hj
      go_wp2_with (first
        | (with_reducible refine wpList_make_ints rfl (.tmp 30) (.tmp 30) rfl M.length rfl rfl (by omega) ?_; intro w2 R2 T2 hs2)
        | (go_at_call 20; refine (all_any M.length _ hm).mono ?_; rintro e w3 ⟨v3, rfl, l3, t3⟩; obtain ⟨g3, c3, hv3⟩ := l3.form (by rw [HAL.out]; exact hpos); subst hv3; rw [HAL.out] at l3 ⊢; have L3 := Lib.hid l3; have T3 := Lib.hid t3; clear l3 t3))
      have hw2 := T2.out.size
      have R3 := Lib.hid (R2.out.turn T3.out id)
      have T13 := Lib.hid (T2.out.trans T3.out)
      have HB : Hid (w1.heap.size < w2.heap.size) := hs2
      obtain ⟨gw, hgw⟩ : ∃ g, g = w1.heap.size := ⟨_, rfl⟩
      rw [← hgw] at R3 HB ⊢
      have HG := Lib.hid hgw
      obtain ⟨B2, hB2⟩ : ∃ B, B = w2.heap.size := ⟨_, rfl⟩
      rw [← hB2] at L3 HB
      have hgB := HB.out
      clear hgw hB2 R2 T2 T3 hs2 hw2 hpos HB
      have HOL := Lib.hid (show (ords M.length).length = fact M.length by unfold ords; rw [List.length_map]; exact HAL.out)
      have HGW : Hid (w1.heap.size ≤ gw) := Lib.hid (by rw [HG.out]; exact Nat.le_refl _)
      go_loopw [36] (fun i wr => ∃ j : Nat, j ≤ fact M.length ∧ i = .int .i64 j ∧ Hid (Row wr gw (winRow M j)) ∧ Hid (Lists wr B2 (.slice (some ⟨g3, 0, none⟩) (fact M.length) c3) (allL M.length)) ∧ Hid (Turn (fun _ => False) w1 wr)) (fun i _ => fact M.length - (intOf i).toNat)
      case atStart => exact ⟨0, Nat.zero_le _, rfl, by rw [winRow_zero]; exact R3, L3, T13⟩
      case round =>
        obtain ⟨j, hj, rfl, HR, HL, HT⟩ := hrel
        clear R3 L3 T13
        have Q2 := Lib.hid (Q1.out.turn HT.out (fun _ _ => id))
        by_cases hlt : j < fact M.length
        · obtain ⟨bo, d0, hcell, hown⟩ := HL.out.own_at (j := j) (by rw [HAL.out]; exact hlt)
          have hmem : (allL M.length).getD j [] ∈ allL M.length := by rw [getD_getElem _ _ (by rw [HAL.out]; exact hlt)]; exact List.getElem_mem _
          have hE := allL_each M.length _ hmem
          have hor : (ords M.length).getD j [] = ordL ((allL M.length).getD j []) := by
            rw [getD_getElem _ _ (by rw [HOL.out]; exact hlt), getD_getElem _ _ (by rw [HAL.out]; exact hlt)]
            simp [ords]
          have HWN := Lib.hid (fun h => winRow_none M j (by rw [HOL.out]; exact hlt) h)
          have HWS := Lib.hid (fun y hy h => winRow_some M j y (by rw [HOL.out]; exact hlt) hy h)
          rw [hor] at HWN HWS
          have hio := ordL_isOrd ((allL M.length).getD j [])
          have hol := ordL_length ((allL M.length).getD j [])
          rw [hE.1] at hol
          have HFS := Lib.hid (fun i hi hm => find_some (M := M) hio hol (i := i) hi hm)
          obtain ⟨l, hl⟩ : ∃ l, l = (allL M.length).getD j [] := ⟨_, rfl⟩
          rw [← hl] at hcell hown hE HWN HWS HFS hol
          have HWf : Hid (Wf l) := Lib.hid (by
            intro x hx
            obtain ⟨i, hi, e⟩ := mem_gt l x hx
            have := hE.2 i (by rw [← hE.1]; exact hi)
            have := hE.1
            omega)
          have hll : l.length ≤ 6 := by rw [hE.1]; exact hm
          have HI := Lib.hid (own_reads hown).2.1
          have HOl := Lib.hid hol
          clear hmem hE hl hown hor hio hol
          go_wp2_with fail
          refine (order_any wr HI.out (by omega) HWf.out).mono ?_
          rintro e w4 ⟨v4, rfl, f4⟩
          obtain ⟨O, hO⟩ : ∃ O, O = ordL l := ⟨_, rfl⟩
          rw [← hO] at f4 HWN HWS HFS HOl
          obtain ⟨a4, c4, rfl, i4, _⟩ := f4.ints
          have T4 := Lib.hid (HT.out.trans f4.2)
          have I4 := Lib.hid i4
          have R4 := Lib.hid (HR.out.turn f4.2 id)
          have L4 := Lib.hid (HL.out.new f4.2)
          have Q4 := Lib.hid (Q2.out.turn f4.2 (fun _ _ => id))
          have hO6 : O.length ≤ 6 := by rw [HOl.out]; exact hm
          clear hO f4 i4 HI HR HL HT Q2
          rcases Nat.eq_zero_or_pos c with h0 | h0
          · have HF := Lib.hid (find_none (M := M) O (HC0.out h0))
            have HWE := Lib.hid (HWN.out HF.out)
            have hz : ¬ 0 < c := by omega
            clear h0 HWN HWS HFS HC0 HC1
            go_wp2_with fail
            refine (first_no (L := O) (M := M) w4 I4.out Q4.out rfl rfl (by omega) (by omega) HF.out).mono ?_
            rintro e w5 ⟨rfl, rfl⟩
            go_wp2_with fail
            go_roundw
            case rel => exact ⟨j + 1, by omega, by go_num, by rw [HWE.out]; exact R4, L4, T4⟩
            case measure => simp [intOf]; omega
          · obtain ⟨i1, hi1, hi2⟩ := HC1.out h0
            obtain ⟨y, hy, hf⟩ := HFS.out i1 hi1 hi2
            have HF := Lib.hid hf
            have HWE := Lib.hid (HWS.out y hy hf)
            have cy := R4.out.cell (i := y) (by rw [winRow_length]; exact hy)
            have fy := R4.out.frozen y
            have hb := winRow_at M j y hy
            have hwl := wins_le M ((ords M.length).take j) y
            have hb2 : 0 ≤ (winRow M j).getD y 0 ∧ (winRow M j).getD y 0 ≤ 720 := by
              have h3 : ((ords M.length).take j).length ≤ 720 := by simp; omega
              omega
            have R5 := Lib.hid (R4.out.set y ((winRow M j).getD y 0 + 1))
            obtain ⟨q, hqq⟩ : ∃ q, q = (winRow M j).getD y 0 := ⟨_, rfl⟩
            rw [← hqq] at cy hb2 R5 HWE
            clear hqq hb hwl hf hi1 hi2 HWN HWS HFS HC0 HC1
            go_wp2_with fail
            refine (first_yes (L := O) (M := M) (y := y) w4 I4.out Q4.out rfl rfl (by omega) (by omega) HF.out).mono ?_
            rintro e w5 ⟨rfl, rfl⟩
            go_wp2_with fail
            go_roundw
            case rel => exact ⟨j + 1, by omega, by go_num, by rw [HWE.out]; exact R5, L4.out.low ((Turn.refl (fun i => i = gw) w4).setCell (p := ⟨gw, y, none⟩) (Or.inl rfl) _) (fun i e => by omega), T4.out.setCell (p := ⟨gw, y, none⟩) (Or.inr HGW.out) _⟩
            case measure => simp [intOf]; omega
        · obtain rfl : j = fact M.length := by omega
          clear HL hj hlt
          have HWA := Lib.hid (fun x hx => winRow_at M (fact M.length) x hx)
          rw [show (ords M.length).take (fact M.length) = ords M.length by rw [← HOL.out, List.take_length]] at HWA
          go_wp2_with fail
          go_loop [74] (fun i => ∃ q : Nat, q ≤ M.length ∧ i = .int .i64 q) (fun i => M.length - (intOf i).toNat)
          case atStart => exact ⟨0, Nat.zero_le _, rfl⟩
          case round =>
            obtain ⟨q, hq, rfl⟩ := hrel
            by_cases hlq : q < M.length
            · obtain ⟨ad, ha, hc⟩ := Q2.out q hlq
              subst ha
              have cw := HR.out.cell (i := q) (by rw [winRow_length]; exact hlq)
              rw [HWA.out q hlq] at cw
              have HV := Lib.hid (HW.out q hlq)
              have HZ := Lib.hid (fun h => wins_none M (ords M.length) q h)
              have H0 := Lib.hid (fun h => HC0.out h q hlq)
              have hwb : winsOf M (ords M.length) q ≤ 720 := Nat.le_trans (wins_le _ _ _) (by rw [HOL.out]; exact hfl)
              obtain ⟨ws, hws⟩ : ∃ ws, ws = winsOf M (ords M.length) q := ⟨_, rfl⟩
              rw [← hws] at cw HV HZ hwb
              obtain ⟨b, hb⟩ : ∃ b, b = M.getD q false := ⟨_, rfl⟩
              rw [← hb] at hc HV HZ H0
              clear hws hb
              cases b
              · have HZ0 := HZ.out rfl
                subst HZ0
                go_wp2_with fail
                go_round
                case rel => exact ⟨q + 1, by omega, by go_num⟩
                case measure => simp [intOf]; omega
              · have HV0 := Lib.hid (HV.out rfl)
                have hcp : 0 < c := by
                  rcases Nat.eq_zero_or_pos c with h0 | h0
                  · have := H0.out h0; cases this
                  · exact h0
                have hne : (((ws : Nat) : Int) != wrap64 (((fact M.length : Nat) : Int) / ((c : Nat) : Int))) = false := by rw [HV0.out, IntWalk.wrap64_in _ ⟨by omega, by omega⟩]; simp
                clear HV HZ H0
                go_wp2_with fail
                refine (count_fact M.length (by omega) _).mono ?_
                rintro e w6 ⟨rfl, rfl⟩
                go_wp2_with fail
                go_round
                case rel => exact ⟨q + 1, by omega, by go_num⟩
                case measure => simp [intOf]; omega
            · obtain rfl : q = M.length := by omega
              go_wp2
              go_ret
              exact ⟨rfl, T1.out.trans HT.out⟩

end Go.Proofs.Ytlnjomjeafmobaa
