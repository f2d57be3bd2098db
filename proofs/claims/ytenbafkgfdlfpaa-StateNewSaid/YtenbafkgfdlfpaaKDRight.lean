/- The document's: can a plan be? The law's: is it more than is looked at? -/
import Derived.Test.YtenbafkgfdlfpaaKDRightOp
namespace Go.Proofs.Ytenbafkgfdlfpaa
open Go.RowKit
set_option linter.unusedVariables false


set_option maxRecDepth 100000 in
theorem rright_any {s : Sl} {n : Nat} {p : List (List Opr)} (b : Bool) (w : World) (hP : RPlan w s p) (hn : p.length = n) (hm : WideP p) (hb : rightP p = b) : Calls Try.prog 12 #[.slice s.ao n s.cap] w (Says w b) := by
  obtain ⟨ao, len, c⟩ := s
  have HP := Lib.hid hP
  have HN := Lib.hid hn
  have HM := Lib.hid hm
  have hm : n ≤ 1000000 := hn ▸ hm.1
  have HB := Lib.hid (show (p.all rightL && decide (1 ≤ n) && decide (n ≤ 8)) = b by rw [← hb]; unfold rightP; rw [hn])
  clear hP hn hb
  unfold Says
  dsimp only
  go_enter Try.func12, Try.ntmps12
  go_upto_region 2 with fail
  go_loopw [9] (fun s9 wr => ∃ i : Nat, i ≤ n ∧ s9 = .int .i64 i ∧ Hid (∀ (j : Nat) x, j < i → p[j]? = some x → rightL x = true) ∧ Hid (Turn (fun _ => False) w wr)) (fun s9 _ => n - (intOf s9).toNat)
  case atStart => exact ⟨0, Nat.zero_le _, rfl, Lib.hid fun j x hj => absurd hj (Nat.not_lt_zero _), Lib.hid (Turn.refl _ _)⟩
  case round =>
    obtain ⟨i, hi, rfl, HA, HT⟩ := hrel
    by_cases hlt : i < n
    · obtain ⟨x, hx⟩ : ∃ x, p[i]? = some x := ⟨_, List.getElem?_eq_getElem (by rw [HN.out]; exact hlt)⟩
      obtain ⟨a, y, ha, hr, hc⟩ := (HP.out.new HT.out).at hx
      dsimp only at ha
      subst ha
      obtain ⟨ao', len', cap'⟩ := y
      have hl' : x.length = len' := hr.ok.len.symm
      have HX := Lib.hid hx
      have HR := Lib.hid hr
      have HL' := Lib.hid hl'
      unfold Sl.val at hc
      dsimp only at hc
      have hml := (HM.out.at HX.out).1
      rw [hl'] at hml
      clear hx hr hl'
      go_upto_region 5 with fail
      generalize hwi : wr = wi at HT HR hc ⊢
      clear hwi
      go_loopw [15] (fun s15 wr => ∃ k : Nat, k ≤ len' ∧ s15 = .int .i64 k ∧ Hid (∀ (j : Nat) y, j < k → x[j]? = some y → rightO y = true) ∧ Hid (Turn (fun _ => False) wi wr)) (fun s15 _ => len' - (intOf s15).toNat)
      case atStart => exact ⟨0, Nat.zero_le _, rfl, Lib.hid fun j x hj => absurd hj (Nat.not_lt_zero _), Lib.hid (Turn.refl _ _)⟩
      case round =>
        obtain ⟨k, hk, rfl, HA2, HT2⟩ := hrel
        clear hc
        by_cases hlt2 : k < len'
        · obtain ⟨y, hy⟩ : ∃ y, x[k]? = some y := ⟨_, List.getElem?_eq_getElem (by rw [HL'.out]; exact hlt2)⟩
          obtain ⟨a2, r, ha2, hro, hc⟩ := (HR.out.new HT2.out).at hy
          dsimp only at ha2
          subst ha2
          obtain ⟨kind, ch, n', v, ⟨ao2, len2, cap2⟩, els⟩ := r
          obtain ⟨c0, c1, c2, c3, c4, c5⟩ := cells6 hc
          have HY := Lib.hid hy
          have HRO := Lib.hid hro
          unfold Sl.val at c4
          dsimp only at c0 c1 c2 c3 c4 c5
          clear hy hc hro
          obtain ⟨f, hf⟩ : ∃ f, rightO y = f := ⟨_, rfl⟩
          have HF := Lib.hid hf
          clear hf
          go_wp2_with fail
          refine (rrightop_any ⟨kind, ch, n', v, ⟨ao2, len2, cap2⟩, els⟩ y f _ (HRO.out.new ((Turn.refl _ _).alloc _)) HF.out).mono ?_
          rintro e w1 ⟨rfl, t1⟩
          have T1 := Lib.hid (((Turn.refl (fun _ => False) wr).alloc _).trans t1)
          clear t1 c0 c1 c2 c3 c4 c5
          cases f
          · go_wp2_with fail
            go_ret
            refine ⟨ret_bool ?_, (HT.out.trans HT2.out).trans T1.out⟩
            rw [← HB.out, all_no HX.out]
            · rfl
            · unfold rightL
              rw [all_no HY.out HF.out]
              rfl
          · go_wp2_with fail
            go_roundw
            case rel =>
              refine ⟨k + 1, by omega, by go_num, Lib.hid fun j z hj hz => ?_, Lib.hid (HT2.out.trans T1.out)⟩
              rcases Nat.lt_or_ge j k with h | h
              · exact HA2.out j z h hz
              · obtain rfl : j = k := by omega
                rw [HY.out] at hz
                obtain rfl := Option.some.inj hz
                exact HF.out
            case measure => simp [intOf]; omega
        · have hkn : k = len' := by omega
          have HALL := Lib.hid (show x.all rightO = true from all_yes (fun j z hz => HA2.out j z (by have := (List.getElem?_eq_some_iff.1 hz).1; have := HL'.out; omega) hz))
          rcases Nat.lt_or_ge 16 len' with hlong | hshort
          · clear hkn
            go_wp2_with fail
            go_ret
            refine ⟨ret_bool ?_, HT.out.trans HT2.out⟩
            rw [← HB.out, all_no HX.out]
            · rfl
            · unfold rightL
              rw [HL'.out, HALL.out]
              simp
              omega
          · clear hkn
            have HXL := Lib.hid (show rightL x = true by unfold rightL; rw [HALL.out, HL'.out]; simp [hshort])
            go_wp2_with fail
            go_roundw
            case rel =>
              refine ⟨i + 1, by omega, by go_num, Lib.hid fun j y hj hy => ?_, Lib.hid (HT.out.trans HT2.out)⟩
              rcases Nat.lt_or_ge j i with h | h
              · exact HA.out j y h hy
              · obtain rfl : j = i := by omega
                rw [HX.out] at hy
                obtain rfl := Option.some.inj hy
                exact HXL.out
            case measure => simp [intOf]; omega
    · have hin : i = n := by omega
      have HIN := Lib.hid hin
      have HALL := Lib.hid (show p.all rightL = true from all_yes (fun j x hx => HA.out j x (by have := (List.getElem?_eq_some_iff.1 hx).1; have := HIN.out; have := HN.out; omega) hx))
      clear hin
      have HB2 := Lib.hid (show (decide (1 ≤ n) && decide (n ≤ 8)) = b by rw [← HB.out, HALL.out]; simp)
      rcases (show n < 1 ∨ (1 ≤ n ∧ 8 < n) ∨ (1 ≤ n ∧ n ≤ 8) by omega) with h1 | ⟨h1, h2⟩ | ⟨h1, h2⟩
      · have hb : b = false := by rw [← HB2.out]; simp; omega
        subst hb
        go_wp2_with fail
        go_ret
        exact ⟨rfl, HT.out⟩
      · have hb : b = false := by rw [← HB2.out]; simp; omega
        subst hb
        go_wp2_with fail
        go_ret
        exact ⟨ret_bool (by simp; omega), HT.out⟩
      · have hb : b = true := by rw [← HB2.out]; simp; omega
        subst hb
        go_wp2_with fail
        go_ret
        exact ⟨ret_bool (by simp; omega), HT.out⟩

end Go.Proofs.Ytenbafkgfdlfpaa
