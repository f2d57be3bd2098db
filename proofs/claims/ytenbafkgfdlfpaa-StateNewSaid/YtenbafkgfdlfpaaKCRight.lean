/- The code's Right. -/
import Derived.Test.YtenbafkgfdlfpaaKCRightOp
namespace Go.Proofs.Ytenbafkgfdlfpaa
open Go.RowKit
set_option linter.unusedVariables false

theorem wrongo_any (r : OpV) (o : Opr) (b : Bool) (w : World) (ho : ROp w r o) (hb : rightO o = b) : Calls Try.prog 29 #[r.val] w (Says w (!b)) := by
  have HO := Lib.hid ho
  have HB := Lib.hid hb
  clear ho hb
  obtain ⟨kind, ch, n, v, ⟨ao, len, cap⟩, els⟩ := r
  unfold OpV.val Says Sl.val
  dsimp only
  go_enter Try.func29, Try.ntmps29
  go_wp2_with fail
  refine (rightop_any ⟨kind, ch, n, v, ⟨ao, len, cap⟩, els⟩ o b _ (HO.out.new ((Turn.refl _ w).alloc _)) HB.out).mono ?_
  rintro e w1 ⟨rfl, t1⟩
  have T1 := Lib.hid t1
  clear t1
  go_wp2_with fail
  go_ret
  exact ⟨rfl, ((Turn.refl _ w).alloc _).trans T1.out⟩

theorem indexo_any {s : Sl} {n : Nat} {l : List Opr} (b : Bool) (w : World) (hL : ROps w s l) (hn : l.length = n) (hm : WideL l) (hb : l.all rightO = b) :
    Calls Try.prog 62 #[.slice s.ao n s.cap, .func (.func 29) #[] #[]] w fun e w' => ∃ k : Int, e = .returned (.int .i64 k) ∧ decide (0 ≤ k) = !b ∧ -1 ≤ k ∧ k ≤ 1000000 ∧ Turn (fun _ => False) w w' := by
  obtain ⟨ao, len, c⟩ := s
  have HL := Lib.hid hL
  have HN := Lib.hid hn
  have HB := Lib.hid hb
  have HM := Lib.hid hm
  have hm : n ≤ 1000000 := hn ▸ hm.1
  clear hL hn hb
  dsimp only
  go_enter Try.func62, Try.ntmps62
  go_upto_region 2 with fail
  go_loopw [8] (fun s8 wr => ∃ i : Nat, i ≤ n ∧ s8 = .int .i64 i ∧ Hid (∀ (j : Nat) x, j < i → l[j]? = some x → rightO x = true) ∧ Hid (Turn (fun _ => False) w wr)) (fun s8 _ => n - (intOf s8).toNat)
  case atStart => exact ⟨0, Nat.zero_le _, rfl, Lib.hid fun j x hj => absurd hj (Nat.not_lt_zero _), Lib.hid (Turn.refl _ _)⟩
  case round =>
    obtain ⟨i, hi, rfl, HA, HT⟩ := hrel
    by_cases hlt : i < n
    · obtain ⟨x, hx⟩ : ∃ x, l[i]? = some x := ⟨_, List.getElem?_eq_getElem (by rw [HN.out]; exact hlt)⟩
      obtain ⟨a, r, ha, hr, hc⟩ := (HL.out.new HT.out).at hx
      dsimp only at ha
      subst ha
      obtain ⟨kind, ch, n', v, ⟨ao', len', cap'⟩, els⟩ := r
      obtain ⟨c0, c1, c2, c3, c4, c5⟩ := cells6 hc
      have HX := Lib.hid hx
      obtain ⟨f, hf⟩ : ∃ f, rightO x = f := ⟨_, rfl⟩
      have HF := Lib.hid hf
      have HR := Lib.hid hr
      clear hx hc hf hr
      unfold Sl.val at c4
      dsimp only at c0 c1 c2 c3 c4 c5
      go_wp2_with fail
      refine (wrongo_any _ x f _ HR.out HF.out).mono ?_
      rintro e w1 ⟨rfl, t1⟩
      have T1 := Lib.hid t1
      clear t1 c0 c1 c2 c3 c4 c5
      cases f
      · go_wp2_with fail
        go_ret
        refine ⟨_, rfl, ?_, by omega, by omega, HT.out.trans T1.out⟩
        rw [← HB.out, all_no HX.out HF.out]
        simp
      · go_wp2_with fail
        go_roundw
        case rel =>
          refine ⟨i + 1, by omega, by go_num, Lib.hid fun j y hj hy => ?_, Lib.hid (HT.out.trans T1.out)⟩
          rcases Nat.lt_or_ge j i with h | h
          · exact HA.out j y h hy
          · obtain rfl : j = i := by omega
            rw [HX.out] at hy
            obtain rfl := Option.some.inj hy
            exact HF.out
        case measure => simp [intOf]; omega
    · have hin : i = n := by omega
      have HIN := Lib.hid hin
      clear hin
      go_wp2_with fail
      go_ret
      refine ⟨_, rfl, ?_, by omega, by omega, HT.out⟩
      rw [← HB.out, all_yes (fun j x hx => HA.out j x (by have := (List.getElem?_eq_some_iff.1 hx).1; have := HIN.out; have := HN.out; omega) hx)]
      rfl

theorem containso_any {s : Sl} {n : Nat} {l : List Opr} (b : Bool) (w : World) (hL : ROps w s l) (hn : l.length = n) (hm : WideL l) (hb : l.all rightO = b) :
    Calls Try.prog 31 #[.slice s.ao n s.cap, .func (.func 29) #[] #[]] w (Says w (!b)) := by
  have HL := Lib.hid hL
  have HN := Lib.hid hn
  have HB := Lib.hid hb
  have HM := Lib.hid hm
  clear hL hn hb hm
  unfold Says
  go_enter Try.func31, Try.ntmps31
  go_wp2_with fail
  refine (indexo_any b w HL.out HN.out HM.out HB.out).mono ?_
  rintro e w1 ⟨k, rfl, hk, k1, k2, t1⟩
  have HK := Lib.hid hk
  have T1 := Lib.hid t1
  clear hk t1
  go_wp2_with fail
  go_ret
  exact ⟨ret_bool HK.out, T1.out⟩

theorem right_any {s : Sl} {n : Nat} {p : List (List Opr)} (b : Bool) (w : World) (hP : RPlan w s p) (hn : p.length = n) (hm : WideP p) (hb : rightP p = b) : Calls Try.prog 9 #[.slice s.ao n s.cap] w (Says w b) := by
  obtain ⟨ao, len, c⟩ := s
  have HP := Lib.hid hP
  have HN := Lib.hid hn
  have HM := Lib.hid hm
  have hm : n ≤ 1000000 := hn ▸ hm.1
  have HE := Lib.hid (show rightP p = (p.all rightL && decide (1 ≤ n) && decide (n ≤ 8)) by unfold rightP; rw [hn])
  rw [HE.out] at hb
  clear hP hn
  unfold Says
  dsimp only
  rcases (show n < 1 ∨ 8 < n ∨ (1 ≤ n ∧ n ≤ 8) by omega) with h1 | h1 | ⟨h1, h2⟩
  · obtain rfl : b = false := by rw [← hb]; simp; omega
    clear hb
    go_enter Try.func9, Try.ntmps9
    go_wp2_with fail
    go_ret
    exact ⟨rfl, Turn.refl _ w⟩
  · obtain rfl : b = false := by rw [← hb]; simp; omega
    clear hb
    go_enter Try.func9, Try.ntmps9
    go_wp2_with fail
    go_ret
    exact ⟨rfl, Turn.refl _ w⟩
  have HB := Lib.hid (show p.all rightL = b by rw [← hb]; simp [h1, h2])
  clear hb
  go_enter Try.func9, Try.ntmps9
  go_upto_region 5 with fail
  go_loopw [16] (fun s16 wr => ∃ i : Nat, i ≤ n ∧ s16 = .int .i64 i ∧ Hid (∀ (j : Nat) x, j < i → p[j]? = some x → rightL x = true) ∧ Hid (Turn (fun _ => False) w wr)) (fun s16 _ => n - (intOf s16).toNat)
  case atStart => exact ⟨0, Nat.zero_le _, rfl, Lib.hid fun j x hj => absurd hj (Nat.not_lt_zero _), Lib.hid (Turn.refl _ _)⟩
  case round =>
    obtain ⟨i, hi, rfl, HA, HT⟩ := hrel
    by_cases hlt : i < n
    · obtain ⟨x, hx⟩ : ∃ x, p[i]? = some x := ⟨_, List.getElem?_eq_getElem (by rw [HN.out]; exact hlt)⟩
      obtain ⟨a, y, ha, hr, hc⟩ := (HP.out.new HT.out).at hx
      dsimp only at ha
      subst ha
      obtain ⟨ao', len', cap'⟩ := y
      have hl' : len' = x.length := hr.ok.len
      have hml := (HM.out.at hx).1
      rw [← hl'] at hml
      have HX := Lib.hid hx
      have HR := Lib.hid hr
      have HL' := Lib.hid hl'
      unfold Sl.val at hc
      dsimp only at hc
      clear hx hr hl'
      rcases Nat.lt_or_ge 16 len' with hlong | hshort
      · go_wp2_with fail
        go_ret
        refine ⟨ret_bool ?_, HT.out⟩
        rw [← HB.out, all_no HX.out]
        unfold rightL
        rw [← HL'.out]
        simp
        omega
      · obtain ⟨f, hf⟩ : ∃ f, x.all rightO = f := ⟨_, rfl⟩
        have HF := Lib.hid hf
        clear hf
        go_wp2_with fail
        refine (containso_any (s := ⟨ao', len', cap'⟩) f _ HR.out HL'.out.symm (HM.out.at HX.out) HF.out).mono ?_
        rintro e w1 ⟨rfl, t1⟩
        have T1 := Lib.hid t1
        clear t1 hc
        cases f
        · go_wp2_with fail
          go_ret
          refine ⟨ret_bool ?_, HT.out.trans T1.out⟩
          rw [← HB.out, all_no HX.out]
          unfold rightL
          rw [HF.out]
          rfl
        · have HXL := Lib.hid (show rightL x = true by unfold rightL; rw [HF.out, ← HL'.out]; simp [hshort])
          go_wp2_with fail
          go_roundw
          case rel =>
            refine ⟨i + 1, by omega, by go_num, Lib.hid fun j y hj hy => ?_, Lib.hid (HT.out.trans T1.out)⟩
            rcases Nat.lt_or_ge j i with h | h
            · exact HA.out j y h hy
            · obtain rfl : j = i := by omega
              rw [HX.out] at hy
              obtain rfl := Option.some.inj hy
              exact HXL.out
          case measure => simp [intOf]; omega
    · have hin : i = n := by omega
      have HIN := Lib.hid hin
      clear hin
      go_wp2_with fail
      go_ret
      refine ⟨ret_bool ?_, HT.out⟩
      rw [← HB.out, all_yes (fun j x hx => HA.out j x (by have := (List.getElem?_eq_some_iff.1 hx).1; have := HIN.out; have := HN.out; omega) hx)]

end Go.Proofs.Ytenbafkgfdlfpaa
