/- The code's half of stage 10, for later stages: what an op has; whether a number fits; wrong cases. -/
import Derived.Test.YtenbafkgfdlfpaaKDSmall
namespace Go.Proofs.Ytenbafkgfdlfpaa
open Go.RowKit
set_option linter.unusedVariables false

theorem hasch_any (k : Int) (b : Bool) (w : World) (h : hasCh k = b) : Calls Try.prog 58 #[.int .i64 k] w fun e w' => e = .returned (.bool b) ∧ w = w' := by
  subst h
  unfold hasCh
  by_cases h1 : 2 ≤ k <;> by_cases h2 : k ≤ 8
  all_goals
    simp only [h1, h2, decide_true, decide_false, Bool.and_true, Bool.and_false]
    go_enter Try.func58, Try.ntmps58
    go_wp2_with fail
    go_ret
    exact ⟨rfl, rfl⟩
theorem hasn_any (k : Int) (b : Bool) (w : World) (h : (k == 1) = b) : Calls Try.prog 59 #[.int .i64 k] w fun e w' => e = .returned (.bool b) ∧ w = w' := by
  subst h
  go_enter Try.func59, Try.ntmps59
  go_wp2_with fail
  go_ret
  exact ⟨rfl, rfl⟩
theorem hasv_any (k : Int) (b : Bool) (w : World) (h : hasV k = b) : Calls Try.prog 60 #[.int .i64 k] w fun e w' => e = .returned (.bool b) ∧ w = w' := by
  subst h
  unfold hasV
  obtain ⟨b1, h1⟩ : ∃ b, (k == 2) = b := ⟨_, rfl⟩
  rw [h1]
  cases b1
  all_goals
    go_enter Try.func60, Try.ntmps60
    go_wp2_with fail
    go_ret
    exact ⟨rfl, rfl⟩
theorem fits_any (x : Int) (has : Bool) (most : Int) (b : Bool) (w : World) (h : fitB x has most = b) : Calls Try.prog 57 #[.int .i64 x, .bool has, .int .i64 most] w fun e w' => e = .returned (.bool b) ∧ w = w' := by
  subst h
  unfold fitB
  cases has
  · go_enter Try.func57, Try.ntmps57
    go_wp2_with fail
    go_ret
    exact ⟨rfl, rfl⟩
  · by_cases h1 : 0 ≤ x <;> by_cases h2 : x ≤ most
    all_goals
      simp only [h1, h2, decide_true, decide_false, Bool.and_true, Bool.and_false, if_true]
      go_enter Try.func57, Try.ntmps57
      go_wp2_with fail
      go_ret
      exact ⟨rfl, rfl⟩

theorem wrongc_any (c : Cas) (b : Bool) (w : World) (h : rightC c = b) : Calls Try.prog 56 #[c.val] w (Says w (!b)) := by
  rw [rightC_fits] at h
  obtain ⟨s, ch, v⟩ := c
  obtain ⟨f1, h1⟩ : ∃ f, fitB ch true 8 = f := ⟨_, rfl⟩
  obtain ⟨f2, h2⟩ : ∃ f, fitB v s 255 = f := ⟨_, rfl⟩
  dsimp only at h
  rw [h1, h2] at h
  subst h
  have H1 := Lib.hid h1
  have H2 := Lib.hid h2
  clear h1 h2
  unfold Cas.val Says
  go_enter Try.func56, Try.ntmps56
  go_wp2_with fail
  refine (fits_any _ _ _ f1 _ H1.out).mono ?_
  rintro e w1 ⟨rfl, rfl⟩
  cases f1
  · go_wp2_with fail
    go_ret
    exact ⟨rfl, (Turn.refl _ w).alloc _⟩
  · go_wp2_with fail
    refine (fits_any _ _ _ f2 _ H2.out).mono ?_
    rintro e w1 ⟨rfl, rfl⟩
    go_wp2_with fail
    go_ret
    exact ⟨rfl, (Turn.refl _ w).alloc _⟩

/-- The first case of L that is wrong, if there is one. -/
theorem indexc_any {ao : Option Addr} {n c : Nat} {L : List Cas} (b : Bool) (w : World) (hL : Has encCV 3 w ao L) (hn : L.length = n) (hm : n ≤ 1000000) (hb : L.all rightC = b) :
    Calls Try.prog 80 #[.slice ao n c, .func (.func 56) #[] #[]] w fun e w' => ∃ k : Int, e = .returned (.int .i64 k) ∧ decide (0 ≤ k) = !b ∧ -1 ≤ k ∧ k ≤ 1000000 ∧ Turn (fun _ => False) w w' := by
  have HL := Lib.hid hL
  have HN := Lib.hid hn
  have HB := Lib.hid hb
  clear hL hn hb
  go_enter Try.func80, Try.ntmps80
  go_upto_region 2 with fail
  go_loopw [8] (fun s8 wr => ∃ i : Nat, i ≤ n ∧ s8 = .int .i64 i ∧ Hid (∀ (j : Nat) x, j < i → L[j]? = some x → rightC x = true) ∧ Hid (Turn (fun _ => False) w wr)) (fun s8 _ => n - (intOf s8).toNat)
  case atStart => exact ⟨0, Nat.zero_le _, rfl, Lib.hid fun j x hj => absurd hj (Nat.not_lt_zero _), Lib.hid (Turn.refl _ _)⟩
  case round =>
    obtain ⟨i, hi, rfl, HA, HT⟩ := hrel
    by_cases hlt : i < n
    · obtain ⟨x, hx⟩ : ∃ x, L[i]? = some x := ⟨_, List.getElem?_eq_getElem (by rw [HN.out]; exact hlt)⟩
      obtain ⟨a, rfl, hc⟩ := (HL.out.new HT.out) i x hx
      obtain ⟨c0, c1, c2⟩ := cells3 hc
      have HX := Lib.hid hx
      obtain ⟨f, hf⟩ : ∃ f, rightC x = f := ⟨_, rfl⟩
      have HF := Lib.hid hf
      clear hx hc hf
      go_wp2_with fail
      refine (wrongc_any x f _ HF.out).mono ?_
      rintro e w1 ⟨rfl, t1⟩
      have T1 := Lib.hid t1
      clear t1 c0 c1 c2
      cases f
      · go_wp2_with fail
        go_ret
        refine ⟨_, rfl, ?_, by omega, by omega, HT.out.trans T1.out⟩
        rw [← HB.out, all_no HX.out HF.out]
        simp
      · go_wp2_with fail
        go_roundw
        case rel =>
          refine ⟨i + 1, by omega, by go_num, Lib.hid fun j y hj hy => ?_, Lib.hid (HT.out.trans T1.out)⟩
          rcases Nat.lt_or_ge j i with h | h
          · exact HA.out j y h hy
          · obtain rfl : j = i := by omega
            rw [HX.out] at hy
            obtain rfl := Option.some.inj hy
            exact HF.out
        case measure => simp [intOf]; omega
    · have hin : i = n := by omega
      have HIN := Lib.hid hin
      clear hin
      go_wp2_with fail
      go_ret
      refine ⟨_, rfl, ?_, by omega, by omega, HT.out⟩
      rw [← HB.out, all_yes (fun j x hx => HA.out j x (by have := (List.getElem?_eq_some_iff.1 hx).1; have := HIN.out; have := HN.out; omega) hx)]
      rfl

theorem containsc_any {ao : Option Addr} {n c : Nat} {L : List Cas} (b : Bool) (w : World) (hL : Has encCV 3 w ao L) (hn : L.length = n) (hm : n ≤ 1000000) (hb : L.all rightC = b) :
    Calls Try.prog 61 #[.slice ao n c, .func (.func 56) #[] #[]] w (Says w (!b)) := by
  have HL := Lib.hid hL
  have HN := Lib.hid hn
  have HB := Lib.hid hb
  clear hL hn hb
  unfold Says
  go_enter Try.func61, Try.ntmps61
  go_wp2_with fail
  refine (indexc_any b w HL.out HN.out hm HB.out).mono ?_
  rintro e w1 ⟨k, rfl, hk, k1, k2, t1⟩
  have HK := Lib.hid hk
  have T1 := Lib.hid t1
  clear hk t1
  go_wp2_with fail
  go_ret
  exact ⟨ret_bool HK.out, T1.out⟩

end Go.Proofs.Ytenbafkgfdlfpaa
