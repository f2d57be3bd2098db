/- Texts put together: CFun, CRightOp, CRight. -/
import Derived.Test.YtfghabjpcjcllaaDoorDSmall
import Derived.Test.YtfghabjpcjcllaaDoorMGen
/- The code's half of stage 10, for later stages: what an op has; whether a number fits; wrong cases. -/
namespace Go.Proofs.YtfghabjpcjcllaaDoor
open Go.RowKit
set_option linter.unusedVariables false

theorem hasch_any (k : Int) (b : Bool) (w : World) (h : hasCh k = b) : Calls Tryd.prog 40 #[.int .i64 k] w fun e w' => e = .returned (.bool b) ∧ w = w' := by
  subst h
  unfold hasCh
  by_cases h1 : 2 ≤ k <;> by_cases h2 : k ≤ 8
  all_goals
    simp only [h1, h2, decide_true, decide_false, Bool.and_true, Bool.and_false]
    go_enter Tryd.func40, Tryd.ntmps40
    go_wp2_with fail
    go_ret
    exact ⟨rfl, rfl⟩
theorem hasn_any (k : Int) (b : Bool) (w : World) (h : (k == 1) = b) : Calls Tryd.prog 41 #[.int .i64 k] w fun e w' => e = .returned (.bool b) ∧ w = w' := by
  subst h
  go_enter Tryd.func41, Tryd.ntmps41
  go_wp2_with fail
  go_ret
  exact ⟨rfl, rfl⟩
theorem hasv_any (k : Int) (b : Bool) (w : World) (h : hasV k = b) : Calls Tryd.prog 42 #[.int .i64 k] w fun e w' => e = .returned (.bool b) ∧ w = w' := by
  subst h
  unfold hasV
  obtain ⟨b1, h1⟩ : ∃ b, (k == 2) = b := ⟨_, rfl⟩
  rw [h1]
  cases b1
  all_goals
    go_enter Tryd.func42, Tryd.ntmps42
    go_wp2_with fail
    go_ret
    exact ⟨rfl, rfl⟩
theorem fits_any (x : Int) (has : Bool) (most : Int) (b : Bool) (w : World) (h : fitB x has most = b) : Calls Tryd.prog 39 #[.int .i64 x, .bool has, .int .i64 most] w fun e w' => e = .returned (.bool b) ∧ w = w' := by
  subst h
  unfold fitB
  cases has
  · go_enter Tryd.func39, Tryd.ntmps39
    go_wp2_with fail
    go_ret
    exact ⟨rfl, rfl⟩
  · by_cases h1 : 0 ≤ x <;> by_cases h2 : x ≤ most
    all_goals
      simp only [h1, h2, decide_true, decide_false, Bool.and_true, Bool.and_false, if_true]
      go_enter Tryd.func39, Tryd.ntmps39
      go_wp2_with fail
      go_ret
      exact ⟨rfl, rfl⟩

theorem wrongc_any (c : Cas) (b : Bool) (w : World) (h : rightC c = b) : Calls Tryd.prog 38 #[c.val] w (Says w (!b)) := by
  rw [rightC_fits] at h
  obtain ⟨s, ch, v⟩ := c
  obtain ⟨f1, h1⟩ : ∃ f, fitB ch true 8 = f := ⟨_, rfl⟩
  obtain ⟨f2, h2⟩ : ∃ f, fitB v s 255 = f := ⟨_, rfl⟩
  dsimp only at h
  rw [h1, h2] at h
  subst h
  have H1 := Lib.hid h1
  have H2 := Lib.hid h2
  clear h1 h2
  unfold Cas.val Says
  go_enter Tryd.func38, Tryd.ntmps38
  go_wp2_with fail
  refine (fits_any _ _ _ f1 _ H1.out).mono ?_
  rintro e w1 ⟨rfl, rfl⟩
  cases f1
  · go_wp2_with fail
    go_ret
    exact ⟨rfl, (Turn.refl _ w).alloc _⟩
  · go_wp2_with fail
    refine (fits_any _ _ _ f2 _ H2.out).mono ?_
    rintro e w1 ⟨rfl, rfl⟩
    go_wp2_with fail
    go_ret
    exact ⟨rfl, (Turn.refl _ w).alloc _⟩

/-- The first case of L that is wrong, if there is one. -/
theorem indexc_any {ao : Option Addr} {n c : Nat} {L : List Cas} (b : Bool) (w : World) (hL : Has encCV 3 w ao L) (hn : L.length = n) (hm : n ≤ 1000000) (hb : L.all rightC = b) :
    Calls Tryd.prog 56 #[.slice ao n c, .func (.func 38) #[] #[]] w fun e w' => ∃ k : Int, e = .returned (.int .i64 k) ∧ decide (0 ≤ k) = !b ∧ -1 ≤ k ∧ k ≤ 1000000 ∧ Turn (fun _ => False) w w' := by
  have HL := Lib.hid hL
  have HN := Lib.hid hn
  have HB := Lib.hid hb
  clear hL hn hb
  go_enter Tryd.func56, Tryd.ntmps56
  go_upto_region 2 with fail
  go_loopw [8] (fun s8 wr => ∃ i : Nat, i ≤ n ∧ s8 = .int .i64 i ∧ Hid (∀ (j : Nat) x, j < i → L[j]? = some x → rightC x = true) ∧ Hid (Turn (fun _ => False) w wr)) (fun s8 _ => n - (intOf s8).toNat)
  case atStart => exact ⟨0, Nat.zero_le _, rfl, Lib.hid fun j x hj => absurd hj (Nat.not_lt_zero _), Lib.hid (Turn.refl _ _)⟩
  case round =>
    obtain ⟨i, hi, rfl, HA, HT⟩ := hrel
    by_cases hlt : i < n
    · obtain ⟨x, hx⟩ : ∃ x, L[i]? = some x := ⟨_, List.getElem?_eq_getElem (by rw [HN.out]; exact hlt)⟩
      obtain ⟨a, rfl, hc⟩ := (HL.out.new HT.out) i x hx
      obtain ⟨c0, c1, c2⟩ := cells3 hc
      have HX := Lib.hid hx
      obtain ⟨f, hf⟩ : ∃ f, rightC x = f := ⟨_, rfl⟩
      have HF := Lib.hid hf
      clear hx hc hf
      go_wp2_with fail
      refine (wrongc_any x f _ HF.out).mono ?_
      rintro e w1 ⟨rfl, t1⟩
      have T1 := Lib.hid t1
      clear t1 c0 c1 c2
      cases f
      · go_wp2_with fail
        go_ret
        refine ⟨_, rfl, ?_, by omega, by omega, HT.out.trans T1.out⟩
        rw [← HB.out, all_no HX.out HF.out]
        simp
      · go_wp2_with fail
        go_roundw
        case rel =>
          refine ⟨i + 1, by omega, by go_num, Lib.hid fun j y hj hy => ?_, Lib.hid (HT.out.trans T1.out)⟩
          rcases Nat.lt_or_ge j i with h | h
          · exact HA.out j y h hy
          · obtain rfl : j = i := by omega
            rw [HX.out] at hy
            obtain rfl := Option.some.inj hy
            exact HF.out
        case measure => simp [intOf]; omega
    · have hin : i = n := by omega
      have HIN := Lib.hid hin
      clear hin
      go_wp2_with fail
      go_ret
      refine ⟨_, rfl, ?_, by omega, by omega, HT.out⟩
      rw [← HB.out, all_yes (fun j x hx => HA.out j x (by have := (List.getElem?_eq_some_iff.1 hx).1; have := HIN.out; have := HN.out; omega) hx)]
      rfl

theorem containsc_any {ao : Option Addr} {n c : Nat} {L : List Cas} (b : Bool) (w : World) (hL : Has encCV 3 w ao L) (hn : L.length = n) (hm : n ≤ 1000000) (hb : L.all rightC = b) :
    Calls Tryd.prog 43 #[.slice ao n c, .func (.func 38) #[] #[]] w (Says w (!b)) := by
  have HL := Lib.hid hL
  have HN := Lib.hid hn
  have HB := Lib.hid hb
  clear hL hn hb
  unfold Says
  go_enter Tryd.func43, Tryd.ntmps43
  go_wp2_with fail
  refine (indexc_any b w HL.out HN.out hm HB.out).mono ?_
  rintro e w1 ⟨k, rfl, hk, k1, k2, t1⟩
  have HK := Lib.hid hk
  have T1 := Lib.hid t1
  clear hk t1
  go_wp2_with fail
  go_ret
  exact ⟨ret_bool HK.out, T1.out⟩

end Go.Proofs.YtfghabjpcjcllaaDoor
/- The code's RightOp. -/
namespace Go.Proofs.YtfghabjpcjcllaaDoor
open Go.RowKit
set_option linter.unusedVariables false

set_option maxRecDepth 100000 in
set_option maxHeartbeats 2000000 in
theorem rightop_any (r : OpV) (o : Opr) (b : Bool) (w : World) (ho : ROp w r o) (hm : o.cases.length ≤ 1000000) (hb : rightO o = b) : Calls Tryd.prog 21 #[r.val] w (Says w b) := by
  rw [rightO_code] at hb
  obtain ⟨kind, ch, n, v, ⟨ao, len, cap⟩, els⟩ := r
  obtain ⟨kind', ch', n', v', L, els'⟩ := o
  obtain ⟨e1, e2, e3, e4, e5, hcs⟩ := ho
  dsimp only at e1 e2 e3 e4 e5 hcs hb hm
  subst e1 e2 e3 e4 e5
  have hlen : len = L.length := hcs.ok.len
  have HL := Lib.hid hcs.has
  have HN := Lib.hid hlen.symm
  dsimp only at HL
  rw [← hlen] at hm hb
  clear hcs hlen
  unfold OpV.val Says Sl.val
  dsimp only
  rcases (show (kind < 1) ∨ (1 ≤ kind ∧ 9 < kind) ∨ (1 ≤ kind ∧ kind ≤ 9 ∧ 6 < len) ∨ (1 ≤ kind ∧ kind ≤ 9 ∧ len ≤ 6) by omega) with h1 | ⟨h1, h2⟩ | ⟨h1, h2, h3⟩ | ⟨h1, h2, h3⟩
  · obtain rfl : b = false := by rw [← hb]; simp; omega
    clear hb
    go_enter Tryd.func21, Tryd.ntmps21
    go_wp2_with fail
    go_ret
    exact ⟨rfl, (Turn.refl _ w).alloc _⟩
  · obtain rfl : b = false := by rw [← hb]; simp; omega
    clear hb
    go_enter Tryd.func21, Tryd.ntmps21
    go_wp2_with fail
    go_ret
    exact ⟨rfl, (Turn.refl _ w).alloc _⟩
  · obtain rfl : b = false := by rw [← hb]; simp; omega
    clear hb
    go_enter Tryd.func21, Tryd.ntmps21
    go_wp2_with fail
    go_ret
    exact ⟨rfl, (Turn.refl _ w).alloc _⟩
  · obtain ⟨f1, q1⟩ : ∃ f, fitB ch (hasCh kind) 8 = f := ⟨_, rfl⟩
    obtain ⟨f2, q2⟩ : ∃ f, fitB n (kind == 1) 4 = f := ⟨_, rfl⟩
    obtain ⟨f3, q3⟩ : ∃ f, fitB v (hasV kind) 255 = f := ⟨_, rfl⟩
    obtain ⟨f4, q4⟩ : ∃ f, L.all rightC = f := ⟨_, rfl⟩
    rw [q1, q2, q3, q4] at hb
    have e1 : (decide (1 ≤ kind) && decide (kind ≤ 9) && decide (len ≤ 6)) = true := by simp; omega
    rw [e1, Bool.true_and] at hb
    have Q1 := Lib.hid q1
    have Q2 := Lib.hid q2
    have Q3 := Lib.hid q3
    have Q4 := Lib.hid q4
    clear e1 q1 q2 q3 q4
    by_cases k9 : kind = 9
    · subst k9
      have e2 : (((9 : Int) == 9) || (!els && len == 0)) = true := by simp
      rw [e2, Bool.true_and] at hb
      clear e2
      have HB := Lib.hid hb
      clear hb
      go_enter Tryd.func21, Tryd.ntmps21
      go_upto_region 1 with fail
      have C := at6_new w 9 ch n v (.slice ao len cap) els 25
      have T0 := Lib.hid ((Turn.refl (fun _ => False) w).alloc (.cells #[.int .i64 9, .int .i64 ch, .int .i64 n, .int .i64 v, .slice ao len cap, .bool els] 25))
      obtain ⟨BB, hBB⟩ : ∃ b, w.heap.size = b := ⟨_, rfl⟩
      rw [hBB] at C ⊢
      generalize w.alloc (.cells #[.int .i64 9, .int .i64 ch, .int .i64 n, .int .i64 v, .slice ao len cap, .bool els] 25) = w1 at C T0 ⊢
      obtain ⟨c0, c1, c2, c3, c4, c5⟩ := C
      have C := Lib.hid (At6.mk c0 c1 c2 c3 c4 c5)
      go_upto_region 6 with fail
      clear c0 c1 c2 c3 c4 c5
      have TD := Lib.hid (Turn.refl (fun _ => False) w1).drew
      have KEEP := Lib.hid (show ∀ w', Turn (fun _ => False) w1 w' → (w'.cell? ⟨BB, 0, none⟩ = some (.int .i64 9) ∧ w'.cell? ⟨BB, 1, none⟩ = some (.int .i64 ch) ∧ w'.cell? ⟨BB, 2, none⟩ = some (.int .i64 n) ∧ w'.cell? ⟨BB, 3, none⟩ = some (.int .i64 v) ∧ w'.cell? ⟨BB, 4, none⟩ = some (.slice ao len cap)) from fun w' t => let C' := C.out.turn t id; ⟨C'.c0, C'.c1, C'.c2, C'.c3, C'.c4⟩)
      refine stand_start (by kernel_rfl) 99 (fun w' => w'.cell? ⟨BB, 0, none⟩ = some (.int .i64 9) ∧ w'.cell? ⟨BB, 1, none⟩ = some (.int .i64 ch) ∧ w'.cell? ⟨BB, 2, none⟩ = some (.int .i64 n) ∧ w'.cell? ⟨BB, 3, none⟩ = some (.int .i64 v) ∧ w'.cell? ⟨BB, 4, none⟩ = some (.slice ao len cap)) 99 (fun w' => True) (KEEP.out _ TD.out) trivial ?_
      refine stand_take (i := 0) (v := ?_) rfl (by kernel_rfl) (by kernel_rfl) (by kernel_rfl) (by rfl) (fun _ _ _ h => h) (by decide) (by decide) (by rfl) ?_ ?_
      rotate_left
      · (intro w; go_simp; try with_reducible rfl)
      dsimp only [List.set_cons_zero, List.set_cons_succ]
      refine stand_load3 (i := 1) (v := ?_) rfl (by kernel_rfl) (by kernel_rfl) (by kernel_rfl) (by rfl) (fun _ _ _ h => h) (by decide) (by decide) (by kernel_rfl) (by rfl) ?_ ?_
      rotate_left
      · (intro w hA; (try dsimp only at hA); go_simp; try with_reducible rfl)
      dsimp only [List.set_cons_zero, List.set_cons_succ]
      refine stand_take (i := 2) (v := ?_) rfl (by kernel_rfl) (by kernel_rfl) (by kernel_rfl) (by rfl) (fun _ _ _ h => h) (by decide) (by decide) (by rfl) ?_ ?_
      rotate_left
      · (intro w; go_simp; try with_reducible rfl)
      dsimp only [List.set_cons_zero, List.set_cons_succ]
      refine stand_load3 (i := 3) (v := ?_) rfl (by kernel_rfl) (by kernel_rfl) (by kernel_rfl) (by rfl) (fun _ _ _ h => h) (by decide) (by decide) (by kernel_rfl) (by rfl) ?_ ?_
      rotate_left
      · (intro w hA; (try dsimp only at hA); go_simp; try with_reducible rfl)
      dsimp only [List.set_cons_zero, List.set_cons_succ]
      refine stand_step (i := 4) (by kernel_rfl) rfl (fun K hK => ?_)
      go_simp
      refine (hasch_any _ _ _ rfl).mono ?_
      rintro e w4 ⟨rfl, rfl⟩
      refine hK.out _ _ (fun _ => KEEP.out _ TD.out) (fun _ => trivial) ?_
      clear hK K
      try simp only [put_laid, List.set_cons_zero, List.set_cons_succ]
      refine stand_step (i := 5) (by kernel_rfl) rfl (fun K hK => ?_)
      go_simp
      refine (fits_any _ _ _ f1 _ Q1.out).mono ?_
      rintro e w4 ⟨rfl, rfl⟩
      refine hK.out _ _ (fun _ => KEEP.out _ TD.out) (fun _ => trivial) ?_
      clear hK K
      try simp only [put_laid, List.set_cons_zero, List.set_cons_succ]
      refine stand_take (i := 6) (v := ?_) rfl (by kernel_rfl) (by kernel_rfl) (by kernel_rfl) (by rfl) (fun _ _ _ h => h) (by decide) (by decide) (by rfl) ?_ ?_
      rotate_left
      · (intro w; go_simp; try with_reducible rfl)
      dsimp only [List.set_cons_zero, List.set_cons_succ]
      cases f1
      · obtain rfl : b = false := by rw [← HB.out]; simp
        refine stand_skip (i := 7) rfl (by kernel_rfl) (by kernel_rfl) (by kernel_rfl) (by rfl) (fun _ _ _ h => h) (by decide) (by decide) (by rfl) ?_
        dsimp only [List.set_cons_zero, List.set_cons_succ]
        refine stand_skip (i := 8) rfl (by kernel_rfl) (by kernel_rfl) (by kernel_rfl) (by rfl) (fun _ _ _ h => h) (by decide) (by decide) (by rfl) ?_
        dsimp only [List.set_cons_zero, List.set_cons_succ]
        refine stand_skip (i := 9) rfl (by kernel_rfl) (by kernel_rfl) (by kernel_rfl) (by rfl) (fun _ _ _ h => h) (by decide) (by decide) (by rfl) ?_
        dsimp only [List.set_cons_zero, List.set_cons_succ]
        refine stand_skip (i := 10) rfl (by kernel_rfl) (by kernel_rfl) (by kernel_rfl) (by rfl) (fun _ _ _ h => h) (by decide) (by decide) (by rfl) ?_
        dsimp only [List.set_cons_zero, List.set_cons_succ]
        refine stand_skip (i := 11) rfl (by kernel_rfl) (by kernel_rfl) (by kernel_rfl) (by rfl) (fun _ _ _ h => h) (by decide) (by decide) (by rfl) ?_
        dsimp only [List.set_cons_zero, List.set_cons_succ]
        refine stand_skip (i := 12) rfl (by kernel_rfl) (by kernel_rfl) (by kernel_rfl) (by rfl) (fun _ _ _ h => h) (by decide) (by decide) (by rfl) ?_
        dsimp only [List.set_cons_zero, List.set_cons_succ]
        refine stand_take (i := 13) (v := ?_) rfl (by kernel_rfl) (by kernel_rfl) (by kernel_rfl) (by rfl) (fun _ _ _ h => h) (by decide) (by decide) (by rfl) ?_ ?_
        rotate_left
        · (intro w; go_simp; try with_reducible rfl)
        dsimp only [List.set_cons_zero, List.set_cons_succ]
        refine stand_take (i := 14) (v := ?_) rfl (by kernel_rfl) (by kernel_rfl) (by kernel_rfl) (by rfl) (fun _ _ _ h => h) (by decide) (by decide) (by rfl) ?_ ?_
        rotate_left
        · (intro w; go_simp; try with_reducible rfl)
        dsimp only [List.set_cons_zero, List.set_cons_succ]
        refine stand_skip (i := 15) rfl (by kernel_rfl) (by kernel_rfl) (by kernel_rfl) (by rfl) (fun _ _ _ h => h) (by decide) (by decide) (by rfl) ?_
        dsimp only [List.set_cons_zero, List.set_cons_succ]
        refine stand_skip (i := 16) rfl (by kernel_rfl) (by kernel_rfl) (by kernel_rfl) (by rfl) (fun _ _ _ h => h) (by decide) (by decide) (by rfl) ?_
        dsimp only [List.set_cons_zero, List.set_cons_succ]
        refine stand_skip (i := 17) rfl (by kernel_rfl) (by kernel_rfl) (by kernel_rfl) (by rfl) (fun _ _ _ h => h) (by decide) (by decide) (by rfl) ?_
        dsimp only [List.set_cons_zero, List.set_cons_succ]
        refine stand_skip (i := 18) rfl (by kernel_rfl) (by kernel_rfl) (by kernel_rfl) (by rfl) (fun _ _ _ h => h) (by decide) (by decide) (by rfl) ?_
        dsimp only [List.set_cons_zero, List.set_cons_succ]
        refine stand_skip (i := 19) rfl (by kernel_rfl) (by kernel_rfl) (by kernel_rfl) (by rfl) (fun _ _ _ h => h) (by decide) (by decide) (by rfl) ?_
        dsimp only [List.set_cons_zero, List.set_cons_succ]
        refine stand_skip (i := 20) rfl (by kernel_rfl) (by kernel_rfl) (by kernel_rfl) (by rfl) (fun _ _ _ h => h) (by decide) (by decide) (by rfl) ?_
        dsimp only [List.set_cons_zero, List.set_cons_succ]
        refine stand_take (i := 21) (v := ?_) rfl (by kernel_rfl) (by kernel_rfl) (by kernel_rfl) (by rfl) (fun _ _ _ h => h) (by decide) (by decide) (by rfl) ?_ ?_
        rotate_left
        · (intro w; go_simp; try with_reducible rfl)
        dsimp only [List.set_cons_zero, List.set_cons_succ]
        refine stand_take (i := 22) (v := ?_) rfl (by kernel_rfl) (by kernel_rfl) (by kernel_rfl) (by rfl) (fun _ _ _ h => h) (by decide) (by decide) (by rfl) ?_ ?_
        rotate_left
        · (intro w; go_simp; try with_reducible rfl)
        dsimp only [List.set_cons_zero, List.set_cons_succ]
        refine stand_skip (i := 23) rfl (by kernel_rfl) (by kernel_rfl) (by kernel_rfl) (by rfl) (fun _ _ _ h => h) (by decide) (by decide) (by rfl) ?_
        dsimp only [List.set_cons_zero, List.set_cons_succ]
        refine stand_skip (i := 24) rfl (by kernel_rfl) (by kernel_rfl) (by kernel_rfl) (by rfl) (fun _ _ _ h => h) (by decide) (by decide) (by rfl) ?_
        dsimp only [List.set_cons_zero, List.set_cons_succ]
        refine stand_skip (i := 25) rfl (by kernel_rfl) (by kernel_rfl) (by kernel_rfl) (by rfl) (fun _ _ _ h => h) (by decide) (by decide) (by rfl) ?_
        dsimp only [List.set_cons_zero, List.set_cons_succ]
        refine stand_skip (i := 26) rfl (by kernel_rfl) (by kernel_rfl) (by kernel_rfl) (by rfl) (fun _ _ _ h => h) (by decide) (by decide) (by rfl) ?_
        dsimp only [List.set_cons_zero, List.set_cons_succ]
        refine stand_skip (i := 27) rfl (by kernel_rfl) (by kernel_rfl) (by kernel_rfl) (by rfl) (fun _ _ _ h => h) (by decide) (by decide) (by rfl) ?_
        dsimp only [List.set_cons_zero, List.set_cons_succ]
        refine stand_take (i := 28) (v := ?_) rfl (by kernel_rfl) (by kernel_rfl) (by kernel_rfl) (by rfl) (fun _ _ _ h => h) (by decide) (by decide) (by rfl) ?_ ?_
        rotate_left
        · (intro w; go_simp; try with_reducible rfl)
        dsimp only [List.set_cons_zero, List.set_cons_succ]
        refine stand_take (i := 29) (v := ?_) rfl (by kernel_rfl) (by kernel_rfl) (by kernel_rfl) (by rfl) (fun _ _ _ h => h) (by decide) (by decide) (by rfl) ?_ ?_
        rotate_left
        · (intro w; go_simp; try with_reducible rfl)
        dsimp only [List.set_cons_zero, List.set_cons_succ]
        refine stand_done (by kernel_rfl) ?_
        go_wp2_with fail
        go_ret
        exact ⟨rfl, T0.out.trans TD.out⟩
      refine stand_take (i := 7) (v := ?_) rfl (by kernel_rfl) (by kernel_rfl) (by kernel_rfl) (by rfl) (fun _ _ _ h => h) (by decide) (by decide) (by rfl) ?_ ?_
      rotate_left
      · (intro w; go_simp; try with_reducible rfl)
      dsimp only [List.set_cons_zero, List.set_cons_succ]
      refine stand_load3 (i := 8) (v := ?_) rfl (by kernel_rfl) (by kernel_rfl) (by kernel_rfl) (by rfl) (fun _ _ _ h => h) (by decide) (by decide) (by kernel_rfl) (by rfl) ?_ ?_
      rotate_left
      · (intro w hA; (try dsimp only at hA); go_simp; try with_reducible rfl)
      dsimp only [List.set_cons_zero, List.set_cons_succ]
      refine stand_take (i := 9) (v := ?_) rfl (by kernel_rfl) (by kernel_rfl) (by kernel_rfl) (by rfl) (fun _ _ _ h => h) (by decide) (by decide) (by rfl) ?_ ?_
      rotate_left
      · (intro w; go_simp; try with_reducible rfl)
      dsimp only [List.set_cons_zero, List.set_cons_succ]
      refine stand_load3 (i := 10) (v := ?_) rfl (by kernel_rfl) (by kernel_rfl) (by kernel_rfl) (by rfl) (fun _ _ _ h => h) (by decide) (by decide) (by kernel_rfl) (by rfl) ?_ ?_
      rotate_left
      · (intro w hA; (try dsimp only at hA); go_simp; try with_reducible rfl)
      dsimp only [List.set_cons_zero, List.set_cons_succ]
      refine stand_step (i := 11) (by kernel_rfl) rfl (fun K hK => ?_)
      go_simp
      refine (hasn_any _ _ _ rfl).mono ?_
      rintro e w4 ⟨rfl, rfl⟩
      refine hK.out _ _ (fun _ => KEEP.out _ TD.out) (fun _ => trivial) ?_
      clear hK K
      try simp only [put_laid, List.set_cons_zero, List.set_cons_succ]
      refine stand_step (i := 12) (by kernel_rfl) rfl (fun K hK => ?_)
      go_simp
      refine (fits_any _ _ _ f2 _ Q2.out).mono ?_
      rintro e w4 ⟨rfl, rfl⟩
      refine hK.out _ _ (fun _ => KEEP.out _ TD.out) (fun _ => trivial) ?_
      clear hK K
      try simp only [put_laid, List.set_cons_zero, List.set_cons_succ]
      refine stand_take (i := 13) (v := ?_) rfl (by kernel_rfl) (by kernel_rfl) (by kernel_rfl) (by rfl) (fun _ _ _ h => h) (by decide) (by decide) (by rfl) ?_ ?_
      rotate_left
      · (intro w; go_simp; try with_reducible rfl)
      dsimp only [List.set_cons_zero, List.set_cons_succ]
      refine stand_take (i := 14) (v := ?_) rfl (by kernel_rfl) (by kernel_rfl) (by kernel_rfl) (by rfl) (fun _ _ _ h => h) (by decide) (by decide) (by rfl) ?_ ?_
      rotate_left
      · (intro w; go_simp; try with_reducible rfl)
      dsimp only [List.set_cons_zero, List.set_cons_succ]
      cases f2
      · obtain rfl : b = false := by rw [← HB.out]; simp
        refine stand_skip (i := 15) rfl (by kernel_rfl) (by kernel_rfl) (by kernel_rfl) (by rfl) (fun _ _ _ h => h) (by decide) (by decide) (by rfl) ?_
        dsimp only [List.set_cons_zero, List.set_cons_succ]
        refine stand_skip (i := 16) rfl (by kernel_rfl) (by kernel_rfl) (by kernel_rfl) (by rfl) (fun _ _ _ h => h) (by decide) (by decide) (by rfl) ?_
        dsimp only [List.set_cons_zero, List.set_cons_succ]
        refine stand_skip (i := 17) rfl (by kernel_rfl) (by kernel_rfl) (by kernel_rfl) (by rfl) (fun _ _ _ h => h) (by decide) (by decide) (by rfl) ?_
        dsimp only [List.set_cons_zero, List.set_cons_succ]
        refine stand_skip (i := 18) rfl (by kernel_rfl) (by kernel_rfl) (by kernel_rfl) (by rfl) (fun _ _ _ h => h) (by decide) (by decide) (by rfl) ?_
        dsimp only [List.set_cons_zero, List.set_cons_succ]
        refine stand_skip (i := 19) rfl (by kernel_rfl) (by kernel_rfl) (by kernel_rfl) (by rfl) (fun _ _ _ h => h) (by decide) (by decide) (by rfl) ?_
        dsimp only [List.set_cons_zero, List.set_cons_succ]
        refine stand_skip (i := 20) rfl (by kernel_rfl) (by kernel_rfl) (by kernel_rfl) (by rfl) (fun _ _ _ h => h) (by decide) (by decide) (by rfl) ?_
        dsimp only [List.set_cons_zero, List.set_cons_succ]
        refine stand_take (i := 21) (v := ?_) rfl (by kernel_rfl) (by kernel_rfl) (by kernel_rfl) (by rfl) (fun _ _ _ h => h) (by decide) (by decide) (by rfl) ?_ ?_
        rotate_left
        · (intro w; go_simp; try with_reducible rfl)
        dsimp only [List.set_cons_zero, List.set_cons_succ]
        refine stand_take (i := 22) (v := ?_) rfl (by kernel_rfl) (by kernel_rfl) (by kernel_rfl) (by rfl) (fun _ _ _ h => h) (by decide) (by decide) (by rfl) ?_ ?_
        rotate_left
        · (intro w; go_simp; try with_reducible rfl)
        dsimp only [List.set_cons_zero, List.set_cons_succ]
        refine stand_skip (i := 23) rfl (by kernel_rfl) (by kernel_rfl) (by kernel_rfl) (by rfl) (fun _ _ _ h => h) (by decide) (by decide) (by rfl) ?_
        dsimp only [List.set_cons_zero, List.set_cons_succ]
        refine stand_skip (i := 24) rfl (by kernel_rfl) (by kernel_rfl) (by kernel_rfl) (by rfl) (fun _ _ _ h => h) (by decide) (by decide) (by rfl) ?_
        dsimp only [List.set_cons_zero, List.set_cons_succ]
        refine stand_skip (i := 25) rfl (by kernel_rfl) (by kernel_rfl) (by kernel_rfl) (by rfl) (fun _ _ _ h => h) (by decide) (by decide) (by rfl) ?_
        dsimp only [List.set_cons_zero, List.set_cons_succ]
        refine stand_skip (i := 26) rfl (by kernel_rfl) (by kernel_rfl) (by kernel_rfl) (by rfl) (fun _ _ _ h => h) (by decide) (by decide) (by rfl) ?_
        dsimp only [List.set_cons_zero, List.set_cons_succ]
        refine stand_skip (i := 27) rfl (by kernel_rfl) (by kernel_rfl) (by kernel_rfl) (by rfl) (fun _ _ _ h => h) (by decide) (by decide) (by rfl) ?_
        dsimp only [List.set_cons_zero, List.set_cons_succ]
        refine stand_take (i := 28) (v := ?_) rfl (by kernel_rfl) (by kernel_rfl) (by kernel_rfl) (by rfl) (fun _ _ _ h => h) (by decide) (by decide) (by rfl) ?_ ?_
        rotate_left
        · (intro w; go_simp; try with_reducible rfl)
        dsimp only [List.set_cons_zero, List.set_cons_succ]
        refine stand_take (i := 29) (v := ?_) rfl (by kernel_rfl) (by kernel_rfl) (by kernel_rfl) (by rfl) (fun _ _ _ h => h) (by decide) (by decide) (by rfl) ?_ ?_
        rotate_left
        · (intro w; go_simp; try with_reducible rfl)
        dsimp only [List.set_cons_zero, List.set_cons_succ]
        refine stand_done (by kernel_rfl) ?_
        go_wp2_with fail
        go_ret
        exact ⟨rfl, T0.out.trans TD.out⟩
      refine stand_take (i := 15) (v := ?_) rfl (by kernel_rfl) (by kernel_rfl) (by kernel_rfl) (by rfl) (fun _ _ _ h => h) (by decide) (by decide) (by rfl) ?_ ?_
      rotate_left
      · (intro w; go_simp; try with_reducible rfl)
      dsimp only [List.set_cons_zero, List.set_cons_succ]
      refine stand_load3 (i := 16) (v := ?_) rfl (by kernel_rfl) (by kernel_rfl) (by kernel_rfl) (by rfl) (fun _ _ _ h => h) (by decide) (by decide) (by kernel_rfl) (by rfl) ?_ ?_
      rotate_left
      · (intro w hA; (try dsimp only at hA); go_simp; try with_reducible rfl)
      dsimp only [List.set_cons_zero, List.set_cons_succ]
      refine stand_take (i := 17) (v := ?_) rfl (by kernel_rfl) (by kernel_rfl) (by kernel_rfl) (by rfl) (fun _ _ _ h => h) (by decide) (by decide) (by rfl) ?_ ?_
      rotate_left
      · (intro w; go_simp; try with_reducible rfl)
      dsimp only [List.set_cons_zero, List.set_cons_succ]
      refine stand_load3 (i := 18) (v := ?_) rfl (by kernel_rfl) (by kernel_rfl) (by kernel_rfl) (by rfl) (fun _ _ _ h => h) (by decide) (by decide) (by kernel_rfl) (by rfl) ?_ ?_
      rotate_left
      · (intro w hA; (try dsimp only at hA); go_simp; try with_reducible rfl)
      dsimp only [List.set_cons_zero, List.set_cons_succ]
      refine stand_step (i := 19) (by kernel_rfl) rfl (fun K hK => ?_)
      go_simp
      refine (hasv_any _ _ _ rfl).mono ?_
      rintro e w4 ⟨rfl, rfl⟩
      refine hK.out _ _ (fun _ => KEEP.out _ TD.out) (fun _ => trivial) ?_
      clear hK K
      try simp only [put_laid, List.set_cons_zero, List.set_cons_succ]
      refine stand_step (i := 20) (by kernel_rfl) rfl (fun K hK => ?_)
      go_simp
      refine (fits_any _ _ _ f3 _ Q3.out).mono ?_
      rintro e w4 ⟨rfl, rfl⟩
      refine hK.out _ _ (fun _ => KEEP.out _ TD.out) (fun _ => trivial) ?_
      clear hK K
      try simp only [put_laid, List.set_cons_zero, List.set_cons_succ]
      refine stand_take (i := 21) (v := ?_) rfl (by kernel_rfl) (by kernel_rfl) (by kernel_rfl) (by rfl) (fun _ _ _ h => h) (by decide) (by decide) (by rfl) ?_ ?_
      rotate_left
      · (intro w; go_simp; try with_reducible rfl)
      dsimp only [List.set_cons_zero, List.set_cons_succ]
      refine stand_take (i := 22) (v := ?_) rfl (by kernel_rfl) (by kernel_rfl) (by kernel_rfl) (by rfl) (fun _ _ _ h => h) (by decide) (by decide) (by rfl) ?_ ?_
      rotate_left
      · (intro w; go_simp; try with_reducible rfl)
      dsimp only [List.set_cons_zero, List.set_cons_succ]
      cases f3
      · obtain rfl : b = false := by rw [← HB.out]; simp
        refine stand_skip (i := 23) rfl (by kernel_rfl) (by kernel_rfl) (by kernel_rfl) (by rfl) (fun _ _ _ h => h) (by decide) (by decide) (by rfl) ?_
        dsimp only [List.set_cons_zero, List.set_cons_succ]
        refine stand_skip (i := 24) rfl (by kernel_rfl) (by kernel_rfl) (by kernel_rfl) (by rfl) (fun _ _ _ h => h) (by decide) (by decide) (by rfl) ?_
        dsimp only [List.set_cons_zero, List.set_cons_succ]
        refine stand_skip (i := 25) rfl (by kernel_rfl) (by kernel_rfl) (by kernel_rfl) (by rfl) (fun _ _ _ h => h) (by decide) (by decide) (by rfl) ?_
        dsimp only [List.set_cons_zero, List.set_cons_succ]
        refine stand_skip (i := 26) rfl (by kernel_rfl) (by kernel_rfl) (by kernel_rfl) (by rfl) (fun _ _ _ h => h) (by decide) (by decide) (by rfl) ?_
        dsimp only [List.set_cons_zero, List.set_cons_succ]
        refine stand_skip (i := 27) rfl (by kernel_rfl) (by kernel_rfl) (by kernel_rfl) (by rfl) (fun _ _ _ h => h) (by decide) (by decide) (by rfl) ?_
        dsimp only [List.set_cons_zero, List.set_cons_succ]
        refine stand_take (i := 28) (v := ?_) rfl (by kernel_rfl) (by kernel_rfl) (by kernel_rfl) (by rfl) (fun _ _ _ h => h) (by decide) (by decide) (by rfl) ?_ ?_
        rotate_left
        · (intro w; go_simp; try with_reducible rfl)
        dsimp only [List.set_cons_zero, List.set_cons_succ]
        refine stand_take (i := 29) (v := ?_) rfl (by kernel_rfl) (by kernel_rfl) (by kernel_rfl) (by rfl) (fun _ _ _ h => h) (by decide) (by decide) (by rfl) ?_ ?_
        rotate_left
        · (intro w; go_simp; try with_reducible rfl)
        dsimp only [List.set_cons_zero, List.set_cons_succ]
        refine stand_done (by kernel_rfl) ?_
        go_wp2_with fail
        go_ret
        exact ⟨rfl, T0.out.trans TD.out⟩
      refine stand_take (i := 23) (v := ?_) rfl (by kernel_rfl) (by kernel_rfl) (by kernel_rfl) (by rfl) (fun _ _ _ h => h) (by decide) (by decide) (by rfl) ?_ ?_
      rotate_left
      · (intro w; go_simp; try with_reducible rfl)
      dsimp only [List.set_cons_zero, List.set_cons_succ]
      refine stand_load3 (i := 24) (v := ?_) rfl (by kernel_rfl) (by kernel_rfl) (by kernel_rfl) (by rfl) (fun _ _ _ h => h) (by decide) (by decide) (by kernel_rfl) (by rfl) ?_ ?_
      rotate_left
      · (intro w hA; (try dsimp only at hA); go_simp; try with_reducible rfl)
      dsimp only [List.set_cons_zero, List.set_cons_succ]
      refine stand_take (i := 25) (v := ?_) rfl (by kernel_rfl) (by kernel_rfl) (by kernel_rfl) (by rfl) (fun _ _ _ h => h) (by decide) (by decide) (by rfl) ?_ ?_
      rotate_left
      · (intro w; go_simp; try with_reducible rfl)
      dsimp only [List.set_cons_zero, List.set_cons_succ]
      refine stand_step (i := 26) (by kernel_rfl) rfl (fun K hK => ?_)
      go_simp
      refine (containsc_any f4 _ (HL.out.new (T0.out.trans TD.out)) HN.out hm Q4.out).mono ?_
      rintro e w4 ⟨rfl, t4⟩
      have T4 := Lib.hid (TD.out.trans t4)
      clear t4
      refine hK.out _ _ (fun _ => KEEP.out _ T4.out) (fun _ => trivial) ?_
      clear hK K
      try simp only [put_laid, List.set_cons_zero, List.set_cons_succ]
      refine stand_take (i := 27) (v := ?_) rfl (by kernel_rfl) (by kernel_rfl) (by kernel_rfl) (by rfl) (fun _ _ _ h => h) (by decide) (by decide) (by rfl) ?_ ?_
      rotate_left
      · (intro w; go_simp; try with_reducible rfl)
      dsimp only [List.set_cons_zero, List.set_cons_succ]
      refine stand_take (i := 28) (v := ?_) rfl (by kernel_rfl) (by kernel_rfl) (by kernel_rfl) (by rfl) (fun _ _ _ h => h) (by decide) (by decide) (by rfl) ?_ ?_
      rotate_left
      · (intro w; go_simp; try with_reducible rfl)
      dsimp only [List.set_cons_zero, List.set_cons_succ]
      refine stand_take (i := 29) (v := ?_) rfl (by kernel_rfl) (by kernel_rfl) (by kernel_rfl) (by rfl) (fun _ _ _ h => h) (by decide) (by decide) (by rfl) ?_ ?_
      rotate_left
      · (intro w; go_simp; try with_reducible rfl)
      dsimp only [List.set_cons_zero, List.set_cons_succ]
      refine stand_done (by kernel_rfl) ?_
      obtain rfl : b = f4 := by rw [← HB.out]; simp
      go_wp2_with fail
      go_ret
      exact ⟨by simp, T0.out.trans T4.out⟩
    · cases els
      · rcases Nat.lt_or_ge 0 len with hz | hz
        · obtain rfl : b = false := by
            rw [← hb]
            have e2 : ((kind == 9) || (!false && len == 0)) = false := by simp [k9]; omega
            rw [e2, Bool.false_and]
          clear hb
          go_enter Tryd.func21, Tryd.ntmps21
          go_wp2_with fail
          go_ret
          exact ⟨rfl, (Turn.refl _ w).alloc _⟩
        · have hz' : len = 0 := by omega
          have e2 : ((kind == 9) || (!false && len == 0)) = true := by simp [hz']
          rw [e2, Bool.true_and] at hb
          clear e2 hz'
          have HB := Lib.hid hb
          clear hb
          go_enter Tryd.func21, Tryd.ntmps21
          go_upto_region 1 with fail
          have C := at6_new w kind ch n v (.slice ao len cap) false 25
          have T0 := Lib.hid ((Turn.refl (fun _ => False) w).alloc (.cells #[.int .i64 kind, .int .i64 ch, .int .i64 n, .int .i64 v, .slice ao len cap, .bool false] 25))
          obtain ⟨BB, hBB⟩ : ∃ b, w.heap.size = b := ⟨_, rfl⟩
          rw [hBB] at C ⊢
          generalize w.alloc (.cells #[.int .i64 kind, .int .i64 ch, .int .i64 n, .int .i64 v, .slice ao len cap, .bool false] 25) = w1 at C T0 ⊢
          obtain ⟨c0, c1, c2, c3, c4, c5⟩ := C
          have C := Lib.hid (At6.mk c0 c1 c2 c3 c4 c5)
          go_upto_region 6 with fail
          clear c0 c1 c2 c3 c4 c5
          have TD := Lib.hid (Turn.refl (fun _ => False) w1).drew
          have KEEP := Lib.hid (show ∀ w', Turn (fun _ => False) w1 w' → (w'.cell? ⟨BB, 0, none⟩ = some (.int .i64 kind) ∧ w'.cell? ⟨BB, 1, none⟩ = some (.int .i64 ch) ∧ w'.cell? ⟨BB, 2, none⟩ = some (.int .i64 n) ∧ w'.cell? ⟨BB, 3, none⟩ = some (.int .i64 v) ∧ w'.cell? ⟨BB, 4, none⟩ = some (.slice ao len cap)) from fun w' t => let C' := C.out.turn t id; ⟨C'.c0, C'.c1, C'.c2, C'.c3, C'.c4⟩)
          refine stand_start (by kernel_rfl) 99 (fun w' => w'.cell? ⟨BB, 0, none⟩ = some (.int .i64 kind) ∧ w'.cell? ⟨BB, 1, none⟩ = some (.int .i64 ch) ∧ w'.cell? ⟨BB, 2, none⟩ = some (.int .i64 n) ∧ w'.cell? ⟨BB, 3, none⟩ = some (.int .i64 v) ∧ w'.cell? ⟨BB, 4, none⟩ = some (.slice ao len cap)) 99 (fun w' => True) (KEEP.out _ TD.out) trivial ?_
          refine stand_take (i := 0) (v := ?_) rfl (by kernel_rfl) (by kernel_rfl) (by kernel_rfl) (by rfl) (fun _ _ _ h => h) (by decide) (by decide) (by rfl) ?_ ?_
          rotate_left
          · (intro w; go_simp; try with_reducible rfl)
          dsimp only [List.set_cons_zero, List.set_cons_succ]
          refine stand_load3 (i := 1) (v := ?_) rfl (by kernel_rfl) (by kernel_rfl) (by kernel_rfl) (by rfl) (fun _ _ _ h => h) (by decide) (by decide) (by kernel_rfl) (by rfl) ?_ ?_
          rotate_left
          · (intro w hA; (try dsimp only at hA); go_simp; try with_reducible rfl)
          dsimp only [List.set_cons_zero, List.set_cons_succ]
          refine stand_take (i := 2) (v := ?_) rfl (by kernel_rfl) (by kernel_rfl) (by kernel_rfl) (by rfl) (fun _ _ _ h => h) (by decide) (by decide) (by rfl) ?_ ?_
          rotate_left
          · (intro w; go_simp; try with_reducible rfl)
          dsimp only [List.set_cons_zero, List.set_cons_succ]
          refine stand_load3 (i := 3) (v := ?_) rfl (by kernel_rfl) (by kernel_rfl) (by kernel_rfl) (by rfl) (fun _ _ _ h => h) (by decide) (by decide) (by kernel_rfl) (by rfl) ?_ ?_
          rotate_left
          · (intro w hA; (try dsimp only at hA); go_simp; try with_reducible rfl)
          dsimp only [List.set_cons_zero, List.set_cons_succ]
          refine stand_step (i := 4) (by kernel_rfl) rfl (fun K hK => ?_)
          go_simp
          refine (hasch_any _ _ _ rfl).mono ?_
          rintro e w4 ⟨rfl, rfl⟩
          refine hK.out _ _ (fun _ => KEEP.out _ TD.out) (fun _ => trivial) ?_
          clear hK K
          try simp only [put_laid, List.set_cons_zero, List.set_cons_succ]
          refine stand_step (i := 5) (by kernel_rfl) rfl (fun K hK => ?_)
          go_simp
          refine (fits_any _ _ _ f1 _ Q1.out).mono ?_
          rintro e w4 ⟨rfl, rfl⟩
          refine hK.out _ _ (fun _ => KEEP.out _ TD.out) (fun _ => trivial) ?_
          clear hK K
          try simp only [put_laid, List.set_cons_zero, List.set_cons_succ]
          refine stand_take (i := 6) (v := ?_) rfl (by kernel_rfl) (by kernel_rfl) (by kernel_rfl) (by rfl) (fun _ _ _ h => h) (by decide) (by decide) (by rfl) ?_ ?_
          rotate_left
          · (intro w; go_simp; try with_reducible rfl)
          dsimp only [List.set_cons_zero, List.set_cons_succ]
          cases f1
          · obtain rfl : b = false := by rw [← HB.out]; simp
            refine stand_skip (i := 7) rfl (by kernel_rfl) (by kernel_rfl) (by kernel_rfl) (by rfl) (fun _ _ _ h => h) (by decide) (by decide) (by rfl) ?_
            dsimp only [List.set_cons_zero, List.set_cons_succ]
            refine stand_skip (i := 8) rfl (by kernel_rfl) (by kernel_rfl) (by kernel_rfl) (by rfl) (fun _ _ _ h => h) (by decide) (by decide) (by rfl) ?_
            dsimp only [List.set_cons_zero, List.set_cons_succ]
            refine stand_skip (i := 9) rfl (by kernel_rfl) (by kernel_rfl) (by kernel_rfl) (by rfl) (fun _ _ _ h => h) (by decide) (by decide) (by rfl) ?_
            dsimp only [List.set_cons_zero, List.set_cons_succ]
            refine stand_skip (i := 10) rfl (by kernel_rfl) (by kernel_rfl) (by kernel_rfl) (by rfl) (fun _ _ _ h => h) (by decide) (by decide) (by rfl) ?_
            dsimp only [List.set_cons_zero, List.set_cons_succ]
            refine stand_skip (i := 11) rfl (by kernel_rfl) (by kernel_rfl) (by kernel_rfl) (by rfl) (fun _ _ _ h => h) (by decide) (by decide) (by rfl) ?_
            dsimp only [List.set_cons_zero, List.set_cons_succ]
            refine stand_skip (i := 12) rfl (by kernel_rfl) (by kernel_rfl) (by kernel_rfl) (by rfl) (fun _ _ _ h => h) (by decide) (by decide) (by rfl) ?_
            dsimp only [List.set_cons_zero, List.set_cons_succ]
            refine stand_take (i := 13) (v := ?_) rfl (by kernel_rfl) (by kernel_rfl) (by kernel_rfl) (by rfl) (fun _ _ _ h => h) (by decide) (by decide) (by rfl) ?_ ?_
            rotate_left
            · (intro w; go_simp; try with_reducible rfl)
            dsimp only [List.set_cons_zero, List.set_cons_succ]
            refine stand_take (i := 14) (v := ?_) rfl (by kernel_rfl) (by kernel_rfl) (by kernel_rfl) (by rfl) (fun _ _ _ h => h) (by decide) (by decide) (by rfl) ?_ ?_
            rotate_left
            · (intro w; go_simp; try with_reducible rfl)
            dsimp only [List.set_cons_zero, List.set_cons_succ]
            refine stand_skip (i := 15) rfl (by kernel_rfl) (by kernel_rfl) (by kernel_rfl) (by rfl) (fun _ _ _ h => h) (by decide) (by decide) (by rfl) ?_
            dsimp only [List.set_cons_zero, List.set_cons_succ]
            refine stand_skip (i := 16) rfl (by kernel_rfl) (by kernel_rfl) (by kernel_rfl) (by rfl) (fun _ _ _ h => h) (by decide) (by decide) (by rfl) ?_
            dsimp only [List.set_cons_zero, List.set_cons_succ]
            refine stand_skip (i := 17) rfl (by kernel_rfl) (by kernel_rfl) (by kernel_rfl) (by rfl) (fun _ _ _ h => h) (by decide) (by decide) (by rfl) ?_
            dsimp only [List.set_cons_zero, List.set_cons_succ]
            refine stand_skip (i := 18) rfl (by kernel_rfl) (by kernel_rfl) (by kernel_rfl) (by rfl) (fun _ _ _ h => h) (by decide) (by decide) (by rfl) ?_
            dsimp only [List.set_cons_zero, List.set_cons_succ]
            refine stand_skip (i := 19) rfl (by kernel_rfl) (by kernel_rfl) (by kernel_rfl) (by rfl) (fun _ _ _ h => h) (by decide) (by decide) (by rfl) ?_
            dsimp only [List.set_cons_zero, List.set_cons_succ]
            refine stand_skip (i := 20) rfl (by kernel_rfl) (by kernel_rfl) (by kernel_rfl) (by rfl) (fun _ _ _ h => h) (by decide) (by decide) (by rfl) ?_
            dsimp only [List.set_cons_zero, List.set_cons_succ]
            refine stand_take (i := 21) (v := ?_) rfl (by kernel_rfl) (by kernel_rfl) (by kernel_rfl) (by rfl) (fun _ _ _ h => h) (by decide) (by decide) (by rfl) ?_ ?_
            rotate_left
            · (intro w; go_simp; try with_reducible rfl)
            dsimp only [List.set_cons_zero, List.set_cons_succ]
            refine stand_take (i := 22) (v := ?_) rfl (by kernel_rfl) (by kernel_rfl) (by kernel_rfl) (by rfl) (fun _ _ _ h => h) (by decide) (by decide) (by rfl) ?_ ?_
            rotate_left
            · (intro w; go_simp; try with_reducible rfl)
            dsimp only [List.set_cons_zero, List.set_cons_succ]
            refine stand_skip (i := 23) rfl (by kernel_rfl) (by kernel_rfl) (by kernel_rfl) (by rfl) (fun _ _ _ h => h) (by decide) (by decide) (by rfl) ?_
            dsimp only [List.set_cons_zero, List.set_cons_succ]
            refine stand_skip (i := 24) rfl (by kernel_rfl) (by kernel_rfl) (by kernel_rfl) (by rfl) (fun _ _ _ h => h) (by decide) (by decide) (by rfl) ?_
            dsimp only [List.set_cons_zero, List.set_cons_succ]
            refine stand_skip (i := 25) rfl (by kernel_rfl) (by kernel_rfl) (by kernel_rfl) (by rfl) (fun _ _ _ h => h) (by decide) (by decide) (by rfl) ?_
            dsimp only [List.set_cons_zero, List.set_cons_succ]
            refine stand_skip (i := 26) rfl (by kernel_rfl) (by kernel_rfl) (by kernel_rfl) (by rfl) (fun _ _ _ h => h) (by decide) (by decide) (by rfl) ?_
            dsimp only [List.set_cons_zero, List.set_cons_succ]
            refine stand_skip (i := 27) rfl (by kernel_rfl) (by kernel_rfl) (by kernel_rfl) (by rfl) (fun _ _ _ h => h) (by decide) (by decide) (by rfl) ?_
            dsimp only [List.set_cons_zero, List.set_cons_succ]
            refine stand_take (i := 28) (v := ?_) rfl (by kernel_rfl) (by kernel_rfl) (by kernel_rfl) (by rfl) (fun _ _ _ h => h) (by decide) (by decide) (by rfl) ?_ ?_
            rotate_left
            · (intro w; go_simp; try with_reducible rfl)
            dsimp only [List.set_cons_zero, List.set_cons_succ]
            refine stand_take (i := 29) (v := ?_) rfl (by kernel_rfl) (by kernel_rfl) (by kernel_rfl) (by rfl) (fun _ _ _ h => h) (by decide) (by decide) (by rfl) ?_ ?_
            rotate_left
            · (intro w; go_simp; try with_reducible rfl)
            dsimp only [List.set_cons_zero, List.set_cons_succ]
            refine stand_done (by kernel_rfl) ?_
            go_wp2_with fail
            go_ret
            exact ⟨rfl, T0.out.trans TD.out⟩
          refine stand_take (i := 7) (v := ?_) rfl (by kernel_rfl) (by kernel_rfl) (by kernel_rfl) (by rfl) (fun _ _ _ h => h) (by decide) (by decide) (by rfl) ?_ ?_
          rotate_left
          · (intro w; go_simp; try with_reducible rfl)
          dsimp only [List.set_cons_zero, List.set_cons_succ]
          refine stand_load3 (i := 8) (v := ?_) rfl (by kernel_rfl) (by kernel_rfl) (by kernel_rfl) (by rfl) (fun _ _ _ h => h) (by decide) (by decide) (by kernel_rfl) (by rfl) ?_ ?_
          rotate_left
          · (intro w hA; (try dsimp only at hA); go_simp; try with_reducible rfl)
          dsimp only [List.set_cons_zero, List.set_cons_succ]
          refine stand_take (i := 9) (v := ?_) rfl (by kernel_rfl) (by kernel_rfl) (by kernel_rfl) (by rfl) (fun _ _ _ h => h) (by decide) (by decide) (by rfl) ?_ ?_
          rotate_left
          · (intro w; go_simp; try with_reducible rfl)
          dsimp only [List.set_cons_zero, List.set_cons_succ]
          refine stand_load3 (i := 10) (v := ?_) rfl (by kernel_rfl) (by kernel_rfl) (by kernel_rfl) (by rfl) (fun _ _ _ h => h) (by decide) (by decide) (by kernel_rfl) (by rfl) ?_ ?_
          rotate_left
          · (intro w hA; (try dsimp only at hA); go_simp; try with_reducible rfl)
          dsimp only [List.set_cons_zero, List.set_cons_succ]
          refine stand_step (i := 11) (by kernel_rfl) rfl (fun K hK => ?_)
          go_simp
          refine (hasn_any _ _ _ rfl).mono ?_
          rintro e w4 ⟨rfl, rfl⟩
          refine hK.out _ _ (fun _ => KEEP.out _ TD.out) (fun _ => trivial) ?_
          clear hK K
          try simp only [put_laid, List.set_cons_zero, List.set_cons_succ]
          refine stand_step (i := 12) (by kernel_rfl) rfl (fun K hK => ?_)
          go_simp
          refine (fits_any _ _ _ f2 _ Q2.out).mono ?_
          rintro e w4 ⟨rfl, rfl⟩
          refine hK.out _ _ (fun _ => KEEP.out _ TD.out) (fun _ => trivial) ?_
          clear hK K
          try simp only [put_laid, List.set_cons_zero, List.set_cons_succ]
          refine stand_take (i := 13) (v := ?_) rfl (by kernel_rfl) (by kernel_rfl) (by kernel_rfl) (by rfl) (fun _ _ _ h => h) (by decide) (by decide) (by rfl) ?_ ?_
          rotate_left
          · (intro w; go_simp; try with_reducible rfl)
          dsimp only [List.set_cons_zero, List.set_cons_succ]
          refine stand_take (i := 14) (v := ?_) rfl (by kernel_rfl) (by kernel_rfl) (by kernel_rfl) (by rfl) (fun _ _ _ h => h) (by decide) (by decide) (by rfl) ?_ ?_
          rotate_left
          · (intro w; go_simp; try with_reducible rfl)
          dsimp only [List.set_cons_zero, List.set_cons_succ]
          cases f2
          · obtain rfl : b = false := by rw [← HB.out]; simp
            refine stand_skip (i := 15) rfl (by kernel_rfl) (by kernel_rfl) (by kernel_rfl) (by rfl) (fun _ _ _ h => h) (by decide) (by decide) (by rfl) ?_
            dsimp only [List.set_cons_zero, List.set_cons_succ]
            refine stand_skip (i := 16) rfl (by kernel_rfl) (by kernel_rfl) (by kernel_rfl) (by rfl) (fun _ _ _ h => h) (by decide) (by decide) (by rfl) ?_
            dsimp only [List.set_cons_zero, List.set_cons_succ]
            refine stand_skip (i := 17) rfl (by kernel_rfl) (by kernel_rfl) (by kernel_rfl) (by rfl) (fun _ _ _ h => h) (by decide) (by decide) (by rfl) ?_
            dsimp only [List.set_cons_zero, List.set_cons_succ]
            refine stand_skip (i := 18) rfl (by kernel_rfl) (by kernel_rfl) (by kernel_rfl) (by rfl) (fun _ _ _ h => h) (by decide) (by decide) (by rfl) ?_
            dsimp only [List.set_cons_zero, List.set_cons_succ]
            refine stand_skip (i := 19) rfl (by kernel_rfl) (by kernel_rfl) (by kernel_rfl) (by rfl) (fun _ _ _ h => h) (by decide) (by decide) (by rfl) ?_
            dsimp only [List.set_cons_zero, List.set_cons_succ]
            refine stand_skip (i := 20) rfl (by kernel_rfl) (by kernel_rfl) (by kernel_rfl) (by rfl) (fun _ _ _ h => h) (by decide) (by decide) (by rfl) ?_
            dsimp only [List.set_cons_zero, List.set_cons_succ]
            refine stand_take (i := 21) (v := ?_) rfl (by kernel_rfl) (by kernel_rfl) (by kernel_rfl) (by rfl) (fun _ _ _ h => h) (by decide) (by decide) (by rfl) ?_ ?_
            rotate_left
            · (intro w; go_simp; try with_reducible rfl)
            dsimp only [List.set_cons_zero, List.set_cons_succ]
            refine stand_take (i := 22) (v := ?_) rfl (by kernel_rfl) (by kernel_rfl) (by kernel_rfl) (by rfl) (fun _ _ _ h => h) (by decide) (by decide) (by rfl) ?_ ?_
            rotate_left
            · (intro w; go_simp; try with_reducible rfl)
            dsimp only [List.set_cons_zero, List.set_cons_succ]
            refine stand_skip (i := 23) rfl (by kernel_rfl) (by kernel_rfl) (by kernel_rfl) (by rfl) (fun _ _ _ h => h) (by decide) (by decide) (by rfl) ?_
            dsimp only [List.set_cons_zero, List.set_cons_succ]
            refine stand_skip (i := 24) rfl (by kernel_rfl) (by kernel_rfl) (by kernel_rfl) (by rfl) (fun _ _ _ h => h) (by decide) (by decide) (by rfl) ?_
            dsimp only [List.set_cons_zero, List.set_cons_succ]
            refine stand_skip (i := 25) rfl (by kernel_rfl) (by kernel_rfl) (by kernel_rfl) (by rfl) (fun _ _ _ h => h) (by decide) (by decide) (by rfl) ?_
            dsimp only [List.set_cons_zero, List.set_cons_succ]
            refine stand_skip (i := 26) rfl (by kernel_rfl) (by kernel_rfl) (by kernel_rfl) (by rfl) (fun _ _ _ h => h) (by decide) (by decide) (by rfl) ?_
            dsimp only [List.set_cons_zero, List.set_cons_succ]
            refine stand_skip (i := 27) rfl (by kernel_rfl) (by kernel_rfl) (by kernel_rfl) (by rfl) (fun _ _ _ h => h) (by decide) (by decide) (by rfl) ?_
            dsimp only [List.set_cons_zero, List.set_cons_succ]
            refine stand_take (i := 28) (v := ?_) rfl (by kernel_rfl) (by kernel_rfl) (by kernel_rfl) (by rfl) (fun _ _ _ h => h) (by decide) (by decide) (by rfl) ?_ ?_
            rotate_left
            · (intro w; go_simp; try with_reducible rfl)
            dsimp only [List.set_cons_zero, List.set_cons_succ]
            refine stand_take (i := 29) (v := ?_) rfl (by kernel_rfl) (by kernel_rfl) (by kernel_rfl) (by rfl) (fun _ _ _ h => h) (by decide) (by decide) (by rfl) ?_ ?_
            rotate_left
            · (intro w; go_simp; try with_reducible rfl)
            dsimp only [List.set_cons_zero, List.set_cons_succ]
            refine stand_done (by kernel_rfl) ?_
            go_wp2_with fail
            go_ret
            exact ⟨rfl, T0.out.trans TD.out⟩
          refine stand_take (i := 15) (v := ?_) rfl (by kernel_rfl) (by kernel_rfl) (by kernel_rfl) (by rfl) (fun _ _ _ h => h) (by decide) (by decide) (by rfl) ?_ ?_
          rotate_left
          · (intro w; go_simp; try with_reducible rfl)
          dsimp only [List.set_cons_zero, List.set_cons_succ]
          refine stand_load3 (i := 16) (v := ?_) rfl (by kernel_rfl) (by kernel_rfl) (by kernel_rfl) (by rfl) (fun _ _ _ h => h) (by decide) (by decide) (by kernel_rfl) (by rfl) ?_ ?_
          rotate_left
          · (intro w hA; (try dsimp only at hA); go_simp; try with_reducible rfl)
          dsimp only [List.set_cons_zero, List.set_cons_succ]
          refine stand_take (i := 17) (v := ?_) rfl (by kernel_rfl) (by kernel_rfl) (by kernel_rfl) (by rfl) (fun _ _ _ h => h) (by decide) (by decide) (by rfl) ?_ ?_
          rotate_left
          · (intro w; go_simp; try with_reducible rfl)
          dsimp only [List.set_cons_zero, List.set_cons_succ]
          refine stand_load3 (i := 18) (v := ?_) rfl (by kernel_rfl) (by kernel_rfl) (by kernel_rfl) (by rfl) (fun _ _ _ h => h) (by decide) (by decide) (by kernel_rfl) (by rfl) ?_ ?_
          rotate_left
          · (intro w hA; (try dsimp only at hA); go_simp; try with_reducible rfl)
          dsimp only [List.set_cons_zero, List.set_cons_succ]
          refine stand_step (i := 19) (by kernel_rfl) rfl (fun K hK => ?_)
          go_simp
          refine (hasv_any _ _ _ rfl).mono ?_
          rintro e w4 ⟨rfl, rfl⟩
          refine hK.out _ _ (fun _ => KEEP.out _ TD.out) (fun _ => trivial) ?_
          clear hK K
          try simp only [put_laid, List.set_cons_zero, List.set_cons_succ]
          refine stand_step (i := 20) (by kernel_rfl) rfl (fun K hK => ?_)
          go_simp
          refine (fits_any _ _ _ f3 _ Q3.out).mono ?_
          rintro e w4 ⟨rfl, rfl⟩
          refine hK.out _ _ (fun _ => KEEP.out _ TD.out) (fun _ => trivial) ?_
          clear hK K
          try simp only [put_laid, List.set_cons_zero, List.set_cons_succ]
          refine stand_take (i := 21) (v := ?_) rfl (by kernel_rfl) (by kernel_rfl) (by kernel_rfl) (by rfl) (fun _ _ _ h => h) (by decide) (by decide) (by rfl) ?_ ?_
          rotate_left
          · (intro w; go_simp; try with_reducible rfl)
          dsimp only [List.set_cons_zero, List.set_cons_succ]
          refine stand_take (i := 22) (v := ?_) rfl (by kernel_rfl) (by kernel_rfl) (by kernel_rfl) (by rfl) (fun _ _ _ h => h) (by decide) (by decide) (by rfl) ?_ ?_
          rotate_left
          · (intro w; go_simp; try with_reducible rfl)
          dsimp only [List.set_cons_zero, List.set_cons_succ]
          cases f3
          · obtain rfl : b = false := by rw [← HB.out]; simp
            refine stand_skip (i := 23) rfl (by kernel_rfl) (by kernel_rfl) (by kernel_rfl) (by rfl) (fun _ _ _ h => h) (by decide) (by decide) (by rfl) ?_
            dsimp only [List.set_cons_zero, List.set_cons_succ]
            refine stand_skip (i := 24) rfl (by kernel_rfl) (by kernel_rfl) (by kernel_rfl) (by rfl) (fun _ _ _ h => h) (by decide) (by decide) (by rfl) ?_
            dsimp only [List.set_cons_zero, List.set_cons_succ]
            refine stand_skip (i := 25) rfl (by kernel_rfl) (by kernel_rfl) (by kernel_rfl) (by rfl) (fun _ _ _ h => h) (by decide) (by decide) (by rfl) ?_
            dsimp only [List.set_cons_zero, List.set_cons_succ]
            refine stand_skip (i := 26) rfl (by kernel_rfl) (by kernel_rfl) (by kernel_rfl) (by rfl) (fun _ _ _ h => h) (by decide) (by decide) (by rfl) ?_
            dsimp only [List.set_cons_zero, List.set_cons_succ]
            refine stand_skip (i := 27) rfl (by kernel_rfl) (by kernel_rfl) (by kernel_rfl) (by rfl) (fun _ _ _ h => h) (by decide) (by decide) (by rfl) ?_
            dsimp only [List.set_cons_zero, List.set_cons_succ]
            refine stand_take (i := 28) (v := ?_) rfl (by kernel_rfl) (by kernel_rfl) (by kernel_rfl) (by rfl) (fun _ _ _ h => h) (by decide) (by decide) (by rfl) ?_ ?_
            rotate_left
            · (intro w; go_simp; try with_reducible rfl)
            dsimp only [List.set_cons_zero, List.set_cons_succ]
            refine stand_take (i := 29) (v := ?_) rfl (by kernel_rfl) (by kernel_rfl) (by kernel_rfl) (by rfl) (fun _ _ _ h => h) (by decide) (by decide) (by rfl) ?_ ?_
            rotate_left
            · (intro w; go_simp; try with_reducible rfl)
            dsimp only [List.set_cons_zero, List.set_cons_succ]
            refine stand_done (by kernel_rfl) ?_
            go_wp2_with fail
            go_ret
            exact ⟨rfl, T0.out.trans TD.out⟩
          refine stand_take (i := 23) (v := ?_) rfl (by kernel_rfl) (by kernel_rfl) (by kernel_rfl) (by rfl) (fun _ _ _ h => h) (by decide) (by decide) (by rfl) ?_ ?_
          rotate_left
          · (intro w; go_simp; try with_reducible rfl)
          dsimp only [List.set_cons_zero, List.set_cons_succ]
          refine stand_load3 (i := 24) (v := ?_) rfl (by kernel_rfl) (by kernel_rfl) (by kernel_rfl) (by rfl) (fun _ _ _ h => h) (by decide) (by decide) (by kernel_rfl) (by rfl) ?_ ?_
          rotate_left
          · (intro w hA; (try dsimp only at hA); go_simp; try with_reducible rfl)
          dsimp only [List.set_cons_zero, List.set_cons_succ]
          refine stand_take (i := 25) (v := ?_) rfl (by kernel_rfl) (by kernel_rfl) (by kernel_rfl) (by rfl) (fun _ _ _ h => h) (by decide) (by decide) (by rfl) ?_ ?_
          rotate_left
          · (intro w; go_simp; try with_reducible rfl)
          dsimp only [List.set_cons_zero, List.set_cons_succ]
          refine stand_step (i := 26) (by kernel_rfl) rfl (fun K hK => ?_)
          go_simp
          refine (containsc_any f4 _ (HL.out.new (T0.out.trans TD.out)) HN.out hm Q4.out).mono ?_
          rintro e w4 ⟨rfl, t4⟩
          have T4 := Lib.hid (TD.out.trans t4)
          clear t4
          refine hK.out _ _ (fun _ => KEEP.out _ T4.out) (fun _ => trivial) ?_
          clear hK K
          try simp only [put_laid, List.set_cons_zero, List.set_cons_succ]
          refine stand_take (i := 27) (v := ?_) rfl (by kernel_rfl) (by kernel_rfl) (by kernel_rfl) (by rfl) (fun _ _ _ h => h) (by decide) (by decide) (by rfl) ?_ ?_
          rotate_left
          · (intro w; go_simp; try with_reducible rfl)
          dsimp only [List.set_cons_zero, List.set_cons_succ]
          refine stand_take (i := 28) (v := ?_) rfl (by kernel_rfl) (by kernel_rfl) (by kernel_rfl) (by rfl) (fun _ _ _ h => h) (by decide) (by decide) (by rfl) ?_ ?_
          rotate_left
          · (intro w; go_simp; try with_reducible rfl)
          dsimp only [List.set_cons_zero, List.set_cons_succ]
          refine stand_take (i := 29) (v := ?_) rfl (by kernel_rfl) (by kernel_rfl) (by kernel_rfl) (by rfl) (fun _ _ _ h => h) (by decide) (by decide) (by rfl) ?_ ?_
          rotate_left
          · (intro w; go_simp; try with_reducible rfl)
          dsimp only [List.set_cons_zero, List.set_cons_succ]
          refine stand_done (by kernel_rfl) ?_
          obtain rfl : b = f4 := by rw [← HB.out]; simp
          go_wp2_with fail
          go_ret
          exact ⟨by simp, T0.out.trans T4.out⟩
      · obtain rfl : b = false := by
          rw [← hb]
          have e2 : ((kind == 9) || (!true && len == 0)) = false := by simp [k9]
          rw [e2, Bool.false_and]
        clear hb
        go_enter Tryd.func21, Tryd.ntmps21
        go_wp2_with fail
        go_ret
        exact ⟨rfl, (Turn.refl _ w).alloc _⟩

end Go.Proofs.YtfghabjpcjcllaaDoor
/- The code's Right. -/
namespace Go.Proofs.YtfghabjpcjcllaaDoor
open Go.RowKit
set_option linter.unusedVariables false

theorem wrongo_any (r : OpV) (o : Opr) (b : Bool) (w : World) (ho : ROp w r o) (hm : o.cases.length ≤ 1000000) (hb : rightO o = b) : Calls Tryd.prog 35 #[r.val] w (Says w (!b)) := by
  have HO := Lib.hid ho
  have HB := Lib.hid hb
  clear ho hb
  obtain ⟨kind, ch, n, v, ⟨ao, len, cap⟩, els⟩ := r
  unfold OpV.val Says Sl.val
  dsimp only
  go_enter Tryd.func35, Tryd.ntmps35
  go_wp2_with fail
  refine (rightop_any ⟨kind, ch, n, v, ⟨ao, len, cap⟩, els⟩ o b _ (HO.out.new ((Turn.refl _ w).alloc _)) hm HB.out).mono ?_
  rintro e w1 ⟨rfl, t1⟩
  have T1 := Lib.hid t1
  clear t1
  go_wp2_with fail
  go_ret
  exact ⟨rfl, ((Turn.refl _ w).alloc _).trans T1.out⟩

theorem indexo_any {s : Sl} {n : Nat} {l : List Opr} (b : Bool) (w : World) (hL : ROps w s l) (hn : l.length = n) (hm : MildL l) (hb : l.all rightO = b) :
    Calls Tryd.prog 54 #[.slice s.ao n s.cap, .func (.func 35) #[] #[]] w fun e w' => ∃ k : Int, e = .returned (.int .i64 k) ∧ decide (0 ≤ k) = !b ∧ -1 ≤ k ∧ k ≤ 1000000 ∧ Turn (fun _ => False) w w' := by
  obtain ⟨ao, len, c⟩ := s
  have HL := Lib.hid hL
  have HN := Lib.hid hn
  have HB := Lib.hid hb
  have HM := Lib.hid hm
  have hm : n ≤ 1000000 := hn ▸ hm.1
  clear hL hn hb
  dsimp only
  go_enter Tryd.func54, Tryd.ntmps54
  go_upto_region 2 with fail
  go_loopw [8] (fun s8 wr => ∃ i : Nat, i ≤ n ∧ s8 = .int .i64 i ∧ Hid (∀ (j : Nat) x, j < i → l[j]? = some x → rightO x = true) ∧ Hid (Turn (fun _ => False) w wr)) (fun s8 _ => n - (intOf s8).toNat)
  case atStart => exact ⟨0, Nat.zero_le _, rfl, Lib.hid fun j x hj => absurd hj (Nat.not_lt_zero _), Lib.hid (Turn.refl _ _)⟩
  case round =>
    obtain ⟨i, hi, rfl, HA, HT⟩ := hrel
    by_cases hlt : i < n
    · obtain ⟨x, hx⟩ : ∃ x, l[i]? = some x := ⟨_, List.getElem?_eq_getElem (by rw [HN.out]; exact hlt)⟩
      obtain ⟨a, r, ha, hr, hc⟩ := (HL.out.new HT.out).at hx
      dsimp only at ha
      subst ha
      obtain ⟨kind, ch, n', v, ⟨ao', len', cap'⟩, els⟩ := r
      obtain ⟨c0, c1, c2, c3, c4, c5⟩ := cells6 hc
      have HX := Lib.hid hx
      obtain ⟨f, hf⟩ : ∃ f, rightO x = f := ⟨_, rfl⟩
      have HF := Lib.hid hf
      have HR := Lib.hid hr
      clear hx hc hf hr
      unfold Sl.val at c4
      dsimp only at c0 c1 c2 c3 c4 c5
      go_wp2_with fail
      refine (wrongo_any _ x f _ HR.out (HM.out.at HX.out) HF.out).mono ?_
      rintro e w1 ⟨rfl, t1⟩
      have T1 := Lib.hid t1
      clear t1 c0 c1 c2 c3 c4 c5
      cases f
      · go_wp2_with fail
        go_ret
        refine ⟨_, rfl, ?_, by omega, by omega, HT.out.trans T1.out⟩
        rw [← HB.out, all_no HX.out HF.out]
        simp
      · go_wp2_with fail
        go_roundw
        case rel =>
          refine ⟨i + 1, by omega, by go_num, Lib.hid fun j y hj hy => ?_, Lib.hid (HT.out.trans T1.out)⟩
          rcases Nat.lt_or_ge j i with h | h
          · exact HA.out j y h hy
          · obtain rfl : j = i := by omega
            rw [HX.out] at hy
            obtain rfl := Option.some.inj hy
            exact HF.out
        case measure => simp [intOf]; omega
    · have hin : i = n := by omega
      have HIN := Lib.hid hin
      clear hin
      go_wp2_with fail
      go_ret
      refine ⟨_, rfl, ?_, by omega, by omega, HT.out⟩
      rw [← HB.out, all_yes (fun j x hx => HA.out j x (by have := (List.getElem?_eq_some_iff.1 hx).1; have := HIN.out; have := HN.out; omega) hx)]
      rfl

theorem containso_any {s : Sl} {n : Nat} {l : List Opr} (b : Bool) (w : World) (hL : ROps w s l) (hn : l.length = n) (hm : MildL l) (hb : l.all rightO = b) :
    Calls Tryd.prog 36 #[.slice s.ao n s.cap, .func (.func 35) #[] #[]] w (Says w (!b)) := by
  have HL := Lib.hid hL
  have HN := Lib.hid hn
  have HB := Lib.hid hb
  have HM := Lib.hid hm
  clear hL hn hb hm
  unfold Says
  go_enter Tryd.func36, Tryd.ntmps36
  go_wp2_with fail
  refine (indexo_any b w HL.out HN.out HM.out HB.out).mono ?_
  rintro e w1 ⟨k, rfl, hk, k1, k2, t1⟩
  have HK := Lib.hid hk
  have T1 := Lib.hid t1
  clear hk t1
  go_wp2_with fail
  go_ret
  exact ⟨ret_bool HK.out, T1.out⟩

theorem right_any {s : Sl} {n : Nat} {p : List (List Opr)} (b : Bool) (w : World) (hP : RPlan w s p) (hn : p.length = n) (hm : MildP p) (hb : rightP p = b) : Calls Tryd.prog 18 #[.slice s.ao n s.cap] w (Says w b) := by
  obtain ⟨ao, len, c⟩ := s
  have HP := Lib.hid hP
  have HN := Lib.hid hn
  have HM := Lib.hid hm
  have hm : n ≤ 1000000 := hn ▸ hm.1
  have HE := Lib.hid (show rightP p = (p.all rightL && decide (1 ≤ n) && decide (n ≤ 8)) by unfold rightP; rw [hn])
  rw [HE.out] at hb
  clear hP hn
  unfold Says
  dsimp only
  rcases (show n < 1 ∨ 8 < n ∨ (1 ≤ n ∧ n ≤ 8) by omega) with h1 | h1 | ⟨h1, h2⟩
  · obtain rfl : b = false := by rw [← hb]; simp; omega
    clear hb
    go_enter Tryd.func18, Tryd.ntmps18
    go_wp2_with fail
    go_ret
    exact ⟨rfl, Turn.refl _ w⟩
  · obtain rfl : b = false := by rw [← hb]; simp; omega
    clear hb
    go_enter Tryd.func18, Tryd.ntmps18
    go_wp2_with fail
    go_ret
    exact ⟨rfl, Turn.refl _ w⟩
  have HB := Lib.hid (show p.all rightL = b by rw [← hb]; simp [h1, h2])
  clear hb
  go_enter Tryd.func18, Tryd.ntmps18
  go_upto_region 5 with fail
  go_loopw [16] (fun s16 wr => ∃ i : Nat, i ≤ n ∧ s16 = .int .i64 i ∧ Hid (∀ (j : Nat) x, j < i → p[j]? = some x → rightL x = true) ∧ Hid (Turn (fun _ => False) w wr)) (fun s16 _ => n - (intOf s16).toNat)
  case atStart => exact ⟨0, Nat.zero_le _, rfl, Lib.hid fun j x hj => absurd hj (Nat.not_lt_zero _), Lib.hid (Turn.refl _ _)⟩
  case round =>
    obtain ⟨i, hi, rfl, HA, HT⟩ := hrel
    by_cases hlt : i < n
    · obtain ⟨x, hx⟩ : ∃ x, p[i]? = some x := ⟨_, List.getElem?_eq_getElem (by rw [HN.out]; exact hlt)⟩
      obtain ⟨a, y, ha, hr, hc⟩ := (HP.out.new HT.out).at hx
      dsimp only at ha
      subst ha
      obtain ⟨ao', len', cap'⟩ := y
      have hl' : len' = x.length := hr.ok.len
      have hml := (HM.out.at hx).1
      rw [← hl'] at hml
      have HX := Lib.hid hx
      have HR := Lib.hid hr
      have HL' := Lib.hid hl'
      unfold Sl.val at hc
      dsimp only at hc
      clear hx hr hl'
      rcases Nat.lt_or_ge 16 len' with hlong | hshort
      · go_wp2_with fail
        go_ret
        refine ⟨ret_bool ?_, HT.out⟩
        rw [← HB.out, all_no HX.out]
        unfold rightL
        rw [← HL'.out]
        simp
        omega
      · obtain ⟨f, hf⟩ : ∃ f, x.all rightO = f := ⟨_, rfl⟩
        have HF := Lib.hid hf
        clear hf
        go_wp2_with fail
        refine (containso_any (s := ⟨ao', len', cap'⟩) f _ HR.out HL'.out.symm (HM.out.at HX.out) HF.out).mono ?_
        rintro e w1 ⟨rfl, t1⟩
        have T1 := Lib.hid t1
        clear t1 hc
        cases f
        · go_wp2_with fail
          go_ret
          refine ⟨ret_bool ?_, HT.out.trans T1.out⟩
          rw [← HB.out, all_no HX.out]
          unfold rightL
          rw [HF.out]
          rfl
        · have HXL := Lib.hid (show rightL x = true by unfold rightL; rw [HF.out, ← HL'.out]; simp [hshort])
          go_wp2_with fail
          go_roundw
          case rel =>
            refine ⟨i + 1, by omega, by go_num, Lib.hid fun j y hj hy => ?_, Lib.hid (HT.out.trans T1.out)⟩
            rcases Nat.lt_or_ge j i with h | h
            · exact HA.out j y h hy
            · obtain rfl : j = i := by omega
              rw [HX.out] at hy
              obtain rfl := Option.some.inj hy
              exact HXL.out
          case measure => simp [intOf]; omega
    · have hin : i = n := by omega
      have HIN := Lib.hid hin
      clear hin
      go_wp2_with fail
      go_ret
      refine ⟨ret_bool ?_, HT.out⟩
      rw [← HB.out, all_yes (fun j x hx => HA.out j x (by have := (List.getElem?_eq_some_iff.1 hx).1; have := HIN.out; have := HN.out; omega) hx)]

end Go.Proofs.YtfghabjpcjcllaaDoor
