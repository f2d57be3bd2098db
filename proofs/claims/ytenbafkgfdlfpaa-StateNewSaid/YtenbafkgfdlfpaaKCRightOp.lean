/- The code's RightOp. -/
import Derived.Test.YtenbafkgfdlfpaaKCFun
import Derived.Test.YtenbafkgfdlfpaaGSkip
namespace Go.Proofs.Ytenbafkgfdlfpaa
open Go.RowKit
set_option linter.unusedVariables false

set_option maxRecDepth 100000 in
set_option maxHeartbeats 2000000 in
theorem rightop_any (r : OpV) (o : Opr) (b : Bool) (w : World) (ho : ROp w r o) (hb : rightO o = b) : Calls Try.prog 30 #[r.val] w (Says w b) := by
  rw [rightO_code] at hb
  obtain ⟨kind, ch, n, v, ⟨ao, len, cap⟩, els⟩ := r
  obtain ⟨kind', ch', n', v', L, els'⟩ := o
  obtain ⟨e1, e2, e3, e4, e5, hcs⟩ := ho
  dsimp only at e1 e2 e3 e4 e5 hcs hb
  subst e1 e2 e3 e4 e5
  have hlen : len = L.length := hcs.ok.len
  have HL := Lib.hid hcs.has
  have HN := Lib.hid hlen.symm
  dsimp only at HL
  rw [← hlen] at hb
  clear hcs hlen
  unfold OpV.val Says Sl.val
  dsimp only
  rcases (show (kind < 1) ∨ (1 ≤ kind ∧ 9 < kind) ∨ (1 ≤ kind ∧ kind ≤ 9 ∧ 6 < len) ∨ (1 ≤ kind ∧ kind ≤ 9 ∧ len ≤ 6) by omega) with h1 | ⟨h1, h2⟩ | ⟨h1, h2, h3⟩ | ⟨h1, h2, h3⟩
  · obtain rfl : b = false := by rw [← hb]; simp; omega
    clear hb
    go_enter Try.func30, Try.ntmps30
    go_wp2_with fail
    go_ret
    exact ⟨rfl, (Turn.refl _ w).alloc _⟩
  · obtain rfl : b = false := by rw [← hb]; simp; omega
    clear hb
    go_enter Try.func30, Try.ntmps30
    go_wp2_with fail
    go_ret
    exact ⟨rfl, (Turn.refl _ w).alloc _⟩
  · obtain rfl : b = false := by rw [← hb]; simp; omega
    clear hb
    go_enter Try.func30, Try.ntmps30
    go_wp2_with fail
    go_ret
    exact ⟨rfl, (Turn.refl _ w).alloc _⟩
  · obtain ⟨f1, q1⟩ : ∃ f, fitB ch (hasCh kind) 8 = f := ⟨_, rfl⟩
    obtain ⟨f2, q2⟩ : ∃ f, fitB n (kind == 1) 4 = f := ⟨_, rfl⟩
    obtain ⟨f3, q3⟩ : ∃ f, fitB v (hasV kind) 255 = f := ⟨_, rfl⟩
    obtain ⟨f4, q4⟩ : ∃ f, L.all rightC = f := ⟨_, rfl⟩
    rw [q1, q2, q3, q4] at hb
    have e1 : (decide (1 ≤ kind) && decide (kind ≤ 9) && decide (len ≤ 6)) = true := by simp; omega
    rw [e1, Bool.true_and] at hb
    have Q1 := Lib.hid q1
    have Q2 := Lib.hid q2
    have Q3 := Lib.hid q3
    have Q4 := Lib.hid q4
    clear e1 q1 q2 q3 q4
    by_cases k9 : kind = 9
    · subst k9
      have e2 : (((9 : Int) == 9) || (!els && len == 0)) = true := by simp
      rw [e2, Bool.true_and] at hb
      clear e2
      have HB := Lib.hid hb
      clear hb
      go_enter Try.func30, Try.ntmps30
      go_upto_region 1 with fail
      have C := at6_new w 9 ch n v (.slice ao len cap) els 88
      have T0 := Lib.hid ((Turn.refl (fun _ => False) w).alloc (.cells #[.int .i64 9, .int .i64 ch, .int .i64 n, .int .i64 v, .slice ao len cap, .bool els] 88))
      obtain ⟨BB, hBB⟩ : ∃ b, w.heap.size = b := ⟨_, rfl⟩
      rw [hBB] at C ⊢
      generalize w.alloc (.cells #[.int .i64 9, .int .i64 ch, .int .i64 n, .int .i64 v, .slice ao len cap, .bool els] 88) = w1 at C T0 ⊢
      obtain ⟨c0, c1, c2, c3, c4, c5⟩ := C
      have C := Lib.hid (At6.mk c0 c1 c2 c3 c4 c5)
      go_upto_region 6 with fail
      clear c0 c1 c2 c3 c4 c5
      have TD := Lib.hid (Turn.refl (fun _ => False) w1).drew
      have KEEP := Lib.hid (show ∀ w', Turn (fun _ => False) w1 w' → (w'.cell? ⟨BB, 0, none⟩ = some (.int .i64 9) ∧ w'.cell? ⟨BB, 1, none⟩ = some (.int .i64 ch) ∧ w'.cell? ⟨BB, 2, none⟩ = some (.int .i64 n) ∧ w'.cell? ⟨BB, 3, none⟩ = some (.int .i64 v) ∧ w'.cell? ⟨BB, 4, none⟩ = some (.slice ao len cap)) from fun w' t => let C' := C.out.turn t id; ⟨C'.c0, C'.c1, C'.c2, C'.c3, C'.c4⟩)
      refine stand_start (by kernel_rfl) 99 (fun w' => w'.cell? ⟨BB, 0, none⟩ = some (.int .i64 9) ∧ w'.cell? ⟨BB, 1, none⟩ = some (.int .i64 ch) ∧ w'.cell? ⟨BB, 2, none⟩ = some (.int .i64 n) ∧ w'.cell? ⟨BB, 3, none⟩ = some (.int .i64 v) ∧ w'.cell? ⟨BB, 4, none⟩ = some (.slice ao len cap)) 99 (fun w' => True) (KEEP.out _ TD.out) trivial ?_
      refine stand_take (i := 0) (v := ?_) rfl (by kernel_rfl) (by kernel_rfl) (by kernel_rfl) (by rfl) (fun _ _ _ h => h) (by decide) (by decide) (by rfl) ?_ ?_
      rotate_left
      · (intro w; go_simp; try with_reducible rfl)
      dsimp only [List.set_cons_zero, List.set_cons_succ]
      refine stand_load3 (i := 1) (v := ?_) rfl (by kernel_rfl) (by kernel_rfl) (by kernel_rfl) (by rfl) (fun _ _ _ h => h) (by decide) (by decide) (by kernel_rfl) (by rfl) ?_ ?_
      rotate_left
      · (intro w hA; (try dsimp only at hA); go_simp; try with_reducible rfl)
      dsimp only [List.set_cons_zero, List.set_cons_succ]
      refine stand_take (i := 2) (v := ?_) rfl (by kernel_rfl) (by kernel_rfl) (by kernel_rfl) (by rfl) (fun _ _ _ h => h) (by decide) (by decide) (by rfl) ?_ ?_
      rotate_left
      · (intro w; go_simp; try with_reducible rfl)
      dsimp only [List.set_cons_zero, List.set_cons_succ]
      refine stand_load3 (i := 3) (v := ?_) rfl (by kernel_rfl) (by kernel_rfl) (by kernel_rfl) (by rfl) (fun _ _ _ h => h) (by decide) (by decide) (by kernel_rfl) (by rfl) ?_ ?_
      rotate_left
      · (intro w hA; (try dsimp only at hA); go_simp; try with_reducible rfl)
      dsimp only [List.set_cons_zero, List.set_cons_succ]
      refine stand_step (i := 4) (by kernel_rfl) rfl (fun K hK => ?_)
      go_simp
      refine (hasch_any _ _ _ rfl).mono ?_
      rintro e w4 ⟨rfl, rfl⟩
      refine hK.out _ _ (fun _ => KEEP.out _ TD.out) (fun _ => trivial) ?_
      clear hK K
      try simp only [put_laid, List.set_cons_zero, List.set_cons_succ]
      refine stand_step (i := 5) (by kernel_rfl) rfl (fun K hK => ?_)
      go_simp
      refine (fits_any _ _ _ f1 _ Q1.out).mono ?_
      rintro e w4 ⟨rfl, rfl⟩
      refine hK.out _ _ (fun _ => KEEP.out _ TD.out) (fun _ => trivial) ?_
      clear hK K
      try simp only [put_laid, List.set_cons_zero, List.set_cons_succ]
      refine stand_take (i := 6) (v := ?_) rfl (by kernel_rfl) (by kernel_rfl) (by kernel_rfl) (by rfl) (fun _ _ _ h => h) (by decide) (by decide) (by rfl) ?_ ?_
      rotate_left
      · (intro w; go_simp; try with_reducible rfl)
      dsimp only [List.set_cons_zero, List.set_cons_succ]
      cases f1
      · obtain rfl : b = false := by rw [← HB.out]; simp
        refine stand_skip (i := 7) rfl (by kernel_rfl) (by kernel_rfl) (by kernel_rfl) (by rfl) (fun _ _ _ h => h) (by decide) (by decide) (by rfl) ?_
        dsimp only [List.set_cons_zero, List.set_cons_succ]
        refine stand_skip (i := 8) rfl (by kernel_rfl) (by kernel_rfl) (by kernel_rfl) (by rfl) (fun _ _ _ h => h) (by decide) (by decide) (by rfl) ?_
        dsimp only [List.set_cons_zero, List.set_cons_succ]
        refine stand_skip (i := 9) rfl (by kernel_rfl) (by kernel_rfl) (by kernel_rfl) (by rfl) (fun _ _ _ h => h) (by decide) (by decide) (by rfl) ?_
        dsimp only [List.set_cons_zero, List.set_cons_succ]
        refine stand_skip (i := 10) rfl (by kernel_rfl) (by kernel_rfl) (by kernel_rfl) (by rfl) (fun _ _ _ h => h) (by decide) (by decide) (by rfl) ?_
        dsimp only [List.set_cons_zero, List.set_cons_succ]
        refine stand_skip (i := 11) rfl (by kernel_rfl) (by kernel_rfl) (by kernel_rfl) (by rfl) (fun _ _ _ h => h) (by decide) (by decide) (by rfl) ?_
        dsimp only [List.set_cons_zero, List.set_cons_succ]
        refine stand_skip (i := 12) rfl (by kernel_rfl) (by kernel_rfl) (by kernel_rfl) (by rfl) (fun _ _ _ h => h) (by decide) (by decide) (by rfl) ?_
        dsimp only [List.set_cons_zero, List.set_cons_succ]
        refine stand_take (i := 13) (v := ?_) rfl (by kernel_rfl) (by kernel_rfl) (by kernel_rfl) (by rfl) (fun _ _ _ h => h) (by decide) (by decide) (by rfl) ?_ ?_
        rotate_left
        · (intro w; go_simp; try with_reducible rfl)
        dsimp only [List.set_cons_zero, List.set_cons_succ]
        refine stand_take (i := 14) (v := ?_) rfl (by kernel_rfl) (by kernel_rfl) (by kernel_rfl) (by rfl) (fun _ _ _ h => h) (by decide) (by decide) (by rfl) ?_ ?_
        rotate_left
        · (intro w; go_simp; try with_reducible rfl)
        dsimp only [List.set_cons_zero, List.set_cons_succ]
        refine stand_skip (i := 15) rfl (by kernel_rfl) (by kernel_rfl) (by kernel_rfl) (by rfl) (fun _ _ _ h => h) (by decide) (by decide) (by rfl) ?_
        dsimp only [List.set_cons_zero, List.set_cons_succ]
        refine stand_skip (i := 16) rfl (by kernel_rfl) (by kernel_rfl) (by kernel_rfl) (by rfl) (fun _ _ _ h => h) (by decide) (by decide) (by rfl) ?_
        dsimp only [List.set_cons_zero, List.set_cons_succ]
        refine stand_skip (i := 17) rfl (by kernel_rfl) (by kernel_rfl) (by kernel_rfl) (by rfl) (fun _ _ _ h => h) (by decide) (by decide) (by rfl) ?_
        dsimp only [List.set_cons_zero, List.set_cons_succ]
        refine stand_skip (i := 18) rfl (by kernel_rfl) (by kernel_rfl) (by kernel_rfl) (by rfl) (fun _ _ _ h => h) (by decide) (by decide) (by rfl) ?_
        dsimp only [List.set_cons_zero, List.set_cons_succ]
        refine stand_skip (i := 19) rfl (by kernel_rfl) (by kernel_rfl) (by kernel_rfl) (by rfl) (fun _ _ _ h => h) (by decide) (by decide) (by rfl) ?_
        dsimp only [List.set_cons_zero, List.set_cons_succ]
        refine stand_skip (i := 20) rfl (by kernel_rfl) (by kernel_rfl) (by kernel_rfl) (by rfl) (fun _ _ _ h => h) (by decide) (by decide) (by rfl) ?_
        dsimp only [List.set_cons_zero, List.set_cons_succ]
        refine stand_take (i := 21) (v := ?_) rfl (by kernel_rfl) (by kernel_rfl) (by kernel_rfl) (by rfl) (fun _ _ _ h => h) (by decide) (by decide) (by rfl) ?_ ?_
        rotate_left
        · (intro w; go_simp; try with_reducible rfl)
        dsimp only [List.set_cons_zero, List.set_cons_succ]
        refine stand_take (i := 22) (v := ?_) rfl (by kernel_rfl) (by kernel_rfl) (by kernel_rfl) (by rfl) (fun _ _ _ h => h) (by decide) (by decide) (by rfl) ?_ ?_
        rotate_left
        · (intro w; go_simp; try with_reducible rfl)
        dsimp only [List.set_cons_zero, List.set_cons_succ]
        refine stand_skip (i := 23) rfl (by kernel_rfl) (by kernel_rfl) (by kernel_rfl) (by rfl) (fun _ _ _ h => h) (by decide) (by decide) (by rfl) ?_
        dsimp only [List.set_cons_zero, List.set_cons_succ]
        refine stand_skip (i := 24) rfl (by kernel_rfl) (by kernel_rfl) (by kernel_rfl) (by rfl) (fun _ _ _ h => h) (by decide) (by decide) (by rfl) ?_
        dsimp only [List.set_cons_zero, List.set_cons_succ]
        refine stand_skip (i := 25) rfl (by kernel_rfl) (by kernel_rfl) (by kernel_rfl) (by rfl) (fun _ _ _ h => h) (by decide) (by decide) (by rfl) ?_
        dsimp only [List.set_cons_zero, List.set_cons_succ]
        refine stand_skip (i := 26) rfl (by kernel_rfl) (by kernel_rfl) (by kernel_rfl) (by rfl) (fun _ _ _ h => h) (by decide) (by decide) (by rfl) ?_
        dsimp only [List.set_cons_zero, List.set_cons_succ]
        refine stand_skip (i := 27) rfl (by kernel_rfl) (by kernel_rfl) (by kernel_rfl) (by rfl) (fun _ _ _ h => h) (by decide) (by decide) (by rfl) ?_
        dsimp only [List.set_cons_zero, List.set_cons_succ]
        refine stand_take (i := 28) (v := ?_) rfl (by kernel_rfl) (by kernel_rfl) (by kernel_rfl) (by rfl) (fun _ _ _ h => h) (by decide) (by decide) (by rfl) ?_ ?_
        rotate_left
        · (intro w; go_simp; try with_reducible rfl)
        dsimp only [List.set_cons_zero, List.set_cons_succ]
        refine stand_take (i := 29) (v := ?_) rfl (by kernel_rfl) (by kernel_rfl) (by kernel_rfl) (by rfl) (fun _ _ _ h => h) (by decide) (by decide) (by rfl) ?_ ?_
        rotate_left
        · (intro w; go_simp; try with_reducible rfl)
        dsimp only [List.set_cons_zero, List.set_cons_succ]
        refine stand_done (by kernel_rfl) ?_
        go_wp2_with fail
        go_ret
        exact ⟨rfl, T0.out.trans TD.out⟩
      refine stand_take (i := 7) (v := ?_) rfl (by kernel_rfl) (by kernel_rfl) (by kernel_rfl) (by rfl) (fun _ _ _ h => h) (by decide) (by decide) (by rfl) ?_ ?_
      rotate_left
      · (intro w; go_simp; try with_reducible rfl)
      dsimp only [List.set_cons_zero, List.set_cons_succ]
      refine stand_load3 (i := 8) (v := ?_) rfl (by kernel_rfl) (by kernel_rfl) (by kernel_rfl) (by rfl) (fun _ _ _ h => h) (by decide) (by decide) (by kernel_rfl) (by rfl) ?_ ?_
      rotate_left
      · (intro w hA; (try dsimp only at hA); go_simp; try with_reducible rfl)
      dsimp only [List.set_cons_zero, List.set_cons_succ]
      refine stand_take (i := 9) (v := ?_) rfl (by kernel_rfl) (by kernel_rfl) (by kernel_rfl) (by rfl) (fun _ _ _ h => h) (by decide) (by decide) (by rfl) ?_ ?_
      rotate_left
      · (intro w; go_simp; try with_reducible rfl)
      dsimp only [List.set_cons_zero, List.set_cons_succ]
      refine stand_load3 (i := 10) (v := ?_) rfl (by kernel_rfl) (by kernel_rfl) (by kernel_rfl) (by rfl) (fun _ _ _ h => h) (by decide) (by decide) (by kernel_rfl) (by rfl) ?_ ?_
      rotate_left
      · (intro w hA; (try dsimp only at hA); go_simp; try with_reducible rfl)
      dsimp only [List.set_cons_zero, List.set_cons_succ]
      refine stand_step (i := 11) (by kernel_rfl) rfl (fun K hK => ?_)
      go_simp
      refine (hasn_any _ _ _ rfl).mono ?_
      rintro e w4 ⟨rfl, rfl⟩
      refine hK.out _ _ (fun _ => KEEP.out _ TD.out) (fun _ => trivial) ?_
      clear hK K
      try simp only [put_laid, List.set_cons_zero, List.set_cons_succ]
      refine stand_step (i := 12) (by kernel_rfl) rfl (fun K hK => ?_)
      go_simp
      refine (fits_any _ _ _ f2 _ Q2.out).mono ?_
      rintro e w4 ⟨rfl, rfl⟩
      refine hK.out _ _ (fun _ => KEEP.out _ TD.out) (fun _ => trivial) ?_
      clear hK K
      try simp only [put_laid, List.set_cons_zero, List.set_cons_succ]
      refine stand_take (i := 13) (v := ?_) rfl (by kernel_rfl) (by kernel_rfl) (by kernel_rfl) (by rfl) (fun _ _ _ h => h) (by decide) (by decide) (by rfl) ?_ ?_
      rotate_left
      · (intro w; go_simp; try with_reducible rfl)
      dsimp only [List.set_cons_zero, List.set_cons_succ]
      refine stand_take (i := 14) (v := ?_) rfl (by kernel_rfl) (by kernel_rfl) (by kernel_rfl) (by rfl) (fun _ _ _ h => h) (by decide) (by decide) (by rfl) ?_ ?_
      rotate_left
      · (intro w; go_simp; try with_reducible rfl)
      dsimp only [List.set_cons_zero, List.set_cons_succ]
      cases f2
      · obtain rfl : b = false := by rw [← HB.out]; simp
        refine stand_skip (i := 15) rfl (by kernel_rfl) (by kernel_rfl) (by kernel_rfl) (by rfl) (fun _ _ _ h => h) (by decide) (by decide) (by rfl) ?_
        dsimp only [List.set_cons_zero, List.set_cons_succ]
        refine stand_skip (i := 16) rfl (by kernel_rfl) (by kernel_rfl) (by kernel_rfl) (by rfl) (fun _ _ _ h => h) (by decide) (by decide) (by rfl) ?_
        dsimp only [List.set_cons_zero, List.set_cons_succ]
        refine stand_skip (i := 17) rfl (by kernel_rfl) (by kernel_rfl) (by kernel_rfl) (by rfl) (fun _ _ _ h => h) (by decide) (by decide) (by rfl) ?_
        dsimp only [List.set_cons_zero, List.set_cons_succ]
        refine stand_skip (i := 18) rfl (by kernel_rfl) (by kernel_rfl) (by kernel_rfl) (by rfl) (fun _ _ _ h => h) (by decide) (by decide) (by rfl) ?_
        dsimp only [List.set_cons_zero, List.set_cons_succ]
        refine stand_skip (i := 19) rfl (by kernel_rfl) (by kernel_rfl) (by kernel_rfl) (by rfl) (fun _ _ _ h => h) (by decide) (by decide) (by rfl) ?_
        dsimp only [List.set_cons_zero, List.set_cons_succ]
        refine stand_skip (i := 20) rfl (by kernel_rfl) (by kernel_rfl) (by kernel_rfl) (by rfl) (fun _ _ _ h => h) (by decide) (by decide) (by rfl) ?_
        dsimp only [List.set_cons_zero, List.set_cons_succ]
        refine stand_take (i := 21) (v := ?_) rfl (by kernel_rfl) (by kernel_rfl) (by kernel_rfl) (by rfl) (fun _ _ _ h => h) (by decide) (by decide) (by rfl) ?_ ?_
        rotate_left
        · (intro w; go_simp; try with_reducible rfl)
        dsimp only [List.set_cons_zero, List.set_cons_succ]
        refine stand_take (i := 22) (v := ?_) rfl (by kernel_rfl) (by kernel_rfl) (by kernel_rfl) (by rfl) (fun _ _ _ h => h) (by decide) (by decide) (by rfl) ?_ ?_
        rotate_left
        · (intro w; go_simp; try with_reducible rfl)
        dsimp only [List.set_cons_zero, List.set_cons_succ]
        refine stand_skip (i := 23) rfl (by kernel_rfl) (by kernel_rfl) (by kernel_rfl) (by rfl) (fun _ _ _ h => h) (by decide) (by decide) (by rfl) ?_
        dsimp only [List.set_cons_zero, List.set_cons_succ]
        refine stand_skip (i := 24) rfl (by kernel_rfl) (by kernel_rfl) (by kernel_rfl) (by rfl) (fun _ _ _ h => h) (by decide) (by decide) (by rfl) ?_
        dsimp only [List.set_cons_zero, List.set_cons_succ]
        refine stand_skip (i := 25) rfl (by kernel_rfl) (by kernel_rfl) (by kernel_rfl) (by rfl) (fun _ _ _ h => h) (by decide) (by decide) (by rfl) ?_
        dsimp only [List.set_cons_zero, List.set_cons_succ]
        refine stand_skip (i := 26) rfl (by kernel_rfl) (by kernel_rfl) (by kernel_rfl) (by rfl) (fun _ _ _ h => h) (by decide) (by decide) (by rfl) ?_
        dsimp only [List.set_cons_zero, List.set_cons_succ]
        refine stand_skip (i := 27) rfl (by kernel_rfl) (by kernel_rfl) (by kernel_rfl) (by rfl) (fun _ _ _ h => h) (by decide) (by decide) (by rfl) ?_
        dsimp only [List.set_cons_zero, List.set_cons_succ]
        refine stand_take (i := 28) (v := ?_) rfl (by kernel_rfl) (by kernel_rfl) (by kernel_rfl) (by rfl) (fun _ _ _ h => h) (by decide) (by decide) (by rfl) ?_ ?_
        rotate_left
        · (intro w; go_simp; try with_reducible rfl)
        dsimp only [List.set_cons_zero, List.set_cons_succ]
        refine stand_take (i := 29) (v := ?_) rfl (by kernel_rfl) (by kernel_rfl) (by kernel_rfl) (by rfl) (fun _ _ _ h => h) (by decide) (by decide) (by rfl) ?_ ?_
        rotate_left
        · (intro w; go_simp; try with_reducible rfl)
        dsimp only [List.set_cons_zero, List.set_cons_succ]
        refine stand_done (by kernel_rfl) ?_
        go_wp2_with fail
        go_ret
        exact ⟨rfl, T0.out.trans TD.out⟩
      refine stand_take (i := 15) (v := ?_) rfl (by kernel_rfl) (by kernel_rfl) (by kernel_rfl) (by rfl) (fun _ _ _ h => h) (by decide) (by decide) (by rfl) ?_ ?_
      rotate_left
      · (intro w; go_simp; try with_reducible rfl)
      dsimp only [List.set_cons_zero, List.set_cons_succ]
      refine stand_load3 (i := 16) (v := ?_) rfl (by kernel_rfl) (by kernel_rfl) (by kernel_rfl) (by rfl) (fun _ _ _ h => h) (by decide) (by decide) (by kernel_rfl) (by rfl) ?_ ?_
      rotate_left
      · (intro w hA; (try dsimp only at hA); go_simp; try with_reducible rfl)
      dsimp only [List.set_cons_zero, List.set_cons_succ]
      refine stand_take (i := 17) (v := ?_) rfl (by kernel_rfl) (by kernel_rfl) (by kernel_rfl) (by rfl) (fun _ _ _ h => h) (by decide) (by decide) (by rfl) ?_ ?_
      rotate_left
      · (intro w; go_simp; try with_reducible rfl)
      dsimp only [List.set_cons_zero, List.set_cons_succ]
      refine stand_load3 (i := 18) (v := ?_) rfl (by kernel_rfl) (by kernel_rfl) (by kernel_rfl) (by rfl) (fun _ _ _ h => h) (by decide) (by decide) (by kernel_rfl) (by rfl) ?_ ?_
      rotate_left
      · (intro w hA; (try dsimp only at hA); go_simp; try with_reducible rfl)
      dsimp only [List.set_cons_zero, List.set_cons_succ]
      refine stand_step (i := 19) (by kernel_rfl) rfl (fun K hK => ?_)
      go_simp
      refine (hasv_any _ _ _ rfl).mono ?_
      rintro e w4 ⟨rfl, rfl⟩
      refine hK.out _ _ (fun _ => KEEP.out _ TD.out) (fun _ => trivial) ?_
      clear hK K
      try simp only [put_laid, List.set_cons_zero, List.set_cons_succ]
      refine stand_step (i := 20) (by kernel_rfl) rfl (fun K hK => ?_)
      go_simp
      refine (fits_any _ _ _ f3 _ Q3.out).mono ?_
      rintro e w4 ⟨rfl, rfl⟩
      refine hK.out _ _ (fun _ => KEEP.out _ TD.out) (fun _ => trivial) ?_
      clear hK K
      try simp only [put_laid, List.set_cons_zero, List.set_cons_succ]
      refine stand_take (i := 21) (v := ?_) rfl (by kernel_rfl) (by kernel_rfl) (by kernel_rfl) (by rfl) (fun _ _ _ h => h) (by decide) (by decide) (by rfl) ?_ ?_
      rotate_left
      · (intro w; go_simp; try with_reducible rfl)
      dsimp only [List.set_cons_zero, List.set_cons_succ]
      refine stand_take (i := 22) (v := ?_) rfl (by kernel_rfl) (by kernel_rfl) (by kernel_rfl) (by rfl) (fun _ _ _ h => h) (by decide) (by decide) (by rfl) ?_ ?_
      rotate_left
      · (intro w; go_simp; try with_reducible rfl)
      dsimp only [List.set_cons_zero, List.set_cons_succ]
      cases f3
      · obtain rfl : b = false := by rw [← HB.out]; simp
        refine stand_skip (i := 23) rfl (by kernel_rfl) (by kernel_rfl) (by kernel_rfl) (by rfl) (fun _ _ _ h => h) (by decide) (by decide) (by rfl) ?_
        dsimp only [List.set_cons_zero, List.set_cons_succ]
        refine stand_skip (i := 24) rfl (by kernel_rfl) (by kernel_rfl) (by kernel_rfl) (by rfl) (fun _ _ _ h => h) (by decide) (by decide) (by rfl) ?_
        dsimp only [List.set_cons_zero, List.set_cons_succ]
        refine stand_skip (i := 25) rfl (by kernel_rfl) (by kernel_rfl) (by kernel_rfl) (by rfl) (fun _ _ _ h => h) (by decide) (by decide) (by rfl) ?_
        dsimp only [List.set_cons_zero, List.set_cons_succ]
        refine stand_skip (i := 26) rfl (by kernel_rfl) (by kernel_rfl) (by kernel_rfl) (by rfl) (fun _ _ _ h => h) (by decide) (by decide) (by rfl) ?_
        dsimp only [List.set_cons_zero, List.set_cons_succ]
        refine stand_skip (i := 27) rfl (by kernel_rfl) (by kernel_rfl) (by kernel_rfl) (by rfl) (fun _ _ _ h => h) (by decide) (by decide) (by rfl) ?_
        dsimp only [List.set_cons_zero, List.set_cons_succ]
        refine stand_take (i := 28) (v := ?_) rfl (by kernel_rfl) (by kernel_rfl) (by kernel_rfl) (by rfl) (fun _ _ _ h => h) (by decide) (by decide) (by rfl) ?_ ?_
        rotate_left
        · (intro w; go_simp; try with_reducible rfl)
        dsimp only [List.set_cons_zero, List.set_cons_succ]
        refine stand_take (i := 29) (v := ?_) rfl (by kernel_rfl) (by kernel_rfl) (by kernel_rfl) (by rfl) (fun _ _ _ h => h) (by decide) (by decide) (by rfl) ?_ ?_
        rotate_left
        · (intro w; go_simp; try with_reducible rfl)
        dsimp only [List.set_cons_zero, List.set_cons_succ]
        refine stand_done (by kernel_rfl) ?_
        go_wp2_with fail
        go_ret
        exact ⟨rfl, T0.out.trans TD.out⟩
      refine stand_take (i := 23) (v := ?_) rfl (by kernel_rfl) (by kernel_rfl) (by kernel_rfl) (by rfl) (fun _ _ _ h => h) (by decide) (by decide) (by rfl) ?_ ?_
      rotate_left
      · (intro w; go_simp; try with_reducible rfl)
      dsimp only [List.set_cons_zero, List.set_cons_succ]
      refine stand_load3 (i := 24) (v := ?_) rfl (by kernel_rfl) (by kernel_rfl) (by kernel_rfl) (by rfl) (fun _ _ _ h => h) (by decide) (by decide) (by kernel_rfl) (by rfl) ?_ ?_
      rotate_left
      · (intro w hA; (try dsimp only at hA); go_simp; try with_reducible rfl)
      dsimp only [List.set_cons_zero, List.set_cons_succ]
      refine stand_take (i := 25) (v := ?_) rfl (by kernel_rfl) (by kernel_rfl) (by kernel_rfl) (by rfl) (fun _ _ _ h => h) (by decide) (by decide) (by rfl) ?_ ?_
      rotate_left
      · (intro w; go_simp; try with_reducible rfl)
      dsimp only [List.set_cons_zero, List.set_cons_succ]
      refine stand_step (i := 26) (by kernel_rfl) rfl (fun K hK => ?_)
      go_simp
      refine (containsc_any f4 _ (HL.out.new (T0.out.trans TD.out)) HN.out (show len ≤ 1000000 by omega) Q4.out).mono ?_
      rintro e w4 ⟨rfl, t4⟩
      have T4 := Lib.hid (TD.out.trans t4)
      clear t4
      refine hK.out _ _ (fun _ => KEEP.out _ T4.out) (fun _ => trivial) ?_
      clear hK K
      try simp only [put_laid, List.set_cons_zero, List.set_cons_succ]
      refine stand_take (i := 27) (v := ?_) rfl (by kernel_rfl) (by kernel_rfl) (by kernel_rfl) (by rfl) (fun _ _ _ h => h) (by decide) (by decide) (by rfl) ?_ ?_
      rotate_left
      · (intro w; go_simp; try with_reducible rfl)
      dsimp only [List.set_cons_zero, List.set_cons_succ]
      refine stand_take (i := 28) (v := ?_) rfl (by kernel_rfl) (by kernel_rfl) (by kernel_rfl) (by rfl) (fun _ _ _ h => h) (by decide) (by decide) (by rfl) ?_ ?_
      rotate_left
      · (intro w; go_simp; try with_reducible rfl)
      dsimp only [List.set_cons_zero, List.set_cons_succ]
      refine stand_take (i := 29) (v := ?_) rfl (by kernel_rfl) (by kernel_rfl) (by kernel_rfl) (by rfl) (fun _ _ _ h => h) (by decide) (by decide) (by rfl) ?_ ?_
      rotate_left
      · (intro w; go_simp; try with_reducible rfl)
      dsimp only [List.set_cons_zero, List.set_cons_succ]
      refine stand_done (by kernel_rfl) ?_
      obtain rfl : b = f4 := by rw [← HB.out]; simp
      go_wp2_with fail
      go_ret
      exact ⟨by simp, T0.out.trans T4.out⟩
    · cases els
      · rcases Nat.lt_or_ge 0 len with hz | hz
        · obtain rfl : b = false := by
            rw [← hb]
            have e2 : ((kind == 9) || (!false && len == 0)) = false := by simp [k9]; omega
            rw [e2, Bool.false_and]
          clear hb
          go_enter Try.func30, Try.ntmps30
          go_wp2_with fail
          go_ret
          exact ⟨rfl, (Turn.refl _ w).alloc _⟩
        · have hz' : len = 0 := by omega
          have e2 : ((kind == 9) || (!false && len == 0)) = true := by simp [hz']
          rw [e2, Bool.true_and] at hb
          clear e2 hz'
          have HB := Lib.hid hb
          clear hb
          go_enter Try.func30, Try.ntmps30
          go_upto_region 1 with fail
          have C := at6_new w kind ch n v (.slice ao len cap) false 88
          have T0 := Lib.hid ((Turn.refl (fun _ => False) w).alloc (.cells #[.int .i64 kind, .int .i64 ch, .int .i64 n, .int .i64 v, .slice ao len cap, .bool false] 88))
          obtain ⟨BB, hBB⟩ : ∃ b, w.heap.size = b := ⟨_, rfl⟩
          rw [hBB] at C ⊢
          generalize w.alloc (.cells #[.int .i64 kind, .int .i64 ch, .int .i64 n, .int .i64 v, .slice ao len cap, .bool false] 88) = w1 at C T0 ⊢
          obtain ⟨c0, c1, c2, c3, c4, c5⟩ := C
          have C := Lib.hid (At6.mk c0 c1 c2 c3 c4 c5)
          go_upto_region 6 with fail
          clear c0 c1 c2 c3 c4 c5
          have TD := Lib.hid (Turn.refl (fun _ => False) w1).drew
          have KEEP := Lib.hid (show ∀ w', Turn (fun _ => False) w1 w' → (w'.cell? ⟨BB, 0, none⟩ = some (.int .i64 kind) ∧ w'.cell? ⟨BB, 1, none⟩ = some (.int .i64 ch) ∧ w'.cell? ⟨BB, 2, none⟩ = some (.int .i64 n) ∧ w'.cell? ⟨BB, 3, none⟩ = some (.int .i64 v) ∧ w'.cell? ⟨BB, 4, none⟩ = some (.slice ao len cap)) from fun w' t => let C' := C.out.turn t id; ⟨C'.c0, C'.c1, C'.c2, C'.c3, C'.c4⟩)
          refine stand_start (by kernel_rfl) 99 (fun w' => w'.cell? ⟨BB, 0, none⟩ = some (.int .i64 kind) ∧ w'.cell? ⟨BB, 1, none⟩ = some (.int .i64 ch) ∧ w'.cell? ⟨BB, 2, none⟩ = some (.int .i64 n) ∧ w'.cell? ⟨BB, 3, none⟩ = some (.int .i64 v) ∧ w'.cell? ⟨BB, 4, none⟩ = some (.slice ao len cap)) 99 (fun w' => True) (KEEP.out _ TD.out) trivial ?_
          refine stand_take (i := 0) (v := ?_) rfl (by kernel_rfl) (by kernel_rfl) (by kernel_rfl) (by rfl) (fun _ _ _ h => h) (by decide) (by decide) (by rfl) ?_ ?_
          rotate_left
          · (intro w; go_simp; try with_reducible rfl)
          dsimp only [List.set_cons_zero, List.set_cons_succ]
          refine stand_load3 (i := 1) (v := ?_) rfl (by kernel_rfl) (by kernel_rfl) (by kernel_rfl) (by rfl) (fun _ _ _ h => h) (by decide) (by decide) (by kernel_rfl) (by rfl) ?_ ?_
          rotate_left
          · (intro w hA; (try dsimp only at hA); go_simp; try with_reducible rfl)
          dsimp only [List.set_cons_zero, List.set_cons_succ]
          refine stand_take (i := 2) (v := ?_) rfl (by kernel_rfl) (by kernel_rfl) (by kernel_rfl) (by rfl) (fun _ _ _ h => h) (by decide) (by decide) (by rfl) ?_ ?_
          rotate_left
          · (intro w; go_simp; try with_reducible rfl)
          dsimp only [List.set_cons_zero, List.set_cons_succ]
          refine stand_load3 (i := 3) (v := ?_) rfl (by kernel_rfl) (by kernel_rfl) (by kernel_rfl) (by rfl) (fun _ _ _ h => h) (by decide) (by decide) (by kernel_rfl) (by rfl) ?_ ?_
          rotate_left
          · (intro w hA; (try dsimp only at hA); go_simp; try with_reducible rfl)
          dsimp only [List.set_cons_zero, List.set_cons_succ]
          refine stand_step (i := 4) (by kernel_rfl) rfl (fun K hK => ?_)
          go_simp
          refine (hasch_any _ _ _ rfl).mono ?_
          rintro e w4 ⟨rfl, rfl⟩
          refine hK.out _ _ (fun _ => KEEP.out _ TD.out) (fun _ => trivial) ?_
          clear hK K
          try simp only [put_laid, List.set_cons_zero, List.set_cons_succ]
          refine stand_step (i := 5) (by kernel_rfl) rfl (fun K hK => ?_)
          go_simp
          refine (fits_any _ _ _ f1 _ Q1.out).mono ?_
          rintro e w4 ⟨rfl, rfl⟩
          refine hK.out _ _ (fun _ => KEEP.out _ TD.out) (fun _ => trivial) ?_
          clear hK K
          try simp only [put_laid, List.set_cons_zero, List.set_cons_succ]
          refine stand_take (i := 6) (v := ?_) rfl (by kernel_rfl) (by kernel_rfl) (by kernel_rfl) (by rfl) (fun _ _ _ h => h) (by decide) (by decide) (by rfl) ?_ ?_
          rotate_left
          · (intro w; go_simp; try with_reducible rfl)
          dsimp only [List.set_cons_zero, List.set_cons_succ]
          cases f1
          · obtain rfl : b = false := by rw [← HB.out]; simp
            refine stand_skip (i := 7) rfl (by kernel_rfl) (by kernel_rfl) (by kernel_rfl) (by rfl) (fun _ _ _ h => h) (by decide) (by decide) (by rfl) ?_
            dsimp only [List.set_cons_zero, List.set_cons_succ]
            refine stand_skip (i := 8) rfl (by kernel_rfl) (by kernel_rfl) (by kernel_rfl) (by rfl) (fun _ _ _ h => h) (by decide) (by decide) (by rfl) ?_
            dsimp only [List.set_cons_zero, List.set_cons_succ]
            refine stand_skip (i := 9) rfl (by kernel_rfl) (by kernel_rfl) (by kernel_rfl) (by rfl) (fun _ _ _ h => h) (by decide) (by decide) (by rfl) ?_
            dsimp only [List.set_cons_zero, List.set_cons_succ]
            refine stand_skip (i := 10) rfl (by kernel_rfl) (by kernel_rfl) (by kernel_rfl) (by rfl) (fun _ _ _ h => h) (by decide) (by decide) (by rfl) ?_
            dsimp only [List.set_cons_zero, List.set_cons_succ]
            refine stand_skip (i := 11) rfl (by kernel_rfl) (by kernel_rfl) (by kernel_rfl) (by rfl) (fun _ _ _ h => h) (by decide) (by decide) (by rfl) ?_
            dsimp only [List.set_cons_zero, List.set_cons_succ]
            refine stand_skip (i := 12) rfl (by kernel_rfl) (by kernel_rfl) (by kernel_rfl) (by rfl) (fun _ _ _ h => h) (by decide) (by decide) (by rfl) ?_
            dsimp only [List.set_cons_zero, List.set_cons_succ]
            refine stand_take (i := 13) (v := ?_) rfl (by kernel_rfl) (by kernel_rfl) (by kernel_rfl) (by rfl) (fun _ _ _ h => h) (by decide) (by decide) (by rfl) ?_ ?_
            rotate_left
            · (intro w; go_simp; try with_reducible rfl)
            dsimp only [List.set_cons_zero, List.set_cons_succ]
            refine stand_take (i := 14) (v := ?_) rfl (by kernel_rfl) (by kernel_rfl) (by kernel_rfl) (by rfl) (fun _ _ _ h => h) (by decide) (by decide) (by rfl) ?_ ?_
            rotate_left
            · (intro w; go_simp; try with_reducible rfl)
            dsimp only [List.set_cons_zero, List.set_cons_succ]
            refine stand_skip (i := 15) rfl (by kernel_rfl) (by kernel_rfl) (by kernel_rfl) (by rfl) (fun _ _ _ h => h) (by decide) (by decide) (by rfl) ?_
            dsimp only [List.set_cons_zero, List.set_cons_succ]
            refine stand_skip (i := 16) rfl (by kernel_rfl) (by kernel_rfl) (by kernel_rfl) (by rfl) (fun _ _ _ h => h) (by decide) (by decide) (by rfl) ?_
            dsimp only [List.set_cons_zero, List.set_cons_succ]
            refine stand_skip (i := 17) rfl (by kernel_rfl) (by kernel_rfl) (by kernel_rfl) (by rfl) (fun _ _ _ h => h) (by decide) (by decide) (by rfl) ?_
            dsimp only [List.set_cons_zero, List.set_cons_succ]
            refine stand_skip (i := 18) rfl (by kernel_rfl) (by kernel_rfl) (by kernel_rfl) (by rfl) (fun _ _ _ h => h) (by decide) (by decide) (by rfl) ?_
            dsimp only [List.set_cons_zero, List.set_cons_succ]
            refine stand_skip (i := 19) rfl (by kernel_rfl) (by kernel_rfl) (by kernel_rfl) (by rfl) (fun _ _ _ h => h) (by decide) (by decide) (by rfl) ?_
            dsimp only [List.set_cons_zero, List.set_cons_succ]
            refine stand_skip (i := 20) rfl (by kernel_rfl) (by kernel_rfl) (by kernel_rfl) (by rfl) (fun _ _ _ h => h) (by decide) (by decide) (by rfl) ?_
            dsimp only [List.set_cons_zero, List.set_cons_succ]
            refine stand_take (i := 21) (v := ?_) rfl (by kernel_rfl) (by kernel_rfl) (by kernel_rfl) (by rfl) (fun _ _ _ h => h) (by decide) (by decide) (by rfl) ?_ ?_
            rotate_left
            · (intro w; go_simp; try with_reducible rfl)
            dsimp only [List.set_cons_zero, List.set_cons_succ]
            refine stand_take (i := 22) (v := ?_) rfl (by kernel_rfl) (by kernel_rfl) (by kernel_rfl) (by rfl) (fun _ _ _ h => h) (by decide) (by decide) (by rfl) ?_ ?_
            rotate_left
            · (intro w; go_simp; try with_reducible rfl)
            dsimp only [List.set_cons_zero, List.set_cons_succ]
            refine stand_skip (i := 23) rfl (by kernel_rfl) (by kernel_rfl) (by kernel_rfl) (by rfl) (fun _ _ _ h => h) (by decide) (by decide) (by rfl) ?_
            dsimp only [List.set_cons_zero, List.set_cons_succ]
            refine stand_skip (i := 24) rfl (by kernel_rfl) (by kernel_rfl) (by kernel_rfl) (by rfl) (fun _ _ _ h => h) (by decide) (by decide) (by rfl) ?_
            dsimp only [List.set_cons_zero, List.set_cons_succ]
            refine stand_skip (i := 25) rfl (by kernel_rfl) (by kernel_rfl) (by kernel_rfl) (by rfl) (fun _ _ _ h => h) (by decide) (by decide) (by rfl) ?_
            dsimp only [List.set_cons_zero, List.set_cons_succ]
            refine stand_skip (i := 26) rfl (by kernel_rfl) (by kernel_rfl) (by kernel_rfl) (by rfl) (fun _ _ _ h => h) (by decide) (by decide) (by rfl) ?_
            dsimp only [List.set_cons_zero, List.set_cons_succ]
            refine stand_skip (i := 27) rfl (by kernel_rfl) (by kernel_rfl) (by kernel_rfl) (by rfl) (fun _ _ _ h => h) (by decide) (by decide) (by rfl) ?_
            dsimp only [List.set_cons_zero, List.set_cons_succ]
            refine stand_take (i := 28) (v := ?_) rfl (by kernel_rfl) (by kernel_rfl) (by kernel_rfl) (by rfl) (fun _ _ _ h => h) (by decide) (by decide) (by rfl) ?_ ?_
            rotate_left
            · (intro w; go_simp; try with_reducible rfl)
            dsimp only [List.set_cons_zero, List.set_cons_succ]
            refine stand_take (i := 29) (v := ?_) rfl (by kernel_rfl) (by kernel_rfl) (by kernel_rfl) (by rfl) (fun _ _ _ h => h) (by decide) (by decide) (by rfl) ?_ ?_
            rotate_left
            · (intro w; go_simp; try with_reducible rfl)
            dsimp only [List.set_cons_zero, List.set_cons_succ]
            refine stand_done (by kernel_rfl) ?_
            go_wp2_with fail
            go_ret
            exact ⟨rfl, T0.out.trans TD.out⟩
          refine stand_take (i := 7) (v := ?_) rfl (by kernel_rfl) (by kernel_rfl) (by kernel_rfl) (by rfl) (fun _ _ _ h => h) (by decide) (by decide) (by rfl) ?_ ?_
          rotate_left
          · (intro w; go_simp; try with_reducible rfl)
          dsimp only [List.set_cons_zero, List.set_cons_succ]
          refine stand_load3 (i := 8) (v := ?_) rfl (by kernel_rfl) (by kernel_rfl) (by kernel_rfl) (by rfl) (fun _ _ _ h => h) (by decide) (by decide) (by kernel_rfl) (by rfl) ?_ ?_
          rotate_left
          · (intro w hA; (try dsimp only at hA); go_simp; try with_reducible rfl)
          dsimp only [List.set_cons_zero, List.set_cons_succ]
          refine stand_take (i := 9) (v := ?_) rfl (by kernel_rfl) (by kernel_rfl) (by kernel_rfl) (by rfl) (fun _ _ _ h => h) (by decide) (by decide) (by rfl) ?_ ?_
          rotate_left
          · (intro w; go_simp; try with_reducible rfl)
          dsimp only [List.set_cons_zero, List.set_cons_succ]
          refine stand_load3 (i := 10) (v := ?_) rfl (by kernel_rfl) (by kernel_rfl) (by kernel_rfl) (by rfl) (fun _ _ _ h => h) (by decide) (by decide) (by kernel_rfl) (by rfl) ?_ ?_
          rotate_left
          · (intro w hA; (try dsimp only at hA); go_simp; try with_reducible rfl)
          dsimp only [List.set_cons_zero, List.set_cons_succ]
          refine stand_step (i := 11) (by kernel_rfl) rfl (fun K hK => ?_)
          go_simp
          refine (hasn_any _ _ _ rfl).mono ?_
          rintro e w4 ⟨rfl, rfl⟩
          refine hK.out _ _ (fun _ => KEEP.out _ TD.out) (fun _ => trivial) ?_
          clear hK K
          try simp only [put_laid, List.set_cons_zero, List.set_cons_succ]
          refine stand_step (i := 12) (by kernel_rfl) rfl (fun K hK => ?_)
          go_simp
          refine (fits_any _ _ _ f2 _ Q2.out).mono ?_
          rintro e w4 ⟨rfl, rfl⟩
          refine hK.out _ _ (fun _ => KEEP.out _ TD.out) (fun _ => trivial) ?_
          clear hK K
          try simp only [put_laid, List.set_cons_zero, List.set_cons_succ]
          refine stand_take (i := 13) (v := ?_) rfl (by kernel_rfl) (by kernel_rfl) (by kernel_rfl) (by rfl) (fun _ _ _ h => h) (by decide) (by decide) (by rfl) ?_ ?_
          rotate_left
          · (intro w; go_simp; try with_reducible rfl)
          dsimp only [List.set_cons_zero, List.set_cons_succ]
          refine stand_take (i := 14) (v := ?_) rfl (by kernel_rfl) (by kernel_rfl) (by kernel_rfl) (by rfl) (fun _ _ _ h => h) (by decide) (by decide) (by rfl) ?_ ?_
          rotate_left
          · (intro w; go_simp; try with_reducible rfl)
          dsimp only [List.set_cons_zero, List.set_cons_succ]
          cases f2
          · obtain rfl : b = false := by rw [← HB.out]; simp
            refine stand_skip (i := 15) rfl (by kernel_rfl) (by kernel_rfl) (by kernel_rfl) (by rfl) (fun _ _ _ h => h) (by decide) (by decide) (by rfl) ?_
            dsimp only [List.set_cons_zero, List.set_cons_succ]
            refine stand_skip (i := 16) rfl (by kernel_rfl) (by kernel_rfl) (by kernel_rfl) (by rfl) (fun _ _ _ h => h) (by decide) (by decide) (by rfl) ?_
            dsimp only [List.set_cons_zero, List.set_cons_succ]
            refine stand_skip (i := 17) rfl (by kernel_rfl) (by kernel_rfl) (by kernel_rfl) (by rfl) (fun _ _ _ h => h) (by decide) (by decide) (by rfl) ?_
            dsimp only [List.set_cons_zero, List.set_cons_succ]
            refine stand_skip (i := 18) rfl (by kernel_rfl) (by kernel_rfl) (by kernel_rfl) (by rfl) (fun _ _ _ h => h) (by decide) (by decide) (by rfl) ?_
            dsimp only [List.set_cons_zero, List.set_cons_succ]
            refine stand_skip (i := 19) rfl (by kernel_rfl) (by kernel_rfl) (by kernel_rfl) (by rfl) (fun _ _ _ h => h) (by decide) (by decide) (by rfl) ?_
            dsimp only [List.set_cons_zero, List.set_cons_succ]
            refine stand_skip (i := 20) rfl (by kernel_rfl) (by kernel_rfl) (by kernel_rfl) (by rfl) (fun _ _ _ h => h) (by decide) (by decide) (by rfl) ?_
            dsimp only [List.set_cons_zero, List.set_cons_succ]
            refine stand_take (i := 21) (v := ?_) rfl (by kernel_rfl) (by kernel_rfl) (by kernel_rfl) (by rfl) (fun _ _ _ h => h) (by decide) (by decide) (by rfl) ?_ ?_
            rotate_left
            · (intro w; go_simp; try with_reducible rfl)
            dsimp only [List.set_cons_zero, List.set_cons_succ]
            refine stand_take (i := 22) (v := ?_) rfl (by kernel_rfl) (by kernel_rfl) (by kernel_rfl) (by rfl) (fun _ _ _ h => h) (by decide) (by decide) (by rfl) ?_ ?_
            rotate_left
            · (intro w; go_simp; try with_reducible rfl)
            dsimp only [List.set_cons_zero, List.set_cons_succ]
            refine stand_skip (i := 23) rfl (by kernel_rfl) (by kernel_rfl) (by kernel_rfl) (by rfl) (fun _ _ _ h => h) (by decide) (by decide) (by rfl) ?_
            dsimp only [List.set_cons_zero, List.set_cons_succ]
            refine stand_skip (i := 24) rfl (by kernel_rfl) (by kernel_rfl) (by kernel_rfl) (by rfl) (fun _ _ _ h => h) (by decide) (by decide) (by rfl) ?_
            dsimp only [List.set_cons_zero, List.set_cons_succ]
            refine stand_skip (i := 25) rfl (by kernel_rfl) (by kernel_rfl) (by kernel_rfl) (by rfl) (fun _ _ _ h => h) (by decide) (by decide) (by rfl) ?_
            dsimp only [List.set_cons_zero, List.set_cons_succ]
            refine stand_skip (i := 26) rfl (by kernel_rfl) (by kernel_rfl) (by kernel_rfl) (by rfl) (fun _ _ _ h => h) (by decide) (by decide) (by rfl) ?_
            dsimp only [List.set_cons_zero, List.set_cons_succ]
            refine stand_skip (i := 27) rfl (by kernel_rfl) (by kernel_rfl) (by kernel_rfl) (by rfl) (fun _ _ _ h => h) (by decide) (by decide) (by rfl) ?_
            dsimp only [List.set_cons_zero, List.set_cons_succ]
            refine stand_take (i := 28) (v := ?_) rfl (by kernel_rfl) (by kernel_rfl) (by kernel_rfl) (by rfl) (fun _ _ _ h => h) (by decide) (by decide) (by rfl) ?_ ?_
            rotate_left
            · (intro w; go_simp; try with_reducible rfl)
            dsimp only [List.set_cons_zero, List.set_cons_succ]
            refine stand_take (i := 29) (v := ?_) rfl (by kernel_rfl) (by kernel_rfl) (by kernel_rfl) (by rfl) (fun _ _ _ h => h) (by decide) (by decide) (by rfl) ?_ ?_
            rotate_left
            · (intro w; go_simp; try with_reducible rfl)
            dsimp only [List.set_cons_zero, List.set_cons_succ]
            refine stand_done (by kernel_rfl) ?_
            go_wp2_with fail
            go_ret
            exact ⟨rfl, T0.out.trans TD.out⟩
          refine stand_take (i := 15) (v := ?_) rfl (by kernel_rfl) (by kernel_rfl) (by kernel_rfl) (by rfl) (fun _ _ _ h => h) (by decide) (by decide) (by rfl) ?_ ?_
          rotate_left
          · (intro w; go_simp; try with_reducible rfl)
          dsimp only [List.set_cons_zero, List.set_cons_succ]
          refine stand_load3 (i := 16) (v := ?_) rfl (by kernel_rfl) (by kernel_rfl) (by kernel_rfl) (by rfl) (fun _ _ _ h => h) (by decide) (by decide) (by kernel_rfl) (by rfl) ?_ ?_
          rotate_left
          · (intro w hA; (try dsimp only at hA); go_simp; try with_reducible rfl)
          dsimp only [List.set_cons_zero, List.set_cons_succ]
          refine stand_take (i := 17) (v := ?_) rfl (by kernel_rfl) (by kernel_rfl) (by kernel_rfl) (by rfl) (fun _ _ _ h => h) (by decide) (by decide) (by rfl) ?_ ?_
          rotate_left
          · (intro w; go_simp; try with_reducible rfl)
          dsimp only [List.set_cons_zero, List.set_cons_succ]
          refine stand_load3 (i := 18) (v := ?_) rfl (by kernel_rfl) (by kernel_rfl) (by kernel_rfl) (by rfl) (fun _ _ _ h => h) (by decide) (by decide) (by kernel_rfl) (by rfl) ?_ ?_
          rotate_left
          · (intro w hA; (try dsimp only at hA); go_simp; try with_reducible rfl)
          dsimp only [List.set_cons_zero, List.set_cons_succ]
          refine stand_step (i := 19) (by kernel_rfl) rfl (fun K hK => ?_)
          go_simp
          refine (hasv_any _ _ _ rfl).mono ?_
          rintro e w4 ⟨rfl, rfl⟩
          refine hK.out _ _ (fun _ => KEEP.out _ TD.out) (fun _ => trivial) ?_
          clear hK K
          try simp only [put_laid, List.set_cons_zero, List.set_cons_succ]
          refine stand_step (i := 20) (by kernel_rfl) rfl (fun K hK => ?_)
          go_simp
          refine (fits_any _ _ _ f3 _ Q3.out).mono ?_
          rintro e w4 ⟨rfl, rfl⟩
          refine hK.out _ _ (fun _ => KEEP.out _ TD.out) (fun _ => trivial) ?_
          clear hK K
          try simp only [put_laid, List.set_cons_zero, List.set_cons_succ]
          refine stand_take (i := 21) (v := ?_) rfl (by kernel_rfl) (by kernel_rfl) (by kernel_rfl) (by rfl) (fun _ _ _ h => h) (by decide) (by decide) (by rfl) ?_ ?_
          rotate_left
          · (intro w; go_simp; try with_reducible rfl)
          dsimp only [List.set_cons_zero, List.set_cons_succ]
          refine stand_take (i := 22) (v := ?_) rfl (by kernel_rfl) (by kernel_rfl) (by kernel_rfl) (by rfl) (fun _ _ _ h => h) (by decide) (by decide) (by rfl) ?_ ?_
          rotate_left
          · (intro w; go_simp; try with_reducible rfl)
          dsimp only [List.set_cons_zero, List.set_cons_succ]
          cases f3
          · obtain rfl : b = false := by rw [← HB.out]; simp
            refine stand_skip (i := 23) rfl (by kernel_rfl) (by kernel_rfl) (by kernel_rfl) (by rfl) (fun _ _ _ h => h) (by decide) (by decide) (by rfl) ?_
            dsimp only [List.set_cons_zero, List.set_cons_succ]
            refine stand_skip (i := 24) rfl (by kernel_rfl) (by kernel_rfl) (by kernel_rfl) (by rfl) (fun _ _ _ h => h) (by decide) (by decide) (by rfl) ?_
            dsimp only [List.set_cons_zero, List.set_cons_succ]
            refine stand_skip (i := 25) rfl (by kernel_rfl) (by kernel_rfl) (by kernel_rfl) (by rfl) (fun _ _ _ h => h) (by decide) (by decide) (by rfl) ?_
            dsimp only [List.set_cons_zero, List.set_cons_succ]
            refine stand_skip (i := 26) rfl (by kernel_rfl) (by kernel_rfl) (by kernel_rfl) (by rfl) (fun _ _ _ h => h) (by decide) (by decide) (by rfl) ?_
            dsimp only [List.set_cons_zero, List.set_cons_succ]
            refine stand_skip (i := 27) rfl (by kernel_rfl) (by kernel_rfl) (by kernel_rfl) (by rfl) (fun _ _ _ h => h) (by decide) (by decide) (by rfl) ?_
            dsimp only [List.set_cons_zero, List.set_cons_succ]
            refine stand_take (i := 28) (v := ?_) rfl (by kernel_rfl) (by kernel_rfl) (by kernel_rfl) (by rfl) (fun _ _ _ h => h) (by decide) (by decide) (by rfl) ?_ ?_
            rotate_left
            · (intro w; go_simp; try with_reducible rfl)
            dsimp only [List.set_cons_zero, List.set_cons_succ]
            refine stand_take (i := 29) (v := ?_) rfl (by kernel_rfl) (by kernel_rfl) (by kernel_rfl) (by rfl) (fun _ _ _ h => h) (by decide) (by decide) (by rfl) ?_ ?_
            rotate_left
            · (intro w; go_simp; try with_reducible rfl)
            dsimp only [List.set_cons_zero, List.set_cons_succ]
            refine stand_done (by kernel_rfl) ?_
            go_wp2_with fail
            go_ret
            exact ⟨rfl, T0.out.trans TD.out⟩
          refine stand_take (i := 23) (v := ?_) rfl (by kernel_rfl) (by kernel_rfl) (by kernel_rfl) (by rfl) (fun _ _ _ h => h) (by decide) (by decide) (by rfl) ?_ ?_
          rotate_left
          · (intro w; go_simp; try with_reducible rfl)
          dsimp only [List.set_cons_zero, List.set_cons_succ]
          refine stand_load3 (i := 24) (v := ?_) rfl (by kernel_rfl) (by kernel_rfl) (by kernel_rfl) (by rfl) (fun _ _ _ h => h) (by decide) (by decide) (by kernel_rfl) (by rfl) ?_ ?_
          rotate_left
          · (intro w hA; (try dsimp only at hA); go_simp; try with_reducible rfl)
          dsimp only [List.set_cons_zero, List.set_cons_succ]
          refine stand_take (i := 25) (v := ?_) rfl (by kernel_rfl) (by kernel_rfl) (by kernel_rfl) (by rfl) (fun _ _ _ h => h) (by decide) (by decide) (by rfl) ?_ ?_
          rotate_left
          · (intro w; go_simp; try with_reducible rfl)
          dsimp only [List.set_cons_zero, List.set_cons_succ]
          refine stand_step (i := 26) (by kernel_rfl) rfl (fun K hK => ?_)
          go_simp
          refine (containsc_any f4 _ (HL.out.new (T0.out.trans TD.out)) HN.out (show len ≤ 1000000 by omega) Q4.out).mono ?_
          rintro e w4 ⟨rfl, t4⟩
          have T4 := Lib.hid (TD.out.trans t4)
          clear t4
          refine hK.out _ _ (fun _ => KEEP.out _ T4.out) (fun _ => trivial) ?_
          clear hK K
          try simp only [put_laid, List.set_cons_zero, List.set_cons_succ]
          refine stand_take (i := 27) (v := ?_) rfl (by kernel_rfl) (by kernel_rfl) (by kernel_rfl) (by rfl) (fun _ _ _ h => h) (by decide) (by decide) (by rfl) ?_ ?_
          rotate_left
          · (intro w; go_simp; try with_reducible rfl)
          dsimp only [List.set_cons_zero, List.set_cons_succ]
          refine stand_take (i := 28) (v := ?_) rfl (by kernel_rfl) (by kernel_rfl) (by kernel_rfl) (by rfl) (fun _ _ _ h => h) (by decide) (by decide) (by rfl) ?_ ?_
          rotate_left
          · (intro w; go_simp; try with_reducible rfl)
          dsimp only [List.set_cons_zero, List.set_cons_succ]
          refine stand_take (i := 29) (v := ?_) rfl (by kernel_rfl) (by kernel_rfl) (by kernel_rfl) (by rfl) (fun _ _ _ h => h) (by decide) (by decide) (by rfl) ?_ ?_
          rotate_left
          · (intro w; go_simp; try with_reducible rfl)
          dsimp only [List.set_cons_zero, List.set_cons_succ]
          refine stand_done (by kernel_rfl) ?_
          obtain rfl : b = f4 := by rw [← HB.out]; simp
          go_wp2_with fail
          go_ret
          exact ⟨by simp, T0.out.trans T4.out⟩
      · obtain rfl : b = false := by
          rw [← hb]
          have e2 : ((kind == 9) || (!true && len == 0)) = false := by simp [k9]
          rw [e2, Bool.false_and]
        clear hb
        go_enter Try.func30, Try.ntmps30
        go_wp2_with fail
        go_ret
        exact ⟨rfl, (Turn.refl _ w).alloc _⟩

end Go.Proofs.Ytenbafkgfdlfpaa
