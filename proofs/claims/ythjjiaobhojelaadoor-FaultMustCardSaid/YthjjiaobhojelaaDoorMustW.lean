/- The walk of FaultMust. -/
import Derived.Test.YthjjiaobhojelaaDoorTells
namespace Go.Proofs.YthjjiaobhojelaaDoor
open Go.RowKit

set_option maxHeartbeats 8000000 in
set_option maxRecDepth 100000 in
theorem must_law_no (code : Int) (A : Nat → Addr) (w : World) (hG : Glob w A) (hc : NoCode code) :
    Calls Tryd.prog 4 #[.int .i64 code] w fun e w' => e = .returned (.bool true) ∧ Turn (fun _ => False) w w' := by
  have HG := Lib.hid hG
  have HC := Lib.hid hc
  clear hG hc
  by_cases h1 : code = 1
  · subst h1
    go_enter Tryd.func4, Tryd.ntmps4
    go_wp2_with fail
    refine (alive_any A _ HG.out).mono ?_
    rintro e w1 ⟨rfl, t1⟩
    have T1 := Lib.hid t1
    clear t1
    go_wp2_with fail
    refine (must_done _).mono ?_
    rintro e w' ⟨rfl, rfl⟩
    go_wp2_with fail
    refine stand_start (by kernel_rfl) 99 (fun _ => True) 99 (fun _ => True) trivial trivial ?_
    have G1 := Lib.hid (HG.out.kept T1.out.drew)
    have T1' := Lib.hid T1.out.drew
    refine stand_take (i := 0) (v := ?_) rfl (by kernel_rfl) (by kernel_rfl) (by kernel_rfl) (by rfl) (fun _ _ _ h => h) (by decide) (by decide) (by rfl) ?_ ?_
    rotate_left
    · (intro w; go_simp; try with_reducible rfl)
    dsimp only [List.set_cons_zero, List.set_cons_succ]
    refine stand_take (i := 1) (v := ?_) rfl (by kernel_rfl) (by kernel_rfl) (by kernel_rfl) (by rfl) (fun _ _ _ h => h) (by decide) (by decide) (by rfl) ?_ ?_
    rotate_left
    · (intro w; go_simp; try with_reducible rfl)
    dsimp only [List.set_cons_zero, List.set_cons_succ]
    refine stand_take (i := 2) (v := ?_) rfl (by kernel_rfl) (by kernel_rfl) (by kernel_rfl) (by rfl) (fun _ _ _ h => h) (by decide) (by decide) (by rfl) ?_ ?_
    rotate_left
    · (intro w; go_simp; try with_reducible rfl)
    dsimp only [List.set_cons_zero, List.set_cons_succ]
    refine stand_take (i := 3) (v := ?_) rfl (by kernel_rfl) (by kernel_rfl) (by kernel_rfl) (by rfl) (fun _ _ _ h => h) (by decide) (by decide) (by rfl) ?_ ?_
    rotate_left
    · (intro w; go_simp; try with_reducible rfl)
    dsimp only [List.set_cons_zero, List.set_cons_succ]
    refine stand_take (i := 4) (v := ?_) rfl (by kernel_rfl) (by kernel_rfl) (by kernel_rfl) (by rfl) (fun _ _ _ h => h) (by decide) (by decide) (by rfl) ?_ ?_
    rotate_left
    · (intro w; go_simp; try with_reducible rfl)
    dsimp only [List.set_cons_zero, List.set_cons_succ]
    refine stand_take (i := 5) (v := ?_) rfl (by kernel_rfl) (by kernel_rfl) (by kernel_rfl) (by rfl) (fun _ _ _ h => h) (by decide) (by decide) (by rfl) ?_ ?_
    rotate_left
    · (intro w; go_simp; try with_reducible rfl)
    dsimp only [List.set_cons_zero, List.set_cons_succ]
    refine stand_take (i := 7) (v := ?_) rfl (by kernel_rfl) (by kernel_rfl) (by kernel_rfl) (by rfl) (fun _ _ _ h => h) (by decide) (by decide) (by rfl) ?_ ?_
    rotate_left
    · (intro w; go_simp; try with_reducible rfl)
    dsimp only [List.set_cons_zero, List.set_cons_succ]
    refine stand_step (i := 6) (by kernel_rfl) rfl (fun K hK => ?_)
    go_simp
    refine (code_nil A _ G1.out).mono ?_
    rintro e w' ⟨rfl, rfl⟩
    refine hK.out _ _ (fun _ => trivial) (fun _ => trivial) ?_
    clear hK K
    try simp only [put_laid, List.set_cons_zero, List.set_cons_succ]
    refine stand_step (i := 8) (by kernel_rfl) rfl (fun K hK => ?_)
    go_simp
    refine (of_no _ 0 0 _ HC.out).mono ?_
    rintro e w' ⟨rfl, rfl⟩
    refine hK.out _ _ (fun _ => trivial) (fun _ => trivial) ?_
    clear hK K
    try simp only [put_laid, List.set_cons_zero, List.set_cons_succ]
    refine stand_step (i := 9) (by kernel_rfl) rfl (fun K hK => ?_)
    go_simp
    refine (code_nil A _ G1.out).mono ?_
    rintro e w' ⟨rfl, rfl⟩
    refine hK.out _ _ (fun _ => trivial) (fun _ => trivial) ?_
    clear hK K
    try simp only [put_laid, List.set_cons_zero, List.set_cons_succ]
    refine stand_take (i := 10) (v := ?_) rfl (by kernel_rfl) (by kernel_rfl) (by kernel_rfl) (by rfl) (fun _ _ _ h => h) (by decide) (by decide) (by rfl) ?_ ?_
    rotate_left
    · (intro w; go_simp; try with_reducible rfl)
    dsimp only [List.set_cons_zero, List.set_cons_succ]
    refine stand_take (i := 11) (v := ?_) rfl (by kernel_rfl) (by kernel_rfl) (by kernel_rfl) (by rfl) (fun _ _ _ h => h) (by decide) (by decide) (by rfl) ?_ ?_
    rotate_left
    · (intro w; go_simp; try with_reducible rfl)
    dsimp only [List.set_cons_zero, List.set_cons_succ]
    refine stand_take (i := 12) (v := ?_) rfl (by kernel_rfl) (by kernel_rfl) (by kernel_rfl) (by rfl) (fun _ _ _ h => h) (by decide) (by decide) (by rfl) ?_ ?_
    rotate_left
    · (intro w; go_simp; try with_reducible rfl)
    dsimp only [List.set_cons_zero, List.set_cons_succ]
    refine stand_take (i := 13) (v := ?_) rfl (by kernel_rfl) (by kernel_rfl) (by kernel_rfl) (by rfl) (fun _ _ _ h => h) (by decide) (by decide) (by rfl) ?_ ?_
    rotate_left
    · (intro w; go_simp; try with_reducible rfl)
    dsimp only [List.set_cons_zero, List.set_cons_succ]
    refine stand_take (i := 14) (v := ?_) rfl (by kernel_rfl) (by kernel_rfl) (by kernel_rfl) (by rfl) (fun _ _ _ h => h) (by decide) (by decide) (by rfl) ?_ ?_
    rotate_left
    · (intro w; go_simp; try with_reducible rfl)
    dsimp only [List.set_cons_zero, List.set_cons_succ]
    refine stand_take (i := 15) (v := ?_) rfl (by kernel_rfl) (by kernel_rfl) (by kernel_rfl) (by rfl) (fun _ _ _ h => h) (by decide) (by decide) (by rfl) ?_ ?_
    rotate_left
    · (intro w; go_simp; try with_reducible rfl)
    dsimp only [List.set_cons_zero, List.set_cons_succ]
    refine stand_step (i := 16) (by kernel_rfl) rfl (fun K hK => ?_)
    go_simp
    refine (rtext_no _ _ HC.out).mono ?_
    rintro e w' ⟨rfl, rfl⟩
    refine hK.out _ _ (fun _ => trivial) (fun _ => trivial) ?_
    clear hK K
    try simp only [put_laid, List.set_cons_zero, List.set_cons_succ]
    refine stand_take (i := 17) (v := ?_) rfl (by kernel_rfl) (by kernel_rfl) (by kernel_rfl) (by rfl) (fun _ _ _ h => h) (by decide) (by decide) (by rfl) ?_ ?_
    rotate_left
    · (intro w; go_simp; try with_reducible rfl)
    dsimp only [List.set_cons_zero, List.set_cons_succ]
    refine stand_take (i := 18) (v := ?_) rfl (by kernel_rfl) (by kernel_rfl) (by kernel_rfl) (by rfl) (fun _ _ _ h => h) (by decide) (by decide) (by rfl) ?_ ?_
    rotate_left
    · (intro w; go_simp; try with_reducible rfl)
    dsimp only [List.set_cons_zero, List.set_cons_succ]
    refine stand_take (i := 19) (v := ?_) rfl (by kernel_rfl) (by kernel_rfl) (by kernel_rfl) (by rfl) (fun _ _ _ h => h) (by decide) (by decide) (by rfl) ?_ ?_
    rotate_left
    · (intro w; go_simp; try with_reducible rfl)
    dsimp only [List.set_cons_zero, List.set_cons_succ]
    refine stand_done (by kernel_rfl) ?_
    go_wp2_with fail
    go_ret
    exact ⟨rfl, T1'.out⟩
  · have H1 := Lib.hid h1
    have hd : decide (code = 1) = false := decide_eq_false h1
    have hd' : (code == 1) = false := by simpa using h1
    go_enter Tryd.func4, Tryd.ntmps4
    go_wp2_with fail
    refine (alive_any A _ HG.out).mono ?_
    rintro e w1 ⟨rfl, t1⟩
    have T1 := Lib.hid t1
    clear t1
    go_wp2_with fail
    refine (must_no _ _ HC.out H1.out).mono ?_
    rintro e w' ⟨rfl, rfl⟩
    go_wp2_with fail
    refine stand_start (by kernel_rfl) 99 (fun _ => True) 99 (fun _ => True) trivial trivial ?_
    have G1 := Lib.hid (HG.out.kept T1.out.drew)
    have T1' := Lib.hid T1.out.drew
    refine stand_take (i := 0) (v := ?_) rfl (by kernel_rfl) (by kernel_rfl) (by kernel_rfl) (by rfl) (fun _ _ _ h => h) (by decide) (by decide) (by rfl) ?_ ?_
    rotate_left
    · (intro w; go_simp; try with_reducible rfl)
    dsimp only [List.set_cons_zero, List.set_cons_succ]
    refine stand_take (i := 1) (v := ?_) rfl (by kernel_rfl) (by kernel_rfl) (by kernel_rfl) (by rfl) (fun _ _ _ h => h) (by decide) (by decide) (by rfl) ?_ ?_
    rotate_left
    · (intro w; go_simp; try with_reducible rfl)
    dsimp only [List.set_cons_zero, List.set_cons_succ]
    refine stand_take (i := 2) (v := ?_) rfl (by kernel_rfl) (by kernel_rfl) (by kernel_rfl) (by rfl) (fun _ _ _ h => h) (by decide) (by decide) (by rfl) ?_ ?_
    rotate_left
    · (intro w; go_simp; try with_reducible rfl)
    dsimp only [List.set_cons_zero, List.set_cons_succ]
    refine stand_take (i := 3) (v := ?_) rfl (by kernel_rfl) (by kernel_rfl) (by kernel_rfl) (by rfl) (fun _ _ _ h => h) (by decide) (by decide) (by rfl) ?_ ?_
    rotate_left
    · (intro w; go_simp; try with_reducible rfl)
    dsimp only [List.set_cons_zero, List.set_cons_succ]
    refine stand_take (i := 4) (v := ?_) rfl (by kernel_rfl) (by kernel_rfl) (by kernel_rfl) (by rfl) (fun _ _ _ h => h) (by decide) (by decide) (by rfl) ?_ ?_
    rotate_left
    · (intro w; go_simp; try with_reducible rfl)
    dsimp only [List.set_cons_zero, List.set_cons_succ]
    refine stand_take (i := 5) (v := ?_) rfl (by kernel_rfl) (by kernel_rfl) (by kernel_rfl) (by rfl) (fun _ _ _ h => h) (by decide) (by decide) (by rfl) ?_ ?_
    rotate_left
    · (intro w; go_simp; try with_reducible rfl)
    dsimp only [List.set_cons_zero, List.set_cons_succ]
    refine stand_take (i := 7) (v := ?_) rfl (by kernel_rfl) (by kernel_rfl) (by kernel_rfl) (by rfl) (fun _ _ _ h => h) (by decide) (by decide) (by rfl) ?_ ?_
    rotate_left
    · (intro w; go_simp; try with_reducible rfl)
    dsimp only [List.set_cons_zero, List.set_cons_succ]
    refine stand_step (i := 6) (by kernel_rfl) rfl (fun K hK => ?_)
    go_simp
    refine (code_nil A _ G1.out).mono ?_
    rintro e w' ⟨rfl, rfl⟩
    refine hK.out _ _ (fun _ => trivial) (fun _ => trivial) ?_
    clear hK K
    try simp only [put_laid, List.set_cons_zero, List.set_cons_succ]
    refine stand_step (i := 8) (by kernel_rfl) rfl (fun K hK => ?_)
    go_simp
    refine (of_no _ 0 0 _ HC.out).mono ?_
    rintro e w' ⟨rfl, rfl⟩
    refine hK.out _ _ (fun _ => trivial) (fun _ => trivial) ?_
    clear hK K
    try simp only [put_laid, List.set_cons_zero, List.set_cons_succ]
    refine stand_step (i := 9) (by kernel_rfl) rfl (fun K hK => ?_)
    go_simp
    refine (code_nil A _ G1.out).mono ?_
    rintro e w' ⟨rfl, rfl⟩
    refine hK.out _ _ (fun _ => trivial) (fun _ => trivial) ?_
    clear hK K
    try simp only [put_laid, List.set_cons_zero, List.set_cons_succ]
    refine stand_take (i := 10) (v := ?_) rfl (by kernel_rfl) (by kernel_rfl) (by kernel_rfl) (by rfl) (fun _ _ _ h => h) (by decide) (by decide) (by rfl) ?_ ?_
    rotate_left
    · (intro w; go_simp; try with_reducible rfl)
    dsimp only [List.set_cons_zero, List.set_cons_succ]
    refine stand_take (i := 11) (v := ?_) rfl (by kernel_rfl) (by kernel_rfl) (by kernel_rfl) (by rfl) (fun _ _ _ h => h) (by decide) (by decide) (by rfl) ?_ ?_
    rotate_left
    · (intro w; go_simp; try with_reducible rfl)
    dsimp only [List.set_cons_zero, List.set_cons_succ]
    refine stand_take (i := 12) (v := ?_) rfl (by kernel_rfl) (by kernel_rfl) (by kernel_rfl) (by rfl) (fun _ _ _ h => h) (by decide) (by decide) (by rfl) ?_ ?_
    rotate_left
    · (intro w; go_simp; try with_reducible rfl)
    dsimp only [List.set_cons_zero, List.set_cons_succ]
    refine stand_take (i := 13) (v := ?_) rfl (by kernel_rfl) (by kernel_rfl) (by kernel_rfl) (by rfl) (fun _ _ _ h => h) (by decide) (by decide) (by rfl) ?_ ?_
    rotate_left
    · (intro w; go_simp; try with_reducible rfl)
    dsimp only [List.set_cons_zero, List.set_cons_succ]
    refine stand_take (i := 14) (v := ?_) rfl (by kernel_rfl) (by kernel_rfl) (by kernel_rfl) (by rfl) (fun _ _ _ h => h) (by decide) (by decide) (by rfl) ?_ ?_
    rotate_left
    · (intro w; go_simp; try with_reducible rfl)
    dsimp only [List.set_cons_zero, List.set_cons_succ]
    refine stand_take (i := 15) (v := ?_) rfl (by kernel_rfl) (by kernel_rfl) (by kernel_rfl) (by rfl) (fun _ _ _ h => h) (by decide) (by decide) (by rfl) ?_ ?_
    rotate_left
    · (intro w; go_simp; try with_reducible rfl)
    dsimp only [List.set_cons_zero, List.set_cons_succ]
    refine stand_step (i := 16) (by kernel_rfl) rfl (fun K hK => ?_)
    go_simp
    refine (rtext_no _ _ HC.out).mono ?_
    rintro e w' ⟨rfl, rfl⟩
    refine hK.out _ _ (fun _ => trivial) (fun _ => trivial) ?_
    clear hK K
    try simp only [put_laid, List.set_cons_zero, List.set_cons_succ]
    refine stand_take (i := 17) (v := ?_) rfl (by kernel_rfl) (by kernel_rfl) (by kernel_rfl) (by rfl) (fun _ _ _ h => h) (by decide) (by decide) (by rfl) ?_ ?_
    rotate_left
    · (intro w; go_simp; try with_reducible rfl)
    dsimp only [List.set_cons_zero, List.set_cons_succ]
    refine stand_take (i := 18) (v := ?_) rfl (by kernel_rfl) (by kernel_rfl) (by kernel_rfl) (by rfl) (fun _ _ _ h => h) (by decide) (by decide) (by rfl) ?_ ?_
    rotate_left
    · (intro w; go_simp; try with_reducible rfl)
    dsimp only [List.set_cons_zero, List.set_cons_succ]
    refine stand_take (i := 19) (v := ?_) rfl (by kernel_rfl) (by kernel_rfl) (by kernel_rfl) (by rfl) (fun _ _ _ h => h) (by decide) (by decide) (by rfl) ?_ ?_
    rotate_left
    · (intro w; go_simp; try with_reducible rfl)
    dsimp only [List.set_cons_zero, List.set_cons_succ]
    refine stand_done (by kernel_rfl) ?_
    go_wp2_with fail
    go_ret
    exact ⟨rfl, T1'.out⟩

set_option maxHeartbeats 8000000 in
set_option maxRecDepth 100000 in
theorem must_law_yes (code : Int) (k : Nat) (A : Nat → Addr) (w : World) (hG : Glob w A) (hc : IsCode code k) :
    Calls Tryd.prog 4 #[.int .i64 code] w fun e w' => e = .returned (.bool true) ∧ Turn (fun _ => False) w w' := by
  have HG := Lib.hid hG
  have HC := Lib.hid hc
  clear hG
  rcases hc with ⟨rfl, rfl⟩ | ⟨rfl, rfl⟩ | ⟨rfl, rfl⟩
  · skip
    go_enter Tryd.func4, Tryd.ntmps4
    go_wp2_with fail
    refine (alive_any A _ HG.out).mono ?_
    rintro e w1 ⟨rfl, t1⟩
    have T1 := Lib.hid t1
    clear t1
    go_wp2_with fail
    refine (must_yes _ _ A _ HC.out (HG.out.kept T1.out)).mono ?_
    rintro e w' ⟨rfl, rfl⟩
    go_wp2_with fail
    refine stand_start (by kernel_rfl) 99 (fun _ => True) 99 (fun _ => True) trivial trivial ?_
    have G1 := Lib.hid (HG.out.kept T1.out.drew)
    have T1' := Lib.hid T1.out.drew
    refine stand_take (i := 0) (v := ?_) rfl (by kernel_rfl) (by kernel_rfl) (by kernel_rfl) (by rfl) (fun _ _ _ h => h) (by decide) (by decide) (by rfl) ?_ ?_
    rotate_left
    · (intro w; go_simp; try with_reducible rfl)
    dsimp only [List.set_cons_zero, List.set_cons_succ]
    refine stand_take (i := 1) (v := ?_) rfl (by kernel_rfl) (by kernel_rfl) (by kernel_rfl) (by rfl) (fun _ _ _ h => h) (by decide) (by decide) (by rfl) ?_ ?_
    rotate_left
    · (intro w; go_simp; try with_reducible rfl)
    dsimp only [List.set_cons_zero, List.set_cons_succ]
    refine stand_take (i := 2) (v := ?_) rfl (by kernel_rfl) (by kernel_rfl) (by kernel_rfl) (by rfl) (fun _ _ _ h => h) (by decide) (by decide) (by rfl) ?_ ?_
    rotate_left
    · (intro w; go_simp; try with_reducible rfl)
    dsimp only [List.set_cons_zero, List.set_cons_succ]
    refine stand_take (i := 3) (v := ?_) rfl (by kernel_rfl) (by kernel_rfl) (by kernel_rfl) (by rfl) (fun _ _ _ h => h) (by decide) (by decide) (by rfl) ?_ ?_
    rotate_left
    · (intro w; go_simp; try with_reducible rfl)
    dsimp only [List.set_cons_zero, List.set_cons_succ]
    refine stand_take (i := 4) (v := ?_) rfl (by kernel_rfl) (by kernel_rfl) (by kernel_rfl) (by rfl) (fun _ _ _ h => h) (by decide) (by decide) (by rfl) ?_ ?_
    rotate_left
    · (intro w; go_simp; try with_reducible rfl)
    dsimp only [List.set_cons_zero, List.set_cons_succ]
    refine stand_take (i := 5) (v := ?_) rfl (by kernel_rfl) (by kernel_rfl) (by kernel_rfl) (by rfl) (fun _ _ _ h => h) (by decide) (by decide) (by rfl) ?_ ?_
    rotate_left
    · (intro w; go_simp; try with_reducible rfl)
    dsimp only [List.set_cons_zero, List.set_cons_succ]
    refine stand_take (i := 7) (v := ?_) rfl (by kernel_rfl) (by kernel_rfl) (by kernel_rfl) (by rfl) (fun _ _ _ h => h) (by decide) (by decide) (by rfl) ?_ ?_
    rotate_left
    · (intro w; go_simp; try with_reducible rfl)
    dsimp only [List.set_cons_zero, List.set_cons_succ]
    refine stand_step (i := 6) (by kernel_rfl) rfl (fun K hK => ?_)
    go_simp
    refine (code_any _ [] _ _ A _ HC.out rfl G1.out).mono ?_
    rintro e w' ⟨rfl, rfl⟩
    refine hK.out _ _ (fun _ => trivial) (fun _ => trivial) ?_
    clear hK K
    try simp only [put_laid, List.set_cons_zero, List.set_cons_succ]
    refine stand_step (i := 8) (by kernel_rfl) rfl (fun K hK => ?_)
    go_simp
    refine (of_yes _ 0 0 _ A _ HC.out G1.out).mono ?_
    rintro e w2 ⟨rfl, h2⟩
    have T2 := Lib.hid (h2 ▸ (Turn.refl (fun _ => False) _).alloc _ : Turn (fun _ => False) _ w2)
    have P2 := Lib.hid (h2 ▸ heap_alloc_new _ _ : w2.heap[_]? = _)
    clear h2
    have G2 := Lib.hid (G1.out.kept T2.out)
    refine hK.out _ _ (fun _ => trivial) (fun _ => trivial) ?_
    clear hK K
    try simp only [put_laid, List.set_cons_zero, List.set_cons_succ]
    refine stand_step (i := 9) (by kernel_rfl) rfl (fun K hK => ?_)
    go_simp
    refine (code_any _ [(_, 0, 0)] _ _ A _ HC.out ⟨rfl, _, P2.out, rfl⟩ G2.out).mono ?_
    rintro e w' ⟨rfl, rfl⟩
    refine hK.out _ _ (fun _ => trivial) (fun _ => trivial) ?_
    clear hK K
    try simp only [put_laid, List.set_cons_zero, List.set_cons_succ]
    refine stand_take (i := 10) (v := ?_) rfl (by kernel_rfl) (by kernel_rfl) (by kernel_rfl) (by rfl) (fun _ _ _ h => h) (by decide) (by decide) (by rfl) ?_ ?_
    rotate_left
    · (intro w; go_simp; try with_reducible rfl)
    dsimp only [List.set_cons_zero, List.set_cons_succ]
    refine stand_take (i := 11) (v := ?_) rfl (by kernel_rfl) (by kernel_rfl) (by kernel_rfl) (by rfl) (fun _ _ _ h => h) (by decide) (by decide) (by rfl) ?_ ?_
    rotate_left
    · (intro w; go_simp; try with_reducible rfl)
    dsimp only [List.set_cons_zero, List.set_cons_succ]
    refine stand_take (i := 12) (v := ?_) rfl (by kernel_rfl) (by kernel_rfl) (by kernel_rfl) (by rfl) (fun _ _ _ h => h) (by decide) (by decide) (by rfl) ?_ ?_
    rotate_left
    · (intro w; go_simp; try with_reducible rfl)
    dsimp only [List.set_cons_zero, List.set_cons_succ]
    refine stand_take (i := 13) (v := ?_) rfl (by kernel_rfl) (by kernel_rfl) (by kernel_rfl) (by rfl) (fun _ _ _ h => h) (by decide) (by decide) (by rfl) ?_ ?_
    rotate_left
    · (intro w; go_simp; try with_reducible rfl)
    dsimp only [List.set_cons_zero, List.set_cons_succ]
    refine stand_take (i := 14) (v := ?_) rfl (by kernel_rfl) (by kernel_rfl) (by kernel_rfl) (by rfl) (fun _ _ _ h => h) (by decide) (by decide) (by rfl) ?_ ?_
    rotate_left
    · (intro w; go_simp; try with_reducible rfl)
    dsimp only [List.set_cons_zero, List.set_cons_succ]
    refine stand_take (i := 15) (v := ?_) rfl (by kernel_rfl) (by kernel_rfl) (by kernel_rfl) (by rfl) (fun _ _ _ h => h) (by decide) (by decide) (by rfl) ?_ ?_
    rotate_left
    · (intro w; go_simp; try with_reducible rfl)
    dsimp only [List.set_cons_zero, List.set_cons_succ]
    refine stand_step (i := 16) (by kernel_rfl) rfl (fun K hK => ?_)
    go_simp
    refine (rtext_yes _ _ _ HC.out).mono ?_
    rintro e w' ⟨rfl, rfl⟩
    refine hK.out _ _ (fun _ => trivial) (fun _ => trivial) ?_
    dsimp only [textS, textL]
    clear hK K
    refine stand_take (i := 17) (v := ?_) rfl (by kernel_rfl) (by kernel_rfl) (by kernel_rfl) (by rfl) (fun _ _ _ h => h) (by decide) (by decide) (by rfl) ?_ ?_
    rotate_left
    · (intro w; go_simp; try with_reducible rfl)
    dsimp only [List.set_cons_zero, List.set_cons_succ]
    refine stand_take (i := 18) (v := ?_) rfl (by kernel_rfl) (by kernel_rfl) (by kernel_rfl) (by rfl) (fun _ _ _ h => h) (by decide) (by decide) (by rfl) ?_ ?_
    rotate_left
    · (intro w; go_simp; try with_reducible rfl)
    dsimp only [List.set_cons_zero, List.set_cons_succ]
    refine stand_take (i := 19) (v := ?_) rfl (by kernel_rfl) (by kernel_rfl) (by kernel_rfl) (by rfl) (fun _ _ _ h => h) (by decide) (by decide) (by rfl) ?_ ?_
    rotate_left
    · (intro w; go_simp; try with_reducible rfl)
    dsimp only [List.set_cons_zero, List.set_cons_succ]
    refine stand_done (by kernel_rfl) ?_
    go_wp2_with fail
    go_ret
    exact ⟨rfl, T1'.out.trans T2.out⟩
  · skip
    go_enter Tryd.func4, Tryd.ntmps4
    go_wp2_with fail
    refine (alive_any A _ HG.out).mono ?_
    rintro e w1 ⟨rfl, t1⟩
    have T1 := Lib.hid t1
    clear t1
    go_wp2_with fail
    refine (must_yes _ _ A _ HC.out (HG.out.kept T1.out)).mono ?_
    rintro e w' ⟨rfl, rfl⟩
    go_wp2_with fail
    refine stand_start (by kernel_rfl) 99 (fun _ => True) 99 (fun _ => True) trivial trivial ?_
    have G1 := Lib.hid (HG.out.kept T1.out.drew)
    have T1' := Lib.hid T1.out.drew
    refine stand_take (i := 0) (v := ?_) rfl (by kernel_rfl) (by kernel_rfl) (by kernel_rfl) (by rfl) (fun _ _ _ h => h) (by decide) (by decide) (by rfl) ?_ ?_
    rotate_left
    · (intro w; go_simp; try with_reducible rfl)
    dsimp only [List.set_cons_zero, List.set_cons_succ]
    refine stand_take (i := 1) (v := ?_) rfl (by kernel_rfl) (by kernel_rfl) (by kernel_rfl) (by rfl) (fun _ _ _ h => h) (by decide) (by decide) (by rfl) ?_ ?_
    rotate_left
    · (intro w; go_simp; try with_reducible rfl)
    dsimp only [List.set_cons_zero, List.set_cons_succ]
    refine stand_take (i := 2) (v := ?_) rfl (by kernel_rfl) (by kernel_rfl) (by kernel_rfl) (by rfl) (fun _ _ _ h => h) (by decide) (by decide) (by rfl) ?_ ?_
    rotate_left
    · (intro w; go_simp; try with_reducible rfl)
    dsimp only [List.set_cons_zero, List.set_cons_succ]
    refine stand_take (i := 3) (v := ?_) rfl (by kernel_rfl) (by kernel_rfl) (by kernel_rfl) (by rfl) (fun _ _ _ h => h) (by decide) (by decide) (by rfl) ?_ ?_
    rotate_left
    · (intro w; go_simp; try with_reducible rfl)
    dsimp only [List.set_cons_zero, List.set_cons_succ]
    refine stand_take (i := 4) (v := ?_) rfl (by kernel_rfl) (by kernel_rfl) (by kernel_rfl) (by rfl) (fun _ _ _ h => h) (by decide) (by decide) (by rfl) ?_ ?_
    rotate_left
    · (intro w; go_simp; try with_reducible rfl)
    dsimp only [List.set_cons_zero, List.set_cons_succ]
    refine stand_take (i := 5) (v := ?_) rfl (by kernel_rfl) (by kernel_rfl) (by kernel_rfl) (by rfl) (fun _ _ _ h => h) (by decide) (by decide) (by rfl) ?_ ?_
    rotate_left
    · (intro w; go_simp; try with_reducible rfl)
    dsimp only [List.set_cons_zero, List.set_cons_succ]
    refine stand_take (i := 7) (v := ?_) rfl (by kernel_rfl) (by kernel_rfl) (by kernel_rfl) (by rfl) (fun _ _ _ h => h) (by decide) (by decide) (by rfl) ?_ ?_
    rotate_left
    · (intro w; go_simp; try with_reducible rfl)
    dsimp only [List.set_cons_zero, List.set_cons_succ]
    refine stand_step (i := 6) (by kernel_rfl) rfl (fun K hK => ?_)
    go_simp
    refine (code_any _ [] _ _ A _ HC.out rfl G1.out).mono ?_
    rintro e w' ⟨rfl, rfl⟩
    refine hK.out _ _ (fun _ => trivial) (fun _ => trivial) ?_
    clear hK K
    try simp only [put_laid, List.set_cons_zero, List.set_cons_succ]
    refine stand_step (i := 8) (by kernel_rfl) rfl (fun K hK => ?_)
    go_simp
    refine (of_yes _ 0 0 _ A _ HC.out G1.out).mono ?_
    rintro e w2 ⟨rfl, h2⟩
    have T2 := Lib.hid (h2 ▸ (Turn.refl (fun _ => False) _).alloc _ : Turn (fun _ => False) _ w2)
    have P2 := Lib.hid (h2 ▸ heap_alloc_new _ _ : w2.heap[_]? = _)
    clear h2
    have G2 := Lib.hid (G1.out.kept T2.out)
    refine hK.out _ _ (fun _ => trivial) (fun _ => trivial) ?_
    clear hK K
    try simp only [put_laid, List.set_cons_zero, List.set_cons_succ]
    refine stand_step (i := 9) (by kernel_rfl) rfl (fun K hK => ?_)
    go_simp
    refine (code_any _ [(_, 0, 0)] _ _ A _ HC.out ⟨rfl, _, P2.out, rfl⟩ G2.out).mono ?_
    rintro e w' ⟨rfl, rfl⟩
    refine hK.out _ _ (fun _ => trivial) (fun _ => trivial) ?_
    clear hK K
    try simp only [put_laid, List.set_cons_zero, List.set_cons_succ]
    refine stand_take (i := 10) (v := ?_) rfl (by kernel_rfl) (by kernel_rfl) (by kernel_rfl) (by rfl) (fun _ _ _ h => h) (by decide) (by decide) (by rfl) ?_ ?_
    rotate_left
    · (intro w; go_simp; try with_reducible rfl)
    dsimp only [List.set_cons_zero, List.set_cons_succ]
    refine stand_take (i := 11) (v := ?_) rfl (by kernel_rfl) (by kernel_rfl) (by kernel_rfl) (by rfl) (fun _ _ _ h => h) (by decide) (by decide) (by rfl) ?_ ?_
    rotate_left
    · (intro w; go_simp; try with_reducible rfl)
    dsimp only [List.set_cons_zero, List.set_cons_succ]
    refine stand_take (i := 12) (v := ?_) rfl (by kernel_rfl) (by kernel_rfl) (by kernel_rfl) (by rfl) (fun _ _ _ h => h) (by decide) (by decide) (by rfl) ?_ ?_
    rotate_left
    · (intro w; go_simp; try with_reducible rfl)
    dsimp only [List.set_cons_zero, List.set_cons_succ]
    refine stand_take (i := 13) (v := ?_) rfl (by kernel_rfl) (by kernel_rfl) (by kernel_rfl) (by rfl) (fun _ _ _ h => h) (by decide) (by decide) (by rfl) ?_ ?_
    rotate_left
    · (intro w; go_simp; try with_reducible rfl)
    dsimp only [List.set_cons_zero, List.set_cons_succ]
    refine stand_take (i := 14) (v := ?_) rfl (by kernel_rfl) (by kernel_rfl) (by kernel_rfl) (by rfl) (fun _ _ _ h => h) (by decide) (by decide) (by rfl) ?_ ?_
    rotate_left
    · (intro w; go_simp; try with_reducible rfl)
    dsimp only [List.set_cons_zero, List.set_cons_succ]
    refine stand_take (i := 15) (v := ?_) rfl (by kernel_rfl) (by kernel_rfl) (by kernel_rfl) (by rfl) (fun _ _ _ h => h) (by decide) (by decide) (by rfl) ?_ ?_
    rotate_left
    · (intro w; go_simp; try with_reducible rfl)
    dsimp only [List.set_cons_zero, List.set_cons_succ]
    refine stand_step (i := 16) (by kernel_rfl) rfl (fun K hK => ?_)
    go_simp
    refine (rtext_yes _ _ _ HC.out).mono ?_
    rintro e w' ⟨rfl, rfl⟩
    refine hK.out _ _ (fun _ => trivial) (fun _ => trivial) ?_
    dsimp only [textS, textL]
    clear hK K
    refine stand_take (i := 17) (v := ?_) rfl (by kernel_rfl) (by kernel_rfl) (by kernel_rfl) (by rfl) (fun _ _ _ h => h) (by decide) (by decide) (by rfl) ?_ ?_
    rotate_left
    · (intro w; go_simp; try with_reducible rfl)
    dsimp only [List.set_cons_zero, List.set_cons_succ]
    refine stand_take (i := 18) (v := ?_) rfl (by kernel_rfl) (by kernel_rfl) (by kernel_rfl) (by rfl) (fun _ _ _ h => h) (by decide) (by decide) (by rfl) ?_ ?_
    rotate_left
    · (intro w; go_simp; try with_reducible rfl)
    dsimp only [List.set_cons_zero, List.set_cons_succ]
    refine stand_take (i := 19) (v := ?_) rfl (by kernel_rfl) (by kernel_rfl) (by kernel_rfl) (by rfl) (fun _ _ _ h => h) (by decide) (by decide) (by rfl) ?_ ?_
    rotate_left
    · (intro w; go_simp; try with_reducible rfl)
    dsimp only [List.set_cons_zero, List.set_cons_succ]
    refine stand_done (by kernel_rfl) ?_
    go_wp2_with fail
    go_ret
    exact ⟨rfl, T1'.out.trans T2.out⟩
  · skip
    go_enter Tryd.func4, Tryd.ntmps4
    go_wp2_with fail
    refine (alive_any A _ HG.out).mono ?_
    rintro e w1 ⟨rfl, t1⟩
    have T1 := Lib.hid t1
    clear t1
    go_wp2_with fail
    refine (must_yes _ _ A _ HC.out (HG.out.kept T1.out)).mono ?_
    rintro e w' ⟨rfl, rfl⟩
    go_wp2_with fail
    refine stand_start (by kernel_rfl) 99 (fun _ => True) 99 (fun _ => True) trivial trivial ?_
    have G1 := Lib.hid (HG.out.kept T1.out.drew)
    have T1' := Lib.hid T1.out.drew
    refine stand_take (i := 0) (v := ?_) rfl (by kernel_rfl) (by kernel_rfl) (by kernel_rfl) (by rfl) (fun _ _ _ h => h) (by decide) (by decide) (by rfl) ?_ ?_
    rotate_left
    · (intro w; go_simp; try with_reducible rfl)
    dsimp only [List.set_cons_zero, List.set_cons_succ]
    refine stand_take (i := 1) (v := ?_) rfl (by kernel_rfl) (by kernel_rfl) (by kernel_rfl) (by rfl) (fun _ _ _ h => h) (by decide) (by decide) (by rfl) ?_ ?_
    rotate_left
    · (intro w; go_simp; try with_reducible rfl)
    dsimp only [List.set_cons_zero, List.set_cons_succ]
    refine stand_take (i := 2) (v := ?_) rfl (by kernel_rfl) (by kernel_rfl) (by kernel_rfl) (by rfl) (fun _ _ _ h => h) (by decide) (by decide) (by rfl) ?_ ?_
    rotate_left
    · (intro w; go_simp; try with_reducible rfl)
    dsimp only [List.set_cons_zero, List.set_cons_succ]
    refine stand_take (i := 3) (v := ?_) rfl (by kernel_rfl) (by kernel_rfl) (by kernel_rfl) (by rfl) (fun _ _ _ h => h) (by decide) (by decide) (by rfl) ?_ ?_
    rotate_left
    · (intro w; go_simp; try with_reducible rfl)
    dsimp only [List.set_cons_zero, List.set_cons_succ]
    refine stand_take (i := 4) (v := ?_) rfl (by kernel_rfl) (by kernel_rfl) (by kernel_rfl) (by rfl) (fun _ _ _ h => h) (by decide) (by decide) (by rfl) ?_ ?_
    rotate_left
    · (intro w; go_simp; try with_reducible rfl)
    dsimp only [List.set_cons_zero, List.set_cons_succ]
    refine stand_take (i := 5) (v := ?_) rfl (by kernel_rfl) (by kernel_rfl) (by kernel_rfl) (by rfl) (fun _ _ _ h => h) (by decide) (by decide) (by rfl) ?_ ?_
    rotate_left
    · (intro w; go_simp; try with_reducible rfl)
    dsimp only [List.set_cons_zero, List.set_cons_succ]
    refine stand_take (i := 7) (v := ?_) rfl (by kernel_rfl) (by kernel_rfl) (by kernel_rfl) (by rfl) (fun _ _ _ h => h) (by decide) (by decide) (by rfl) ?_ ?_
    rotate_left
    · (intro w; go_simp; try with_reducible rfl)
    dsimp only [List.set_cons_zero, List.set_cons_succ]
    refine stand_step (i := 6) (by kernel_rfl) rfl (fun K hK => ?_)
    go_simp
    refine (code_any _ [] _ _ A _ HC.out rfl G1.out).mono ?_
    rintro e w' ⟨rfl, rfl⟩
    refine hK.out _ _ (fun _ => trivial) (fun _ => trivial) ?_
    clear hK K
    try simp only [put_laid, List.set_cons_zero, List.set_cons_succ]
    refine stand_step (i := 8) (by kernel_rfl) rfl (fun K hK => ?_)
    go_simp
    refine (of_yes _ 0 0 _ A _ HC.out G1.out).mono ?_
    rintro e w2 ⟨rfl, h2⟩
    have T2 := Lib.hid (h2 ▸ (Turn.refl (fun _ => False) _).alloc _ : Turn (fun _ => False) _ w2)
    have P2 := Lib.hid (h2 ▸ heap_alloc_new _ _ : w2.heap[_]? = _)
    clear h2
    have G2 := Lib.hid (G1.out.kept T2.out)
    refine hK.out _ _ (fun _ => trivial) (fun _ => trivial) ?_
    clear hK K
    try simp only [put_laid, List.set_cons_zero, List.set_cons_succ]
    refine stand_step (i := 9) (by kernel_rfl) rfl (fun K hK => ?_)
    go_simp
    refine (code_any _ [(_, 0, 0)] _ _ A _ HC.out ⟨rfl, _, P2.out, rfl⟩ G2.out).mono ?_
    rintro e w' ⟨rfl, rfl⟩
    refine hK.out _ _ (fun _ => trivial) (fun _ => trivial) ?_
    clear hK K
    try simp only [put_laid, List.set_cons_zero, List.set_cons_succ]
    refine stand_take (i := 10) (v := ?_) rfl (by kernel_rfl) (by kernel_rfl) (by kernel_rfl) (by rfl) (fun _ _ _ h => h) (by decide) (by decide) (by rfl) ?_ ?_
    rotate_left
    · (intro w; go_simp; try with_reducible rfl)
    dsimp only [List.set_cons_zero, List.set_cons_succ]
    refine stand_take (i := 11) (v := ?_) rfl (by kernel_rfl) (by kernel_rfl) (by kernel_rfl) (by rfl) (fun _ _ _ h => h) (by decide) (by decide) (by rfl) ?_ ?_
    rotate_left
    · (intro w; go_simp; try with_reducible rfl)
    dsimp only [List.set_cons_zero, List.set_cons_succ]
    refine stand_take (i := 12) (v := ?_) rfl (by kernel_rfl) (by kernel_rfl) (by kernel_rfl) (by rfl) (fun _ _ _ h => h) (by decide) (by decide) (by rfl) ?_ ?_
    rotate_left
    · (intro w; go_simp; try with_reducible rfl)
    dsimp only [List.set_cons_zero, List.set_cons_succ]
    refine stand_take (i := 13) (v := ?_) rfl (by kernel_rfl) (by kernel_rfl) (by kernel_rfl) (by rfl) (fun _ _ _ h => h) (by decide) (by decide) (by rfl) ?_ ?_
    rotate_left
    · (intro w; go_simp; try with_reducible rfl)
    dsimp only [List.set_cons_zero, List.set_cons_succ]
    refine stand_take (i := 14) (v := ?_) rfl (by kernel_rfl) (by kernel_rfl) (by kernel_rfl) (by rfl) (fun _ _ _ h => h) (by decide) (by decide) (by rfl) ?_ ?_
    rotate_left
    · (intro w; go_simp; try with_reducible rfl)
    dsimp only [List.set_cons_zero, List.set_cons_succ]
    refine stand_take (i := 15) (v := ?_) rfl (by kernel_rfl) (by kernel_rfl) (by kernel_rfl) (by rfl) (fun _ _ _ h => h) (by decide) (by decide) (by rfl) ?_ ?_
    rotate_left
    · (intro w; go_simp; try with_reducible rfl)
    dsimp only [List.set_cons_zero, List.set_cons_succ]
    refine stand_step (i := 16) (by kernel_rfl) rfl (fun K hK => ?_)
    go_simp
    refine (rtext_yes _ _ _ HC.out).mono ?_
    rintro e w' ⟨rfl, rfl⟩
    refine hK.out _ _ (fun _ => trivial) (fun _ => trivial) ?_
    dsimp only [textS, textL]
    clear hK K
    refine stand_take (i := 17) (v := ?_) rfl (by kernel_rfl) (by kernel_rfl) (by kernel_rfl) (by rfl) (fun _ _ _ h => h) (by decide) (by decide) (by rfl) ?_ ?_
    rotate_left
    · (intro w; go_simp; try with_reducible rfl)
    dsimp only [List.set_cons_zero, List.set_cons_succ]
    refine stand_take (i := 18) (v := ?_) rfl (by kernel_rfl) (by kernel_rfl) (by kernel_rfl) (by rfl) (fun _ _ _ h => h) (by decide) (by decide) (by rfl) ?_ ?_
    rotate_left
    · (intro w; go_simp; try with_reducible rfl)
    dsimp only [List.set_cons_zero, List.set_cons_succ]
    refine stand_take (i := 19) (v := ?_) rfl (by kernel_rfl) (by kernel_rfl) (by kernel_rfl) (by rfl) (fun _ _ _ h => h) (by decide) (by decide) (by rfl) ?_ ?_
    rotate_left
    · (intro w; go_simp; try with_reducible rfl)
    dsimp only [List.set_cons_zero, List.set_cons_succ]
    refine stand_done (by kernel_rfl) ?_
    go_wp2_with fail
    go_ret
    exact ⟨rfl, T1'.out.trans T2.out⟩

theorem must_any (code : Int) (A : Nat → Addr) (w : World) (hG : Glob w A) :
    Calls Tryd.prog 4 #[.int .i64 code] w fun e w' => e = .returned (.bool true) ∧ Turn (fun _ => False) w w' := by
  rcases code_part code with ⟨k, hk⟩ | hn
  · exact must_law_yes code k A w hG hk
  · exact must_law_no code A w hG hn

end Go.Proofs.YthjjiaobhojelaaDoor
