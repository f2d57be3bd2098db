/- same: a pool is as it should be. -/
import Derived.Test.YtmjenbkhmhpleaaRefD
namespace Go.Proofs.Ytmjenbkhmhpleaa
open Go.RowKit
set_option linter.unusedVariables false

theorem cache_neg {base p q : Nat} {s : St} {R : Nat → Rw} (w : World) (h : IsPool w base p q s R) :
    Calls Try.prog 23 #[.pointer (some ⟨p, 0, none⟩), .int .i64 (-1)] w fun e w' => e = .returned (.slice none 0 0) ∧ w = w' := cache_no w h (Or.inl (by decide))
theorem cache_past {base p q n : Nat} {s : St} {R : Nat → Rw} (w : World) (h : IsPool w base p q s R) (hn : s.n = n) :
    Calls Try.prog 23 #[.pointer (some ⟨p, 0, none⟩), .int .i64 n] w fun e w' => e = .returned (.slice none 0 0) ∧ w = w' := cache_no w h (Or.inr (by omega))
theorem rcount_at {s : St} {ca ma : Option Addr} {cc mc nm : Nat} {D : Nat → Prop} {z : Int} (w : World) (h : RS w s ca cc ma mc D) (hG : Good s) (hnm : (s.M s.n).length = nm) (hz : cnt s = z) :
    Calls Try.prog 30 #[.agg #[.int .i64 s.size, .int .i64 s.most, .slice ca s.n cc, .slice ma nm mc, .int .i64 s.fresh]] w fun e w' => e = .returned (.int .i64 z) ∧ Turn (fun _ => False) w w' := by
  subst hnm
  subst hz
  exact rcount_any w h hG

set_option maxRecDepth 100000 in
set_option maxHeartbeats 4000000 in
theorem samep_any {base p q : Nat} {s : St} {R : Nat → Rw} {ca ma : Option Addr} {cc mc : Nat} {D : Nat → Prop} (w : World) (h : IsPool w base p q s R) (hr : RS w s ca cc ma mc D) (hG : Good s) :
    Calls Try.prog 14 #[.pointer (some ⟨p, 0, none⟩), ragg s.size s.most ca s.n cc ma (s.M s.n).length mc s.fresh] w fun e w' => e = .returned (.bool true) ∧ Turn (fun _ => False) w w' := by
  have H := Lib.hid h
  have HR := Lib.hid hr
  have HG := Lib.hid hG
  have hn8 := hG.n
  have hm64 := hG.row (Nat.le_refl s.n)
  obtain ⟨nm, hnm⟩ : ∃ nm, (s.M s.n).length = nm := ⟨_, rfl⟩
  obtain ⟨z, hz⟩ : ∃ z, cnt s = z := ⟨_, rfl⟩
  rw [hnm] at hm64 ⊢
  have HNM := Lib.hid hnm
  have HZ := Lib.hid hz
  clear h hr hG hnm hz
  unfold ragg
  go_enter Try.func14, Try.ntmps14
  go_wp2_with fail
  have TA := Lib.hid ((Turn.refl (fun _ => False) w).alloc (.cells #[.int .i64 s.size, .int .i64 s.most, .slice ca s.n cc, .slice ma nm mc, .int .i64 s.fresh] 25))
  have BX := Lib.hid (show RBox (w.alloc (.cells #[.int .i64 s.size, .int .i64 s.most, .slice ca s.n cc, .slice ma nm mc, .int .i64 s.fresh] 25)) w.heap.size s.size s.most ca s.n cc ma nm mc s.fresh from heap_alloc_new w _)
  generalize w.alloc (.cells #[.int .i64 s.size, .int .i64 s.most, .slice ca s.n cc, .slice ma nm mc, .int .i64 s.fresh] 25) = w1 at TA BX ⊢
  generalize w.heap.size = bx at BX ⊢
  go_loopw [10] (fun s10 wr => ∃ k : Nat, k ≤ s.n ∧ s10 = .int .i64 k ∧ Hid (Turn (fun _ => False) w1 wr)) (fun s10 _ => s.n - (intOf s10).toNat)
  case atStart => exact ⟨0, Nat.zero_le _, rfl, Lib.hid (Turn.refl _ _)⟩
  case round =>
    obtain ⟨k, hk, rfl, HT⟩ := hrel
    by_cases hlt : k < s.n
    · obtain ⟨ad, a, c, hca, hcell, hints, _, _, _⟩ := (HR.out.new (TA.out.trans HT.out)).row k hlt
      subst hca
      obtain ⟨nk, hnk⟩ : ∃ nk, (s.M k).length = nk := ⟨_, rfl⟩
      have hk64 := HG.out.row (i := k) (Nat.le_of_lt hlt)
      rw [hnk] at hcell hk64
      have HNK := Lib.hid hnk
      have HI := Lib.hid hints
      clear hnk hints
      go_wp2_with fail
      refine (cache_yes wr (H.out.new (TA.out.trans HT.out)) hlt HNK.out (by omega)).mono ?_
      rintro e w3 ⟨rfl, r3, t3⟩
      have R3 := Lib.hid r3
      have T3 := Lib.hid t3
      clear r3 t3
      go_wp2_with fail
      refine (same_eq w3 R3.out.ints (HI.out.turn T3.out (fun _ _ => id)) HNK.out (by omega)).mono ?_
      rintro e w4 ⟨rfl, n4, rfl⟩
      go_wp2_with fail
      go_roundw
      case rel => exact ⟨k + 1, by omega, by go_num, Lib.hid ((HT.out.trans T3.out).drewN n4)⟩
      case measure => simp [intOf]; omega
    · go_wp2_with fail
      have B1 := Lib.hid (BX.out.turn HT.out id)
      refine stand_start (by kernel_rfl) 99 (fun w' => w'.cell? ⟨bx, 0, none⟩ = some (.int .i64 s.size) ∧ w'.cell? ⟨bx, 1, none⟩ = some (.int .i64 s.most) ∧ w'.cell? ⟨bx, 2, none⟩ = some (.slice ca s.n cc) ∧ w'.cell? ⟨bx, 3, none⟩ = some (.slice ma nm mc) ∧ w'.cell? ⟨bx, 4, none⟩ = some (.int .i64 s.fresh)) 99 (fun w' => True) ⟨B1.out.d0, B1.out.d1, B1.out.d2, B1.out.d3, B1.out.d4⟩ trivial ?_
      have U1 := Lib.hid (show Turn (fun _ => False) w1 wr.drew from HT.out.drewN 1)
      generalize wr.drew = x1 at U1 ⊢
      refine stand_take (i := 0) (v := ?_) rfl (by kernel_rfl) (by kernel_rfl) (by kernel_rfl) (by rfl) (fun _ _ _ h => h) (by decide) (by decide) (by rfl) ?_ ?_
      rotate_left
      · (intro w; go_simp; try with_reducible rfl)
      dsimp only [List.set_cons_zero, List.set_cons_succ]
      refine stand_take (i := 2) (v := ?_) rfl (by kernel_rfl) (by kernel_rfl) (by kernel_rfl) (by rfl) (fun _ _ _ h => h) (by decide) (by decide) (by rfl) ?_ ?_
      rotate_left
      · (intro w; go_simp; try with_reducible rfl)
      dsimp only [List.set_cons_zero, List.set_cons_succ]
      refine stand_load3 (i := 3) (v := ?_) rfl (by kernel_rfl) (by kernel_rfl) (by kernel_rfl) (by rfl) (fun _ _ _ h => h) (by decide) (by decide) (by kernel_rfl) (by rfl) ?_ ?_
      rotate_left
      · (intro w hA; (try dsimp only at hA); go_simp; try with_reducible rfl)
      dsimp only [List.set_cons_zero, List.set_cons_succ]
      refine stand_step (i := 1) (by kernel_rfl) rfl (fun K hK => ?_)
      go_simp
      refine (middle_any x1 (H.out.new (TA.out.trans U1.out)) HNM.out (by omega)).mono ?_
      rintro e x2 ⟨rfl, r2, t2⟩
      have R2 := Lib.hid r2
      have U2 := Lib.hid (U1.out.trans t2)
      have B2 := Lib.hid (BX.out.turn U2.out id)
      clear r2 t2
      refine hK.out _ _ (fun _ => ⟨B2.out.d0, B2.out.d1, B2.out.d2, B2.out.d3, B2.out.d4⟩) (fun _ => trivial) ?_
      clear hK K
      try simp only [put_laid, List.set_cons_zero, List.set_cons_succ]
      refine stand_step (i := 4) (by kernel_rfl) rfl (fun K hK => ?_)
      go_simp
      refine (same_eq x2 R2.out.ints (HR.out.mid.turn (TA.out.trans U2.out) (fun _ _ => id)) HNM.out (by omega)).mono ?_
      rintro e x3 ⟨rfl, n3, rfl⟩
      have U3 := Lib.hid (U2.out.drewN n3)
      have B3 := Lib.hid (BX.out.turn U3.out id)
      refine hK.out _ _ (fun _ => ⟨B3.out.d0, B3.out.d1, B3.out.d2, B3.out.d3, B3.out.d4⟩) (fun _ => trivial) ?_
      clear hK K
      try simp only [put_laid, List.set_cons_zero, List.set_cons_succ]
      generalize x2.drewN n3 = x3 at U3 B3 ⊢
      refine stand_take (i := 5) (v := ?_) rfl (by kernel_rfl) (by kernel_rfl) (by kernel_rfl) (by rfl) (fun _ _ _ h => h) (by decide) (by decide) (by rfl) ?_ ?_
      rotate_left
      · (intro w; go_simp; try with_reducible rfl)
      dsimp only [List.set_cons_zero, List.set_cons_succ]
      refine stand_take (i := 6) (v := ?_) rfl (by kernel_rfl) (by kernel_rfl) (by kernel_rfl) (by rfl) (fun _ _ _ h => h) (by decide) (by decide) (by rfl) ?_ ?_
      rotate_left
      · (intro w; go_simp; try with_reducible rfl)
      dsimp only [List.set_cons_zero, List.set_cons_succ]
      refine stand_take (i := 8) (v := ?_) rfl (by kernel_rfl) (by kernel_rfl) (by kernel_rfl) (by rfl) (fun _ _ _ h => h) (by decide) (by decide) (by rfl) ?_ ?_
      rotate_left
      · (intro w; go_simp; try with_reducible rfl)
      dsimp only [List.set_cons_zero, List.set_cons_succ]
      refine stand_load3 (i := 9) (v := ?_) rfl (by kernel_rfl) (by kernel_rfl) (by kernel_rfl) (by rfl) (fun _ _ _ h => h) (by decide) (by decide) (by kernel_rfl) (by rfl) ?_ ?_
      rotate_left
      · (intro w hA; (try dsimp only at hA); go_simp; try with_reducible rfl)
      dsimp only [List.set_cons_zero, List.set_cons_succ]
      refine stand_step (i := 7) (by kernel_rfl) rfl (fun K hK => ?_)
      go_simp
      refine (fresh_any x3 (H.out.new (TA.out.trans U3.out))).mono ?_
      rintro e x4 ⟨rfl, rfl⟩
      refine hK.out _ _ (fun _ => ⟨B3.out.d0, B3.out.d1, B3.out.d2, B3.out.d3, B3.out.d4⟩) (fun _ => trivial) ?_
      clear hK K
      try simp only [put_laid, List.set_cons_zero, List.set_cons_succ]
      refine stand_take (i := 10) (v := ?_) rfl (by kernel_rfl) (by kernel_rfl) (by kernel_rfl) (by rfl) (fun _ _ _ h => h) (by decide) (by decide) (by rfl) ?_ ?_
      rotate_left
      · (intro w; go_simp; try with_reducible rfl)
      dsimp only [List.set_cons_zero, List.set_cons_succ]
      refine stand_take (i := 11) (v := ?_) rfl (by kernel_rfl) (by kernel_rfl) (by kernel_rfl) (by rfl) (fun _ _ _ h => h) (by decide) (by decide) (by rfl) ?_ ?_
      rotate_left
      · (intro w; go_simp; try with_reducible rfl)
      dsimp only [List.set_cons_zero, List.set_cons_succ]
      refine stand_take (i := 12) (v := ?_) rfl (by kernel_rfl) (by kernel_rfl) (by kernel_rfl) (by rfl) (fun _ _ _ h => h) (by decide) (by decide) (by rfl) ?_ ?_
      rotate_left
      · (intro w; go_simp; try with_reducible rfl)
      dsimp only [List.set_cons_zero, List.set_cons_succ]
      refine stand_take (i := 13) (v := ?_) rfl (by kernel_rfl) (by kernel_rfl) (by kernel_rfl) (by rfl) (fun _ _ _ h => h) (by decide) (by decide) (by rfl) ?_ ?_
      rotate_left
      · (intro w; go_simp; try with_reducible rfl)
      dsimp only [List.set_cons_zero, List.set_cons_succ]
      refine stand_load3 (i := 15) (v := ?_) rfl (by kernel_rfl) (by kernel_rfl) (by kernel_rfl) (by rfl) (fun _ _ _ h => h) (by decide) (by decide) (by kernel_rfl) (by rfl) ?_ ?_
      rotate_left
      · (intro w hA; (try dsimp only at hA); go_simp; try with_reducible rfl)
      dsimp only [List.set_cons_zero, List.set_cons_succ]
      refine stand_step (i := 14) (by kernel_rfl) rfl (fun K hK => ?_)
      go_simp
      refine (count_at' x3 (H.out.new (TA.out.trans U3.out)) HG.out HZ.out).mono ?_
      rintro e x4 ⟨rfl, n4, rfl⟩
      have U4 := Lib.hid (U3.out.drewN n4)
      have B4 := Lib.hid (BX.out.turn U4.out id)
      refine hK.out _ _ (fun _ => ⟨B4.out.d0, B4.out.d1, B4.out.d2, B4.out.d3, B4.out.d4⟩) (fun _ => trivial) ?_
      clear hK K
      try simp only [put_laid, List.set_cons_zero, List.set_cons_succ]
      generalize x3.drewN n4 = x4 at U4 B4 ⊢
      refine stand_step (i := 16) (by kernel_rfl) rfl (fun K hK => ?_)
      go_simp
      refine (rcount_at x4 (HR.out.new (TA.out.trans U4.out)) HG.out HNM.out HZ.out).mono ?_
      rintro e x5 ⟨rfl, t5⟩
      have U5 := Lib.hid (U4.out.trans t5)
      have B5 := Lib.hid (BX.out.turn U5.out id)
      clear t5
      refine hK.out _ _ (fun _ => ⟨B5.out.d0, B5.out.d1, B5.out.d2, B5.out.d3, B5.out.d4⟩) (fun _ => trivial) ?_
      clear hK K
      try simp only [put_laid, List.set_cons_zero, List.set_cons_succ]
      refine stand_take (i := 17) (v := ?_) rfl (by kernel_rfl) (by kernel_rfl) (by kernel_rfl) (by rfl) (fun _ _ _ h => h) (by decide) (by decide) (by rfl) ?_ ?_
      rotate_left
      · (intro w; go_simp; try with_reducible rfl)
      dsimp only [List.set_cons_zero, List.set_cons_succ]
      refine stand_take (i := 18) (v := ?_) rfl (by kernel_rfl) (by kernel_rfl) (by kernel_rfl) (by rfl) (fun _ _ _ h => h) (by decide) (by decide) (by rfl) ?_ ?_
      rotate_left
      · (intro w; go_simp; try with_reducible rfl)
      dsimp only [List.set_cons_zero, List.set_cons_succ]
      refine stand_take (i := 19) (v := ?_) rfl (by kernel_rfl) (by kernel_rfl) (by kernel_rfl) (by rfl) (fun _ _ _ h => h) (by decide) (by decide) (by rfl) ?_ ?_
      rotate_left
      · (intro w; go_simp; try with_reducible rfl)
      dsimp only [List.set_cons_zero, List.set_cons_succ]
      refine stand_take (i := 20) (v := ?_) rfl (by kernel_rfl) (by kernel_rfl) (by kernel_rfl) (by rfl) (fun _ _ _ h => h) (by decide) (by decide) (by rfl) ?_ ?_
      rotate_left
      · (intro w; go_simp; try with_reducible rfl)
      dsimp only [List.set_cons_zero, List.set_cons_succ]
      refine stand_step (i := 21) (by kernel_rfl) rfl (fun K hK => ?_)
      go_simp
      refine (cache_neg x5 (H.out.new (TA.out.trans U5.out))).mono ?_
      rintro e x6 ⟨rfl, rfl⟩
      refine hK.out _ _ (fun _ => ⟨B5.out.d0, B5.out.d1, B5.out.d2, B5.out.d3, B5.out.d4⟩) (fun _ => trivial) ?_
      clear hK K
      try simp only [put_laid, List.set_cons_zero, List.set_cons_succ]
      refine stand_take (i := 22) (v := ?_) rfl (by kernel_rfl) (by kernel_rfl) (by kernel_rfl) (by rfl) (fun _ _ _ h => h) (by decide) (by decide) (by rfl) ?_ ?_
      rotate_left
      · (intro w; go_simp; try with_reducible rfl)
      dsimp only [List.set_cons_zero, List.set_cons_succ]
      refine stand_take (i := 23) (v := ?_) rfl (by kernel_rfl) (by kernel_rfl) (by kernel_rfl) (by rfl) (fun _ _ _ h => h) (by decide) (by decide) (by rfl) ?_ ?_
      rotate_left
      · (intro w; go_simp; try with_reducible rfl)
      dsimp only [List.set_cons_zero, List.set_cons_succ]
      refine stand_take (i := 24) (v := ?_) rfl (by kernel_rfl) (by kernel_rfl) (by kernel_rfl) (by rfl) (fun _ _ _ h => h) (by decide) (by decide) (by rfl) ?_ ?_
      rotate_left
      · (intro w; go_simp; try with_reducible rfl)
      dsimp only [List.set_cons_zero, List.set_cons_succ]
      refine stand_take (i := 25) (v := ?_) rfl (by kernel_rfl) (by kernel_rfl) (by kernel_rfl) (by rfl) (fun _ _ _ h => h) (by decide) (by decide) (by rfl) ?_ ?_
      rotate_left
      · (intro w; go_simp; try with_reducible rfl)
      dsimp only [List.set_cons_zero, List.set_cons_succ]
      refine stand_take (i := 26) (v := ?_) rfl (by kernel_rfl) (by kernel_rfl) (by kernel_rfl) (by rfl) (fun _ _ _ h => h) (by decide) (by decide) (by rfl) ?_ ?_
      rotate_left
      · (intro w; go_simp; try with_reducible rfl)
      dsimp only [List.set_cons_zero, List.set_cons_succ]
      refine stand_take (i := 27) (v := ?_) rfl (by kernel_rfl) (by kernel_rfl) (by kernel_rfl) (by rfl) (fun _ _ _ h => h) (by decide) (by decide) (by rfl) ?_ ?_
      rotate_left
      · (intro w; go_simp; try with_reducible rfl)
      dsimp only [List.set_cons_zero, List.set_cons_succ]
      refine stand_load3 (i := 28) (v := ?_) rfl (by kernel_rfl) (by kernel_rfl) (by kernel_rfl) (by rfl) (fun _ _ _ h => h) (by decide) (by decide) (by kernel_rfl) (by rfl) ?_ ?_
      rotate_left
      · (intro w hA; (try dsimp only at hA); go_simp; try with_reducible rfl)
      dsimp only [List.set_cons_zero, List.set_cons_succ]
      refine stand_take (i := 29) (v := ?_) rfl (by kernel_rfl) (by kernel_rfl) (by kernel_rfl) (by rfl) (fun _ _ _ h => h) (by decide) (by decide) (by rfl) ?_ ?_
      rotate_left
      · (intro w; go_simp; try with_reducible rfl)
      dsimp only [List.set_cons_zero, List.set_cons_succ]
      refine stand_step (i := 30) (by kernel_rfl) rfl (fun K hK => ?_)
      go_simp
      refine (cache_past x5 (H.out.new (TA.out.trans U5.out)) rfl).mono ?_
      rintro e x6 ⟨rfl, rfl⟩
      refine hK.out _ _ (fun _ => ⟨B5.out.d0, B5.out.d1, B5.out.d2, B5.out.d3, B5.out.d4⟩) (fun _ => trivial) ?_
      clear hK K
      try simp only [put_laid, List.set_cons_zero, List.set_cons_succ]
      refine stand_take (i := 31) (v := ?_) rfl (by kernel_rfl) (by kernel_rfl) (by kernel_rfl) (by rfl) (fun _ _ _ h => h) (by decide) (by decide) (by rfl) ?_ ?_
      rotate_left
      · (intro w; go_simp; try with_reducible rfl)
      dsimp only [List.set_cons_zero, List.set_cons_succ]
      refine stand_take (i := 32) (v := ?_) rfl (by kernel_rfl) (by kernel_rfl) (by kernel_rfl) (by rfl) (fun _ _ _ h => h) (by decide) (by decide) (by rfl) ?_ ?_
      rotate_left
      · (intro w; go_simp; try with_reducible rfl)
      dsimp only [List.set_cons_zero, List.set_cons_succ]
      refine stand_take (i := 33) (v := ?_) rfl (by kernel_rfl) (by kernel_rfl) (by kernel_rfl) (by rfl) (fun _ _ _ h => h) (by decide) (by decide) (by rfl) ?_ ?_
      rotate_left
      · (intro w; go_simp; try with_reducible rfl)
      dsimp only [List.set_cons_zero, List.set_cons_succ]
      refine stand_take (i := 34) (v := ?_) rfl (by kernel_rfl) (by kernel_rfl) (by kernel_rfl) (by rfl) (fun _ _ _ h => h) (by decide) (by decide) (by rfl) ?_ ?_
      rotate_left
      · (intro w; go_simp; try with_reducible rfl)
      dsimp only [List.set_cons_zero, List.set_cons_succ]
      refine stand_done (by kernel_rfl) ?_
      go_wp2_with fail
      go_ret
      exact ⟨rfl, TA.out.trans U5.out⟩

end Go.Proofs.Ytmjenbkhmhpleaa
