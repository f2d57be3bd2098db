/- The walk of spill. -/
import Derived.Test.YtmjenbkhmhpleaaRefill
namespace Go.Proofs.Ytmjenbkhmhpleaa
open Go.RowKit
set_option linter.unusedVariables false

set_option maxHeartbeats 2000000 in
theorem spill_any {base p q g : Nat} {s : St} {R : Nat → Rw} (w : World) (h : IsPool w base p q s R) (hG : Good s) (hg : g < s.n) (h0 : (s.M g).length = s.most) :
    Calls Try.prog 34 #[.pointer (some ⟨p, 0, none⟩), .int .i64 g] w fun e w' => e = .returned (.tuple #[]) ∧ Kept w w' base p q s.n R (spilled s g) := by
  have HK := Lib.hid (show spillK s g = s.most - s.most / 2 by unfold spillK; rw [if_pos h0])
  have hm16 := hG.most.2
  have hn8 := hG.n
  have hm64 := hG.row (Nat.le_refl s.n)
  have H := Lib.hid h
  have H0 := Lib.hid h0
  obtain ⟨m, hm⟩ : ∃ m, m = (s.M s.n).length := ⟨_, rfl⟩
  have HM := Lib.hid hm
  obtain ⟨hf, hhf⟩ : ∃ hf, s.most / 2 = hf := ⟨_, rfl⟩
  have HF := Lib.hid hhf
  have hf8 : hf ≤ 8 := by omega
  rw [← hm] at hm64
  obtain ⟨K, hK⟩ : ∃ K, K = spillK s g := ⟨_, rfl⟩
  have HKK := Lib.hid hK
  have HKm := Lib.hid (show K + hf = s.most by rw [hK, HK.out, hhf]; omega)
  have hK1 : K ≤ 16 := by have := HKm.out; omega
  clear h hG h0 hm hhf hK
  go_enter Try.func34, Try.ntmps34
  go_wp2_with fail
  go_loopg [] K (fun k wr => ∃ (t : Nat) (R' : Nat → Rw), t + k = K ∧ Hid (At w wr base p q s R g s.n t R'))
  case atStart => exact ⟨0, R, by omega, Lib.hid (At.start _ _ H.out)⟩
  case round =>
    obtain ⟨t, R', htk, HA⟩ := hrel
    have c2 := HA.out.pool.cells.c2
    have rc := HA.out.pool.cells.rc hg
    have l1 : (R' g).l.length = s.most - t := by rw [len_i HA.out.pool (Nat.le_of_lt hg) (by omega), H0.out]
    have l2 : (R' s.n).l.length = m + t := by rw [len_j HA.out.pool (Nat.le_refl _) (by rw [H0.out]; have := HKm.out; omega), ← HM.out]
    obtain ⟨nm, hnm⟩ : ∃ nm, nm = s.most - t := ⟨_, rfl⟩
    obtain ⟨mt, hmt⟩ : ∃ mt, mt = m + t := ⟨_, rfl⟩
    rw [l1, ← hnm] at rc
    have L1 := Lib.hid (l1.trans hnm.symm)
    have L2 := Lib.hid (l2.trans hmt.symm)
    have HT := Lib.hid htk
    have hnm16 : nm ≤ 16 := by omega
    have hmt80 : mt ≤ 80 := by omega
    by_cases hlt : t < K
    · have hh2 : hf < nm := by have := HKm.out; omega
      have HTK := Lib.hid hlt
      have HTm := Lib.hid (show t < (s.M g).length by rw [H0.out]; have := HKm.out; omega)
      clear l1 l2 hnm hmt htk hlt
      go_wp2_with fail
      go_quiet ((go_at_call 37; exact Calls.quiet_of_same ((half_any _ (HA.out.pool.drewN _) hm16 HF.out).mono fun _ _ ⟨a, b⟩ => ⟨a, b.symm⟩)))
      go_wp2_with fail
      have HA2 := Lib.hid (HA.out.drewN nq)
      clear HA c2 rc
      generalize wr.drewN nq = w2 at HA2 ⊢
      have HA3 := Lib.hid (show At w w2.drew base p q s R g s.n t R' from HA2.out.drewN 1)
      obtain ⟨n', hn'⟩ : ∃ n', nm = n' + 1 := ⟨nm - 1, by omega⟩
      obtain ⟨ga, c', he, hg1, _⟩ := own_form (HA3.out.pool.rows.own g (Nat.le_of_lt hg)) (by rw [L1.out]; omega)
      have ha : (R' g).a = some ⟨ga, 0, none⟩ := by cases hh : R' g with | mk a c l => rw [hh] at he; cases he; rfl
      have c2 := HA2.out.pool.cells.c2
      have c3 := HA2.out.pool.cells.c3
      have rc := HA2.out.pool.cells.rc hg
      have c3 : w2.cell? ⟨p, 3, none⟩ = some (.slice (R' s.n).a (R' s.n).l.length (R' s.n).c) := c3
      rw [L1.out, ha] at rc
      rw [L2.out] at c3
      have OF := Lib.hid (HA3.out.pool.rows.own g (Nat.le_of_lt hg))
      unfold Rw.own Rw.v at OF
      rw [L1.out, ha] at OF
      have OT := Lib.hid (HA3.out.pool.rows.own s.n (Nat.le_refl _))
      unfold Rw.own Rw.v at OT
      rw [L2.out] at OT
      have HAP := Lib.hid (show (Value.slice (R' s.n).a mt (R' s.n).c).ownBlock ≠ some ga from fun e => HA3.out.pool.rows.apart s.n g ga (Nat.le_refl _) (Nat.le_of_lt hg) (by omega) (by unfold Rw.v; rw [L2.out]; exact e) (by unfold Rw.v; rw [own_block, ha]; rfl))
      have HNN := Lib.hid hn'
      have HBB := Lib.hid (show base ≤ w2.drew.heap.size from Nat.le_trans HA3.out.pool.bp (Nat.le_of_lt HA3.out.pool.cells.ltp))
      have hne1 : ¬ p = q := HA2.out.pool.ne
      have hne2 : ¬ q = p := fun e => hne1 e.symm
      have HA' := Lib.hid ha
      clear hn' he hg1 ha
      have G3 := Lib.hid (And.intro c3 rc)
      refine stand_start (by kernel_rfl) 17 (fun w' => w'.cell? ⟨p, 3, none⟩ = some (.slice (R' s.n).a mt (R' s.n).c) ∧ w'.cell? ⟨q, g, none⟩ = some (.slice (some ⟨ga, 0, none⟩) nm (R' g).c)) 22 (fun w' => w'.cell? ⟨p, 2, none⟩ = some (.slice (some ⟨q, 0, none⟩) s.n s.n)) ⟨G3.out.1, G3.out.2⟩ c2 ?_
      clear c2 c3 rc
      refine stand_take (i := 0) (v := ?_) rfl (by kernel_rfl) (by kernel_rfl) (by kernel_rfl) (by rfl) (fun _ _ _ h => h) (by decide) (by decide) (by rfl) ?_ ?_
      rotate_left
      · (intro w; go_simp; try with_reducible rfl)
      dsimp only [List.set_cons_zero, List.set_cons_succ]
      refine stand_take (i := 1) (v := ?_) rfl (by kernel_rfl) (by kernel_rfl) (by kernel_rfl) (by rfl) (fun _ _ _ h => h) (by decide) (by decide) (by rfl) ?_ ?_
      rotate_left
      · (intro w; go_simp; try with_reducible rfl)
      dsimp only [List.set_cons_zero, List.set_cons_succ]
      refine stand_take (i := 2) (v := ?_) rfl (by kernel_rfl) (by kernel_rfl) (by kernel_rfl) (by rfl) (fun _ _ _ h => h) (by decide) (by decide) (by rfl) ?_ ?_
      rotate_left
      · (intro w; go_simp; try with_reducible rfl)
      dsimp only [List.set_cons_zero, List.set_cons_succ]
      refine stand_load2 (i := 3) (v := ?_) rfl (by kernel_rfl) (by kernel_rfl) (by kernel_rfl) (by rfl) (fun _ _ _ h => h) (by decide) (by decide) (by kernel_rfl) (by rfl) ?_ ?_
      rotate_left
      · (intro w hA; (try dsimp only at hA); go_simp; try with_reducible rfl)
      dsimp only [List.set_cons_zero, List.set_cons_succ]
      refine stand_take (i := 4) (v := ?_) rfl (by kernel_rfl) (by kernel_rfl) (by kernel_rfl) (by rfl) (fun _ _ _ h => h) (by decide) (by decide) (by rfl) ?_ ?_
      rotate_left
      · (intro w; go_simp; try with_reducible rfl)
      dsimp only [List.set_cons_zero, List.set_cons_succ]
      refine stand_take (i := 5) (v := ?_) rfl (by kernel_rfl) (by kernel_rfl) (by kernel_rfl) (by rfl) (fun _ _ _ h => h) (by decide) (by decide) (by rfl) ?_ ?_
      rotate_left
      · (intro w; go_simp; try with_reducible rfl)
      dsimp only [List.set_cons_zero, List.set_cons_succ]
      refine stand_take (i := 6) (v := ?_) rfl (by kernel_rfl) (by kernel_rfl) (by kernel_rfl) (by rfl) (fun _ _ _ h => h) (by decide) (by decide) (by rfl) ?_ ?_
      rotate_left
      · (intro w; go_simp; try with_reducible rfl)
      dsimp only [List.set_cons_zero, List.set_cons_succ]
      refine stand_take (i := 7) (v := ?_) rfl (by kernel_rfl) (by kernel_rfl) (by kernel_rfl) (by rfl) (fun _ _ _ h => h) (by decide) (by decide) (by rfl) ?_ ?_
      rotate_left
      · (intro w; go_simp; try with_reducible rfl)
      dsimp only [List.set_cons_zero, List.set_cons_succ]
      refine stand_take (i := 8) (v := ?_) rfl (by kernel_rfl) (by kernel_rfl) (by kernel_rfl) (by rfl) (fun _ _ _ h => h) (by decide) (by decide) (by rfl) ?_ ?_
      rotate_left
      · (intro w; go_simp; try with_reducible rfl)
      dsimp only [List.set_cons_zero, List.set_cons_succ]
      refine stand_load2 (i := 9) (v := ?_) rfl (by kernel_rfl) (by kernel_rfl) (by kernel_rfl) (by rfl) (fun _ _ _ h => h) (by decide) (by decide) (by kernel_rfl) (by rfl) ?_ ?_
      rotate_left
      · (intro w hA; (try dsimp only at hA); go_simp; try with_reducible rfl)
      dsimp only [List.set_cons_zero, List.set_cons_succ]
      refine stand_take (i := 10) (v := ?_) rfl (by kernel_rfl) (by kernel_rfl) (by kernel_rfl) (by rfl) (fun _ _ _ h => h) (by decide) (by decide) (by rfl) ?_ ?_
      rotate_left
      · (intro w; go_simp; try with_reducible rfl)
      dsimp only [List.set_cons_zero, List.set_cons_succ]
      refine stand_take (i := 11) (v := ?_) rfl (by kernel_rfl) (by kernel_rfl) (by kernel_rfl) (by rfl) (fun _ _ _ h => h) (by decide) (by decide) (by rfl) ?_ ?_
      rotate_left
      · (intro w; go_simp; try with_reducible rfl)
      dsimp only [List.set_cons_zero, List.set_cons_succ]
      refine stand_load1 (i := 12) (v := ?_) rfl (by kernel_rfl) (by kernel_rfl) (by kernel_rfl) (by rfl) (fun _ _ _ h => h) (by decide) (by decide) (by kernel_rfl) (by rfl) ?_ ?_
      rotate_left
      · (intro w hA; (try dsimp only at hA); go_simp; try with_reducible rfl)
      dsimp only [List.set_cons_zero, List.set_cons_succ]
      refine stand_take (i := 13) (v := ?_) rfl (by kernel_rfl) (by kernel_rfl) (by kernel_rfl) (by rfl) (fun _ _ _ h => h) (by decide) (by decide) (by rfl) ?_ ?_
      rotate_left
      · (intro w; go_simp; try with_reducible rfl)
      dsimp only [List.set_cons_zero, List.set_cons_succ]
      refine stand_take (i := 14) (v := ?_) rfl (by kernel_rfl) (by kernel_rfl) (by kernel_rfl) (by rfl) (fun _ _ _ h => h) (by decide) (by decide) (by rfl) ?_ ?_
      rotate_left
      · (intro w; go_simp; try with_reducible rfl)
      dsimp only [List.set_cons_zero, List.set_cons_succ]
      refine stand_take (i := 15) (v := ?_) rfl (by kernel_rfl) (by kernel_rfl) (by kernel_rfl) (by rfl) (fun _ _ _ h => h) (by decide) (by decide) (by rfl) ?_ ?_
      rotate_left
      · (intro w; go_simp; try with_reducible rfl)
      dsimp only [List.set_cons_zero, List.set_cons_succ]
      refine stand_load1 (i := 16) (v := ?_) rfl (by kernel_rfl) (by kernel_rfl) (by kernel_rfl) (by rfl) (fun _ _ _ h => h) (by decide) (by decide) (by kernel_rfl) (by rfl) ?_ ?_
      rotate_left
      · (intro w hA; (try dsimp only at hA); go_simp; try with_reducible rfl)
      dsimp only [List.set_cons_zero, List.set_cons_succ]
      refine stand_step (i := 17) (by kernel_rfl) rfl (fun K hK => ?_)
      go_simp
      refine (moved_any (base := base) (n' := n') (m' := mt + 1) w2.drew OF.out OT.out HAP.out HNN.out (by omega) rfl (by omega) HBB.out).mono ?_
      rintro e w5 ⟨g5, c5, rfl, o5, t5, b5⟩
      have O5 := Lib.hid o5
      have T5 := Lib.hid t5
      have B5 := Lib.hid b5
      clear o5 t5 b5
      have D5 := Lib.hid (HA3.out.pool.cells.turn T5.out (fun e => (HA3.out.pool.rows.far s.n p (Nat.le_refl _) (by unfold Rw.v; rw [L2.out]; exact e)).1 rfl) (fun e => (HA3.out.pool.rows.far s.n q (Nat.le_refl _) (by unfold Rw.v; rw [L2.out]; exact e)).2 rfl))
      refine hK.out _ _ (past (by kernel_rfl)) (fun _ => D5.out.c2) ?_
      clear hK K
      try simp only [put_laid, List.set_cons_zero, List.set_cons_succ]
      refine stand_take (i := 18) (v := ?_) rfl (by kernel_rfl) (by kernel_rfl) (by kernel_rfl) (by rfl) (fun _ _ _ h => h) (by decide) (by decide) (by rfl) ?_ ?_
      rotate_left
      · (intro w; go_simp; try with_reducible rfl)
      dsimp only [List.set_cons_zero, List.set_cons_succ]
      refine stand_take (i := 19) (v := ?_) rfl (by kernel_rfl) (by kernel_rfl) (by kernel_rfl) (by rfl) (fun _ _ _ h => h) (by decide) (by decide) (by rfl) ?_ ?_
      rotate_left
      · (intro w; go_simp; try with_reducible rfl)
      dsimp only [List.set_cons_zero, List.set_cons_succ]
      refine stand_take (i := 20) (v := ?_) rfl (by kernel_rfl) (by kernel_rfl) (by kernel_rfl) (by rfl) (fun _ _ _ h => h) (by decide) (by decide) (by rfl) ?_ ?_
      rotate_left
      · (intro w; go_simp; try with_reducible rfl)
      dsimp only [List.set_cons_zero, List.set_cons_succ]
      refine stand_take (i := 21) (v := ?_) rfl (by kernel_rfl) (by kernel_rfl) (by kernel_rfl) (by rfl) (fun _ _ _ h => h) (by decide) (by decide) (by rfl) ?_ ?_
      rotate_left
      · (intro w; go_simp; try with_reducible rfl)
      dsimp only [List.set_cons_zero, List.set_cons_succ]
      have dq := D5.out.rc hg
      have fq := D5.out.fq g
      refine stand_step (i := 22) (by kernel_rfl) rfl (fun K hK => ?_)
      go_simp
      refine hK.out _ _ (past (by kernel_rfl)) (past (by kernel_rfl)) ?_
      clear hK K
      try simp only [put_laid, List.set_cons_zero, List.set_cons_succ]
      refine stand_take (i := 23) (v := ?_) rfl (by kernel_rfl) (by kernel_rfl) (by kernel_rfl) (by rfl) (fun _ _ _ h => h) (by decide) (by decide) (by rfl) ?_ ?_
      rotate_left
      · (intro w; go_simp; try with_reducible rfl)
      dsimp only [List.set_cons_zero, List.set_cons_succ]
      refine stand_take (i := 24) (v := ?_) rfl (by kernel_rfl) (by kernel_rfl) (by kernel_rfl) (by rfl) (fun _ _ _ h => h) (by decide) (by decide) (by rfl) ?_ ?_
      rotate_left
      · (intro w; go_simp; try with_reducible rfl)
      dsimp only [List.set_cons_zero, List.set_cons_succ]
      have HT3 := Lib.hid (setCell_turn w5 q g (.slice (some ⟨ga, 0, none⟩) n' (R' g).c))
      have d3 := HT3.out.cell (p := ⟨p, 3, none⟩) hne1 (D5.out.c3)
      have f3 := (HT3.out.frz (p := ⟨p, 3, none⟩) hne1 D5.out.ltp).trans (D5.out.f 3)
      refine stand_step (i := 25) (by kernel_rfl) rfl (fun K hK => ?_)
      go_simp
      refine hK.out _ _ (past (by kernel_rfl)) (past (by kernel_rfl)) ?_
      clear hK K
      try simp only [put_laid, List.set_cons_zero, List.set_cons_succ]
      refine stand_done (by kernel_rfl) ?_
      have HS := Lib.hid ((IsPool.step (w := w2.drew) (w5 := w5) (n' := n') (m' := mt + 1) HA3.out.pool (Nat.le_of_lt hg) (Nat.le_refl _) (by omega) HTm.out (by rw [L1.out, HNN.out]) (by rw [L2.out]) O5.out (by have := T5.out; unfold Rw.v; rw [L2.out]; exact this) (by have := B5.out; unfold Rw.v; rw [L2.out]; exact this)).2 hg rfl)
      rw [HA'.out] at HS
      obtain ⟨R2, h2⟩ := HA3.out.kept HS.out
      have HA4 := Lib.hid h2
      clear h2 HS d3 f3 dq fq HT3
      go_wp2_with fail
      have hgk : gk - 1 < gk := by have := HT.out; have := HTK.out; omega
      have hgk2 : t + 1 + (gk - 1) = K := by have := HT.out; have := HTK.out; omega
      go_roundg (gk - 1)
      case measure => exact hgk
      case rel => exact ⟨t + 1, R2, hgk2, HA4⟩
    · have htK : t = K := by omega
      have HD := Lib.hid (HA.out.done (s' := spilled s g) (by rw [htK, HKK.out]; rfl))
      have hh2 : decide (hf < nm) = false := by
        refine decide_eq_false ?_
        have := HKm.out
        omega
      clear l1 l2 hnm hmt htk hlt htK
      go_wp2_with fail
      go_quiet ((go_at_call 37; exact Calls.quiet_of_same ((half_any _ (HA.out.pool.drewN _) hm16 HF.out).mono fun _ _ ⟨a, b⟩ => ⟨a, b.symm⟩)))
      go_wp2_with fail
      go_end0
      exact ⟨rfl, HD.out.drewN nq⟩

end Go.Proofs.Ytmjenbkhmhpleaa
