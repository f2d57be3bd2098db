/- The walks of refill and spill. -/
import Derived.Test.YtmjenbkhmhpleaaFill
import Derived.Test.YtmjenbkhmhpleaaGTill
namespace Go.Proofs.Ytmjenbkhmhpleaa
open Go.RowKit
set_option linter.unusedVariables false

/-- t things have gone from row i behind row j. -/
structure At (w wr : World) (base p q : Nat) (s : St) (R : Nat → Rw) (i j t : Nat) (R' : Nat → Rw) : Prop where
  pool : IsPool wr base p q { s with M := moveM s.M i j t } R'
  t : Turn (PB p q s.n R) w wr
  b : ∀ k, PB p q s.n R' k → PB p q s.n R k ∨ w.heap.size ≤ k
theorem At.start {w : World} {base p q : Nat} {s : St} {R : Nat → Rw} (i j : Nat) (h : IsPool w base p q s R) : At w w base p q s R i j 0 R :=
  ⟨by rw [move_zero]; exact h, Turn.refl _ _, fun _ => Or.inl⟩
theorem At.kept {w wr w6 : World} {base p q : Nat} {s : St} {R R' : Nat → Rw} {i j t t' : Nat} (h : At w wr base p q s R i j t R') (k : Kept wr w6 base p q s.n R' { s with M := moveM s.M i j t' }) : ∃ R'', At w w6 base p q s R i j t' R'' := by
  obtain ⟨R2, h2, t2, b2⟩ := Kept.and h.t h.b k
  exact ⟨R2, h2, t2, b2⟩
theorem At.drewN {w wr : World} {base p q : Nat} {s : St} {R R' : Nat → Rw} {i j t : Nat} (h : At w wr base p q s R i j t R') (k : Nat) : At w (wr.drewN k) base p q s R i j t R' :=
  ⟨h.pool.drewN k, h.t.drewN k, h.b⟩
theorem At.done {w wr : World} {base p q : Nat} {s s' : St} {R R' : Nat → Rw} {i j t : Nat} (h : At w wr base p q s R i j t R') (e : s' = { s with M := moveM s.M i j t }) : Kept w wr base p q s.n R s' := by
  subst e
  exact ⟨R', h.pool, h.t, h.b⟩

theorem Kept.drewN {w w' : World} {base p q n : Nat} {R : Nat → Rw} {s : St} (h : Kept w w' base p q n R s) (k : Nat) : Kept w (w'.drewN k) base p q n R s := by
  obtain ⟨R2, h2, t2, b2⟩ := h
  exact ⟨R2, h2.drewN k, t2.drewN k, b2⟩
theorem len_i {w : World} {base p q : Nat} {s : St} {R : Nat → Rw} {i j t : Nat} {M : Nat → List Int} (h : IsPool w base p q { s with M := moveM M i j t } R) (hi : i ≤ s.n) (hij : i ≠ j) : (R i).l.length = (M i).length - t := by
  rw [h.m i hi]
  show (moveM M i j t i).length = _
  rw [move_i _ _ hij, shF_length]
theorem len_j {w : World} {base p q : Nat} {s : St} {R : Nat → Rw} {i j t : Nat} {M : Nat → List Int} (h : IsPool w base p q { s with M := moveM M i j t } R) (hj : j ≤ s.n) (ht : t ≤ (M i).length) : (R j).l.length = (M j).length + t := by
  rw [h.m j hj]
  show (moveM M i j t j).length = _
  rw [move_j, shT_length _ _ _ ht]

set_option maxHeartbeats 2000000 in
theorem refill_any {base p q g : Nat} {s : St} {R : Nat → Rw} (w : World) (h : IsPool w base p q s R) (hG : Good s) (hg : g < s.n) (h0 : s.M g = []) :
    Calls Try.prog 33 #[.pointer (some ⟨p, 0, none⟩), .int .i64 g] w fun e w' => e = .returned (.tuple #[]) ∧ Kept w w' base p q s.n R (pulled s g) := by
  have HK := Lib.hid (show pullK s g = min (s.M s.n).length (half1 s.most) by unfold pullK; rw [if_pos h0])
  have hm16 := hG.most.2
  have hn8 := hG.n
  have hm64 := hG.row (Nat.le_refl s.n)
  have H := Lib.hid h
  have H0 := Lib.hid (show (s.M g).length = 0 by rw [h0]; rfl)
  obtain ⟨m, hm⟩ : ∃ m, m = (s.M s.n).length := ⟨_, rfl⟩
  have HM := Lib.hid hm
  obtain ⟨hf, hhf⟩ : ∃ hf, s.most / 2 = hf := ⟨_, rfl⟩
  have HF := Lib.hid hhf
  have hf8 : hf ≤ 8 := by omega
  rw [← hm] at hm64
  obtain ⟨K, hK⟩ : ∃ K, K = pullK s g := ⟨_, rfl⟩
  have HKK := Lib.hid hK
  have hKm : K ≤ m ∧ K ≤ max hf 1 ∧ (K = m ∨ K = max hf 1) := by
    rw [hK, HK.out, ← hm]
    unfold half1
    rw [hhf]
    omega
  have hK1 := hKm.1
  have hK2 := Lib.hid hKm.2
  clear h hG h0 hm hhf hK hKm
  go_enter Try.func33, Try.ntmps33
  go_wp2_with fail
  go_loopg [] K (fun k wr => ∃ (t : Nat) (R' : Nat → Rw), t + k = K ∧ Hid (At w wr base p q s R s.n g t R'))
  case atStart => exact ⟨0, R, by omega, Lib.hid (At.start _ _ H.out)⟩
  case round =>
    obtain ⟨t, R', htk, HA⟩ := hrel
    have c2 := HA.out.pool.cells.c2
    have c3 := HA.out.pool.cells.c3
    have rc := HA.out.pool.cells.rc hg
    have l1 : (R' s.n).l.length = m - t := by rw [len_i HA.out.pool (Nat.le_refl _) (by omega), ← HM.out]
    have l2 : (R' g).l.length = t := by rw [len_j HA.out.pool (Nat.le_of_lt hg) (by rw [← HM.out]; omega), H0.out]; omega
    obtain ⟨nm, hnm⟩ : ∃ nm, nm = m - t := ⟨_, rfl⟩
    rw [l1, ← hnm] at c3
    rw [l2] at rc
    have L1 := Lib.hid (l1.trans hnm.symm)
    have L2 := Lib.hid l2
    have HT := Lib.hid htk
    have hnm64 : nm ≤ 64 := by omega
    have ht64 : t ≤ 64 := by omega
    by_cases hlt : t < K
    · have hm0 : 0 < nm := by omega
      obtain ⟨mx, hmx⟩ : ∃ mx : Nat, (if (hf : Int) < 1 then (1 : Int) else (hf : Int)) = (mx : Int) := by
        by_cases h1 : (hf : Int) < 1
        · exact ⟨1, if_pos h1⟩
        · exact ⟨hf, if_neg h1⟩
      have hh2 : t < mx := by
        have := hK2.out
        by_cases h1 : (hf : Int) < 1
        · rw [if_pos h1] at hmx; omega
        · rw [if_neg h1] at hmx; omega
      have HTK := Lib.hid hlt
      have HTm := Lib.hid (show t < (s.M s.n).length by rw [← HM.out]; omega)
      clear l1 l2 hnm htk hlt
      go_wp2_with fail
      go_quiet ((go_at_call 37; exact Calls.quiet_of_same ((half_any _ (HA.out.pool.drewN _) hm16 HF.out).mono fun _ _ ⟨a, b⟩ => ⟨a, b.symm⟩)))
      go_wp2_with fail
      clear hmx hh2 c2 c3 rc
      have HA2 := Lib.hid (HA.out.drewN nq)
      clear HA
      generalize wr.drewN nq = w2 at HA2 ⊢
      have HA3 := Lib.hid (show At w w2.drew base p q s R s.n g t R' from HA2.out.drewN 1)
      obtain ⟨n', hn'⟩ : ∃ n', nm = n' + 1 := ⟨nm - 1, by omega⟩
      obtain ⟨ga, c', he, hg1, _⟩ := own_form (HA3.out.pool.rows.own s.n (Nat.le_refl _)) (by rw [L1.out]; exact hm0)
      have ha : (R' s.n).a = some ⟨ga, 0, none⟩ := by cases hh : R' s.n with | mk a c l => rw [hh] at he; cases he; rfl
      have c2 := HA2.out.pool.cells.c2
      have c3 := HA2.out.pool.cells.c3
      have rc := HA2.out.pool.cells.rc hg
      rw [L1.out, ha] at c3
      rw [L2.out] at rc
      have OF := Lib.hid (HA3.out.pool.rows.own s.n (Nat.le_refl _))
      unfold Rw.own Rw.v at OF
      rw [L1.out, ha] at OF
      have OT := Lib.hid (HA3.out.pool.rows.own g (Nat.le_of_lt hg))
      unfold Rw.own Rw.v at OT
      rw [L2.out] at OT
      have HAP := Lib.hid (show (Value.slice (R' g).a t (R' g).c).ownBlock ≠ some ga from fun e => HA3.out.pool.rows.apart g s.n ga (Nat.le_of_lt hg) (Nat.le_refl _) (by omega) (by unfold Rw.v; rw [L2.out]; exact e) (by unfold Rw.v; rw [own_block, ha]; rfl))
      have HNN := Lib.hid hn'
      have HBB := Lib.hid (show base ≤ w2.drew.heap.size from Nat.le_trans HA3.out.pool.bp (Nat.le_of_lt HA3.out.pool.cells.ltp))
      have hne1 : ¬ p = q := HA2.out.pool.ne
      have hne2 : ¬ q = p := fun e => hne1 e.symm
      have HA' := Lib.hid ha
      clear hn' he hg1 ha
      have G3 := Lib.hid (And.intro c3 rc)
      refine stand_start (by kernel_rfl) 17 (fun w' => w'.cell? ⟨p, 3, none⟩ = some (.slice (some ⟨ga, 0, none⟩) nm (R' s.n).c) ∧ w'.cell? ⟨q, g, none⟩ = some (.slice (R' g).a t (R' g).c)) 23 (fun w' => w'.cell? ⟨p, 2, none⟩ = some (.slice (some ⟨q, 0, none⟩) s.n s.n)) ⟨G3.out.1, G3.out.2⟩ c2 ?_
      clear c2 c3 rc
      refine stand_take (i := 0) (v := ?_) rfl (by kernel_rfl) (by kernel_rfl) (by kernel_rfl) (by rfl) (fun _ _ _ h => h) (by decide) (by decide) (by rfl) ?_ ?_
      rotate_left
      · (intro w; go_simp; try with_reducible rfl)
      dsimp only [List.set_cons_zero, List.set_cons_succ]
      refine stand_take (i := 1) (v := ?_) rfl (by kernel_rfl) (by kernel_rfl) (by kernel_rfl) (by rfl) (fun _ _ _ h => h) (by decide) (by decide) (by rfl) ?_ ?_
      rotate_left
      · (intro w; go_simp; try with_reducible rfl)
      dsimp only [List.set_cons_zero, List.set_cons_succ]
      refine stand_take (i := 2) (v := ?_) rfl (by kernel_rfl) (by kernel_rfl) (by kernel_rfl) (by rfl) (fun _ _ _ h => h) (by decide) (by decide) (by rfl) ?_ ?_
      rotate_left
      · (intro w; go_simp; try with_reducible rfl)
      dsimp only [List.set_cons_zero, List.set_cons_succ]
      refine stand_take (i := 3) (v := ?_) rfl (by kernel_rfl) (by kernel_rfl) (by kernel_rfl) (by rfl) (fun _ _ _ h => h) (by decide) (by decide) (by rfl) ?_ ?_
      rotate_left
      · (intro w; go_simp; try with_reducible rfl)
      dsimp only [List.set_cons_zero, List.set_cons_succ]
      refine stand_load2 (i := 4) (v := ?_) rfl (by kernel_rfl) (by kernel_rfl) (by kernel_rfl) (by rfl) (fun _ _ _ h => h) (by decide) (by decide) (by kernel_rfl) (by rfl) ?_ ?_
      rotate_left
      · (intro w hA; (try dsimp only at hA); go_simp; try with_reducible rfl)
      dsimp only [List.set_cons_zero, List.set_cons_succ]
      refine stand_take (i := 5) (v := ?_) rfl (by kernel_rfl) (by kernel_rfl) (by kernel_rfl) (by rfl) (fun _ _ _ h => h) (by decide) (by decide) (by rfl) ?_ ?_
      rotate_left
      · (intro w; go_simp; try with_reducible rfl)
      dsimp only [List.set_cons_zero, List.set_cons_succ]
      refine stand_take (i := 6) (v := ?_) rfl (by kernel_rfl) (by kernel_rfl) (by kernel_rfl) (by rfl) (fun _ _ _ h => h) (by decide) (by decide) (by rfl) ?_ ?_
      rotate_left
      · (intro w; go_simp; try with_reducible rfl)
      dsimp only [List.set_cons_zero, List.set_cons_succ]
      refine stand_take (i := 7) (v := ?_) rfl (by kernel_rfl) (by kernel_rfl) (by kernel_rfl) (by rfl) (fun _ _ _ h => h) (by decide) (by decide) (by rfl) ?_ ?_
      rotate_left
      · (intro w; go_simp; try with_reducible rfl)
      dsimp only [List.set_cons_zero, List.set_cons_succ]
      refine stand_take (i := 8) (v := ?_) rfl (by kernel_rfl) (by kernel_rfl) (by kernel_rfl) (by rfl) (fun _ _ _ h => h) (by decide) (by decide) (by rfl) ?_ ?_
      rotate_left
      · (intro w; go_simp; try with_reducible rfl)
      dsimp only [List.set_cons_zero, List.set_cons_succ]
      refine stand_load1 (i := 9) (v := ?_) rfl (by kernel_rfl) (by kernel_rfl) (by kernel_rfl) (by rfl) (fun _ _ _ h => h) (by decide) (by decide) (by kernel_rfl) (by rfl) ?_ ?_
      rotate_left
      · (intro w hA; (try dsimp only at hA); go_simp; try with_reducible rfl)
      dsimp only [List.set_cons_zero, List.set_cons_succ]
      refine stand_take (i := 10) (v := ?_) rfl (by kernel_rfl) (by kernel_rfl) (by kernel_rfl) (by rfl) (fun _ _ _ h => h) (by decide) (by decide) (by rfl) ?_ ?_
      rotate_left
      · (intro w; go_simp; try with_reducible rfl)
      dsimp only [List.set_cons_zero, List.set_cons_succ]
      refine stand_take (i := 11) (v := ?_) rfl (by kernel_rfl) (by kernel_rfl) (by kernel_rfl) (by rfl) (fun _ _ _ h => h) (by decide) (by decide) (by rfl) ?_ ?_
      rotate_left
      · (intro w; go_simp; try with_reducible rfl)
      dsimp only [List.set_cons_zero, List.set_cons_succ]
      refine stand_take (i := 12) (v := ?_) rfl (by kernel_rfl) (by kernel_rfl) (by kernel_rfl) (by rfl) (fun _ _ _ h => h) (by decide) (by decide) (by rfl) ?_ ?_
      rotate_left
      · (intro w; go_simp; try with_reducible rfl)
      dsimp only [List.set_cons_zero, List.set_cons_succ]
      refine stand_load2 (i := 13) (v := ?_) rfl (by kernel_rfl) (by kernel_rfl) (by kernel_rfl) (by rfl) (fun _ _ _ h => h) (by decide) (by decide) (by kernel_rfl) (by rfl) ?_ ?_
      rotate_left
      · (intro w hA; (try dsimp only at hA); go_simp; try with_reducible rfl)
      dsimp only [List.set_cons_zero, List.set_cons_succ]
      refine stand_take (i := 14) (v := ?_) rfl (by kernel_rfl) (by kernel_rfl) (by kernel_rfl) (by rfl) (fun _ _ _ h => h) (by decide) (by decide) (by rfl) ?_ ?_
      rotate_left
      · (intro w; go_simp; try with_reducible rfl)
      dsimp only [List.set_cons_zero, List.set_cons_succ]
      refine stand_take (i := 15) (v := ?_) rfl (by kernel_rfl) (by kernel_rfl) (by kernel_rfl) (by rfl) (fun _ _ _ h => h) (by decide) (by decide) (by rfl) ?_ ?_
      rotate_left
      · (intro w; go_simp; try with_reducible rfl)
      dsimp only [List.set_cons_zero, List.set_cons_succ]
      refine stand_load1 (i := 16) (v := ?_) rfl (by kernel_rfl) (by kernel_rfl) (by kernel_rfl) (by rfl) (fun _ _ _ h => h) (by decide) (by decide) (by kernel_rfl) (by rfl) ?_ ?_
      rotate_left
      · (intro w hA; (try dsimp only at hA); go_simp; try with_reducible rfl)
      dsimp only [List.set_cons_zero, List.set_cons_succ]
      refine stand_step (i := 17) (by kernel_rfl) rfl (fun K hK => ?_)
      go_simp
      refine (moved_any (base := base) (n' := n') (m' := t + 1) w2.drew OF.out OT.out HAP.out HNN.out (by omega) rfl (by omega) HBB.out).mono ?_
      rintro e w5 ⟨g5, c5, rfl, o5, t5, b5⟩
      have O5 := Lib.hid o5
      have T5 := Lib.hid t5
      have B5 := Lib.hid b5
      clear o5 t5 b5
      have D5 := Lib.hid (HA3.out.pool.cells.turn T5.out (fun e => (HA3.out.pool.rows.far g p (Nat.le_of_lt hg) (by unfold Rw.v; rw [L2.out]; exact e)).1 rfl) (fun e => (HA3.out.pool.rows.far g q (Nat.le_of_lt hg) (by unfold Rw.v; rw [L2.out]; exact e)).2 rfl))
      refine hK.out _ _ (past (by kernel_rfl)) (fun _ => D5.out.c2) ?_
      clear hK K
      try simp only [put_laid, List.set_cons_zero, List.set_cons_succ]
      refine stand_take (i := 18) (v := ?_) rfl (by kernel_rfl) (by kernel_rfl) (by kernel_rfl) (by rfl) (fun _ _ _ h => h) (by decide) (by decide) (by rfl) ?_ ?_
      rotate_left
      · (intro w; go_simp; try with_reducible rfl)
      dsimp only [List.set_cons_zero, List.set_cons_succ]
      refine stand_take (i := 19) (v := ?_) rfl (by kernel_rfl) (by kernel_rfl) (by kernel_rfl) (by rfl) (fun _ _ _ h => h) (by decide) (by decide) (by rfl) ?_ ?_
      rotate_left
      · (intro w; go_simp; try with_reducible rfl)
      dsimp only [List.set_cons_zero, List.set_cons_succ]
      refine stand_take (i := 20) (v := ?_) rfl (by kernel_rfl) (by kernel_rfl) (by kernel_rfl) (by rfl) (fun _ _ _ h => h) (by decide) (by decide) (by rfl) ?_ ?_
      rotate_left
      · (intro w; go_simp; try with_reducible rfl)
      dsimp only [List.set_cons_zero, List.set_cons_succ]
      refine stand_take (i := 21) (v := ?_) rfl (by kernel_rfl) (by kernel_rfl) (by kernel_rfl) (by rfl) (fun _ _ _ h => h) (by decide) (by decide) (by rfl) ?_ ?_
      rotate_left
      · (intro w; go_simp; try with_reducible rfl)
      dsimp only [List.set_cons_zero, List.set_cons_succ]
      refine stand_take (i := 22) (v := ?_) rfl (by kernel_rfl) (by kernel_rfl) (by kernel_rfl) (by rfl) (fun _ _ _ h => h) (by decide) (by decide) (by rfl) ?_ ?_
      rotate_left
      · (intro w; go_simp; try with_reducible rfl)
      dsimp only [List.set_cons_zero, List.set_cons_succ]
      have d3 := D5.out.c3
      have f3 := D5.out.f 3
      refine stand_step (i := 23) (by kernel_rfl) rfl (fun K hK => ?_)
      go_simp
      refine hK.out _ _ (past (by kernel_rfl)) (past (by kernel_rfl)) ?_
      clear hK K
      try simp only [put_laid, List.set_cons_zero, List.set_cons_succ]
      refine stand_take (i := 24) (v := ?_) rfl (by kernel_rfl) (by kernel_rfl) (by kernel_rfl) (by rfl) (fun _ _ _ h => h) (by decide) (by decide) (by rfl) ?_ ?_
      rotate_left
      · (intro w; go_simp; try with_reducible rfl)
      dsimp only [List.set_cons_zero, List.set_cons_succ]
      have HT3 := Lib.hid (setCell_turn w5 p 3 (.slice (some ⟨ga, 0, none⟩) n' (R' s.n).c))
      have dq := HT3.out.cell (p := ⟨q, g, none⟩) hne2 (D5.out.rc hg)
      have fq := (HT3.out.frz (p := ⟨q, g, none⟩) hne2 D5.out.ltq).trans (D5.out.fq g)
      refine stand_step (i := 25) (by kernel_rfl) rfl (fun K hK => ?_)
      go_simp
      refine hK.out _ _ (past (by kernel_rfl)) (past (by kernel_rfl)) ?_
      clear hK K
      try simp only [put_laid, List.set_cons_zero, List.set_cons_succ]
      refine stand_done (by kernel_rfl) ?_
      have HS := Lib.hid ((IsPool.step (w := w2.drew) (w5 := w5) (n' := n') (m' := t + 1) HA3.out.pool (Nat.le_refl _) (Nat.le_of_lt hg) (by omega) HTm.out (by rw [L1.out, HNN.out]) (by rw [L2.out]) O5.out (by have := T5.out; unfold Rw.v; rw [L2.out]; exact this) (by have := B5.out; unfold Rw.v; rw [L2.out]; exact this)).1 hg rfl)
      rw [HA'.out] at HS
      obtain ⟨R2, h2⟩ := HA3.out.kept HS.out
      have HA4 := Lib.hid h2
      clear h2 HS d3 f3 dq fq HT3
      go_wp2_with fail
      have hgk : gk - 1 < gk := by have := HT.out; have := HTK.out; omega
      have hgk2 : t + 1 + (gk - 1) = K := by have := HT.out; have := HTK.out; omega
      go_roundg (gk - 1)
      case measure => exact hgk
      case rel => exact ⟨t + 1, R2, hgk2, HA4⟩
    · have htK : t = K := by omega
      have HD := Lib.hid (HA.out.done (s' := pulled s g) (by rw [htK, HKK.out]; rfl))
      obtain ⟨mx, hmx⟩ : ∃ mx : Nat, (if (hf : Int) < 1 then (1 : Int) else (hf : Int)) = (mx : Int) := by
        by_cases h1 : (hf : Int) < 1
        · exact ⟨1, if_pos h1⟩
        · exact ⟨hf, if_neg h1⟩
      by_cases hz : 0 < nm
      · have hh2 : decide (t < mx) = false := by
          refine decide_eq_false ?_
          have := hK2.out
          by_cases h1 : (hf : Int) < 1
          · rw [if_pos h1] at hmx; omega
          · rw [if_neg h1] at hmx; omega
        clear l1 l2 hnm htk hlt htK
        go_wp2_with fail
        go_quiet ((go_at_call 37; exact Calls.quiet_of_same ((half_any _ (HA.out.pool.drewN _) hm16 HF.out).mono fun _ _ ⟨a, b⟩ => ⟨a, b.symm⟩)))
        go_wp2_with fail
        go_end0
        exact ⟨rfl, HD.out.drewN nq⟩
      · have hz2 : decide (0 < nm) = false := decide_eq_false hz
        clear l1 l2 hnm htk hlt htK hmx
        go_wp2_with fail
        go_quiet (fail)
        go_wp2_with fail
        go_end0
        exact ⟨rfl, HD.out.drewN nq⟩

end Go.Proofs.Ytmjenbkhmhpleaa
