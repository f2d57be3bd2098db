/- Give. -/
import Derived.Test.YtmjenbkhmhpleaaTake
namespace Go.Proofs.Ytmjenbkhmhpleaa
open Go.RowKit
set_option linter.unusedVariables false

theorem live_yes {base p q : Nat} {s : St} {R : Nat → Rw} {x : Int} (w : World) (h : IsPool w base p q s R) (hG : Good s) (hx : liveB s x = true) :
    Calls Try.prog 20 #[.pointer (some ⟨p, 0, none⟩), .int .i64 x] w fun e w' => e = .returned (.bool true) ∧ w = w' := by
  have := live_any x w h hG
  rwa [hx] at this
theorem live_no {base p q : Nat} {s : St} {R : Nat → Rw} {x : Int} (w : World) (h : IsPool w base p q s R) (hG : Good s) (hx : liveB s x = false) :
    Calls Try.prog 20 #[.pointer (some ⟨p, 0, none⟩), .int .i64 x] w fun e w' => e = .returned (.bool false) ∧ w = w' := by
  have := live_any x w h hG
  rwa [hx] at this

def GivePost (base p q n : Nat) (R : Nat → Rw) (b : Bool) (s' : St) (w : World) (e : Ending) (w' : World) : Prop := e = .returned (.bool b) ∧ Kept w w' base p q n R s'

theorem give_far {base p q : Nat} {s : St} {R : Nat → Rw} {g x : Int} (w : World) (h : IsPool w base p q s R) (hg : g < 0 ∨ (s.n : Int) ≤ g) :
    Calls Try.prog 19 #[.pointer (some ⟨p, 0, none⟩), .int .i64 g, .int .i64 x] w (GivePost base p q s.n R false s w) := by
  have H := Lib.hid h
  have HG := Lib.hid hg
  clear h hg
  go_enter Try.func19, Try.ntmps19
  go_wp2_with fail
  refine (taker_no w H.out HG.out).mono ?_
  rintro e w1 ⟨rfl, rfl⟩
  go_wp2_with fail
  go_ret
  exact ⟨rfl, Kept.refl H.out 0⟩
theorem give_dead {base p q g : Nat} {s : St} {R : Nat → Rw} {x : Int} (w : World) (h : IsPool w base p q s R) (hG : Good s) (hg : g < s.n) (hx : liveB s x = false) :
    Calls Try.prog 19 #[.pointer (some ⟨p, 0, none⟩), .int .i64 g, .int .i64 x] w (GivePost base p q s.n R false s w) := by
  have H := Lib.hid h
  have HG := Lib.hid hG
  have HX := Lib.hid hx
  clear h hG hx
  go_enter Try.func19, Try.ntmps19
  go_wp2_with fail
  refine (taker_yes w H.out hg).mono ?_
  rintro e w1 ⟨rfl, rfl⟩
  go_wp2_with fail
  refine (live_no w H.out HG.out HX.out).mono ?_
  rintro e w1 ⟨rfl, rfl⟩
  go_wp2_with fail
  go_ret
  exact ⟨rfl, Kept.refl H.out 0⟩

set_option maxHeartbeats 2000000 in
theorem give_yes {base p q g : Nat} {s : St} {R : Nat → Rw} {x : Int} (w : World) (h : IsPool w base p q s R) (hG : Good s) (hg : g < s.n) (hx : liveB s x = true) :
    Calls Try.prog 19 #[.pointer (some ⟨p, 0, none⟩), .int .i64 g, .int .i64 x] w (GivePost base p q s.n R true (giveN s g x) w) := by
  have H := Lib.hid h
  have HG := Lib.hid hG
  have HX := Lib.hid hx
  have hn8 := hG.n
  have hm16 := hG.most.2
  have hsp := spilled_row hG hg
  have l16 : ((spilled s g).M g).length ≤ 16 := by omega
  have HL := Lib.hid l16
  have c1 := h.cells.c1
  have c2 := h.cells.c2
  have rc := h.cells.rc hg
  rw [h.m g (Nat.le_of_lt hg)] at rc
  clear h hG hx l16 hsp
  go_enter Try.func19, Try.ntmps19
  go_wp2_with fail
  refine (taker_yes w H.out hg).mono ?_
  rintro e w1 ⟨rfl, rfl⟩
  go_wp2_with fail
  refine (live_yes w H.out HG.out HX.out).mono ?_
  rintro e w1 ⟨rfl, rfl⟩
  by_cases he : (s.M g).length = s.most
  · have HE := Lib.hid he
    have h0 : (((s.M g).length : Int) == (s.most : Int)) = true := by rw [beq_iff_eq]; omega
    have h1 : ((s.M g).length == s.most) = true := by rw [beq_iff_eq]; exact he
    clear he
    go_wp2_with fail
    go_quiet (fail)
    go_upto_if 29 with fail
    go_cut [] (fun wx => ∃ R1 : Nat → Rw, Hid (Way w wx base p q s.n R (spilled s g) R1))
    case first =>
      go_wp2_with fail
      refine (spill_any _ (H.out.drewN nq) HG.out hg HE.out).mono ?_
      rintro e w1 ⟨rfl, k1⟩
      have K1 := Lib.hid ((Way.start H.out).drewN nq |>.kept k1)
      clear k1
      go_wp2_with fail
      go_meet
      obtain ⟨R1, h1⟩ := K1.out.way
      exact ⟨R1, h1⟩
    case rest =>
      clear h0 h1 c1 c2 rc
      obtain ⟨R1, hw⟩ := hcut
      have HW := Lib.hid hw.out
      clear hw
      have c2 : wc.cell? ⟨p, 2, none⟩ = some (.slice (some ⟨q, 0, none⟩) s.n s.n) := HW.out.pool.cells.c2
      have rc := HW.out.pool.cells.rc hg
      have hM : (R1 g).l = (spilled s g).M g := HW.out.pool.m g (Nat.le_of_lt hg)
      obtain ⟨nm, hnm⟩ : ∃ nm, nm = (R1 g).l.length := ⟨_, rfl⟩
      have hnm16 : nm ≤ 16 := by rw [hnm, hM]; exact HL.out
      rw [← hnm] at rc
      have HN := Lib.hid hnm
      have HM := Lib.hid hM
      have HO := Lib.hid (HW.out.pool.rows.own g (Nat.le_of_lt hg))
      unfold Rw.own Rw.v at HO
      rw [← hnm] at HO
      have HB := Lib.hid (Nat.le_trans HW.out.pool.bp (Nat.le_of_lt HW.out.pool.cells.ltp))
      clear hnm hM
      go_wp2_with fail
      have HT0 := Lib.hid (((Turn.refl (fun _ => False) wc).alloc (.cells #[.int .i64 x] 3)).drew)
      have G3 := Lib.hid (And.intro rc c2)
      refine stand_start (by kernel_rfl) 14 (fun w' => w'.cell? ⟨q, g, none⟩ = some (.slice (R1 g).a nm (R1 g).c)) 16 (fun w' => w'.cell? ⟨p, 2, none⟩ = some (.slice (some ⟨q, 0, none⟩) s.n s.n)) G3.out.1 G3.out.2 ?_
      clear c2 rc
      refine stand_take (i := 0) (v := ?_) rfl (by kernel_rfl) (by kernel_rfl) (by kernel_rfl) (by rfl) (fun _ _ _ h => h) (by decide) (by decide) (by rfl) ?_ ?_
      rotate_left
      · (intro w; go_simp; try with_reducible rfl)
      dsimp only [List.set_cons_zero, List.set_cons_succ]
      refine stand_take (i := 1) (v := ?_) rfl (by kernel_rfl) (by kernel_rfl) (by kernel_rfl) (by rfl) (fun _ _ _ h => h) (by decide) (by decide) (by rfl) ?_ ?_
      rotate_left
      · (intro w; go_simp; try with_reducible rfl)
      dsimp only [List.set_cons_zero, List.set_cons_succ]
      refine stand_take (i := 2) (v := ?_) rfl (by kernel_rfl) (by kernel_rfl) (by kernel_rfl) (by rfl) (fun _ _ _ h => h) (by decide) (by decide) (by rfl) ?_ ?_
      rotate_left
      · (intro w; go_simp; try with_reducible rfl)
      dsimp only [List.set_cons_zero, List.set_cons_succ]
      refine stand_load2 (i := 3) (v := ?_) rfl (by kernel_rfl) (by kernel_rfl) (by kernel_rfl) (by rfl) (fun _ _ _ h => h) (by decide) (by decide) (by kernel_rfl) (by rfl) ?_ ?_
      rotate_left
      · (intro w hA; (try dsimp only at hA); go_simp; try with_reducible rfl)
      dsimp only [List.set_cons_zero, List.set_cons_succ]
      refine stand_take (i := 4) (v := ?_) rfl (by kernel_rfl) (by kernel_rfl) (by kernel_rfl) (by rfl) (fun _ _ _ h => h) (by decide) (by decide) (by rfl) ?_ ?_
      rotate_left
      · (intro w; go_simp; try with_reducible rfl)
      dsimp only [List.set_cons_zero, List.set_cons_succ]
      refine stand_take (i := 5) (v := ?_) rfl (by kernel_rfl) (by kernel_rfl) (by kernel_rfl) (by rfl) (fun _ _ _ h => h) (by decide) (by decide) (by rfl) ?_ ?_
      rotate_left
      · (intro w; go_simp; try with_reducible rfl)
      dsimp only [List.set_cons_zero, List.set_cons_succ]
      refine stand_take (i := 6) (v := ?_) rfl (by kernel_rfl) (by kernel_rfl) (by kernel_rfl) (by rfl) (fun _ _ _ h => h) (by decide) (by decide) (by rfl) ?_ ?_
      rotate_left
      · (intro w; go_simp; try with_reducible rfl)
      dsimp only [List.set_cons_zero, List.set_cons_succ]
      refine stand_take (i := 7) (v := ?_) rfl (by kernel_rfl) (by kernel_rfl) (by kernel_rfl) (by rfl) (fun _ _ _ h => h) (by decide) (by decide) (by rfl) ?_ ?_
      rotate_left
      · (intro w; go_simp; try with_reducible rfl)
      dsimp only [List.set_cons_zero, List.set_cons_succ]
      refine stand_load2 (i := 8) (v := ?_) rfl (by kernel_rfl) (by kernel_rfl) (by kernel_rfl) (by rfl) (fun _ _ _ h => h) (by decide) (by decide) (by kernel_rfl) (by rfl) ?_ ?_
      rotate_left
      · (intro w hA; (try dsimp only at hA); go_simp; try with_reducible rfl)
      dsimp only [List.set_cons_zero, List.set_cons_succ]
      refine stand_take (i := 9) (v := ?_) rfl (by kernel_rfl) (by kernel_rfl) (by kernel_rfl) (by rfl) (fun _ _ _ h => h) (by decide) (by decide) (by rfl) ?_ ?_
      rotate_left
      · (intro w; go_simp; try with_reducible rfl)
      dsimp only [List.set_cons_zero, List.set_cons_succ]
      refine stand_take (i := 10) (v := ?_) rfl (by kernel_rfl) (by kernel_rfl) (by kernel_rfl) (by rfl) (fun _ _ _ h => h) (by decide) (by decide) (by rfl) ?_ ?_
      rotate_left
      · (intro w; go_simp; try with_reducible rfl)
      dsimp only [List.set_cons_zero, List.set_cons_succ]
      refine stand_load1 (i := 11) (v := ?_) rfl (by kernel_rfl) (by kernel_rfl) (by kernel_rfl) (by rfl) (fun _ _ _ h => h) (by decide) (by decide) (by kernel_rfl) (by rfl) ?_ ?_
      rotate_left
      · (intro w hA; (try dsimp only at hA); go_simp; try with_reducible rfl)
      dsimp only [List.set_cons_zero, List.set_cons_succ]
      refine stand_take (i := 12) (v := ?_) rfl (by kernel_rfl) (by kernel_rfl) (by kernel_rfl) (by rfl) (fun _ _ _ h => h) (by decide) (by decide) (by rfl) ?_ ?_
      rotate_left
      · (intro w; go_simp; try with_reducible rfl)
      dsimp only [List.set_cons_zero, List.set_cons_succ]
      refine stand_step (i := 13) (by kernel_rfl) rfl (fun K hK => ?_)
      go_simp
      refine hK.out _ _ (fun _ => HT0.out.cell (p := ⟨q, g, none⟩) id G3.out.1) (fun _ => HT0.out.cell (p := ⟨p, 2, none⟩) id G3.out.2) ?_
      clear hK K
      try simp only [put_laid, List.set_cons_zero, List.set_cons_succ]
      refine stand_step (i := 14) (by kernel_rfl) rfl (fun K hK => ?_)
      refine step_append_one Try.underlying23 info_int (by decide) (by rfl) (.tmp 44) (.tmp 46) (by rfl) base (.slice (R1 g).a nm (R1 g).c) (R1 g).l nm (by rfl) (HO.out.alloc _) wc.heap.size x (by rfl) (heap_alloc_new wc _) (by omega) (by have := HB.out; simp; omega) ?_
      intro g3 c3 w3 hg3 H3 T3 B3
      have T4 := Lib.hid ((((Turn.refl (fun i => (Value.slice (R1 g).a nm (R1 g).c).ownBlock = some i) wc).alloc (.cells #[.int .i64 x] 3)).drew).trans T3.out)
      have BK := Lib.hid (show ∀ k, (R1 g).v.ownBlock = some k → (Value.slice (R1 g).a nm (R1 g).c).ownBlock = some k from fun k hk => by unfold Rw.v at hk; rw [← HN.out] at hk; exact hk)
      have BK2 := Lib.hid (show ∀ k, (Value.slice (R1 g).a nm (R1 g).c).ownBlock = some k → (R1 g).v.ownBlock = some k from fun k hk => by unfold Rw.v; rw [← HN.out]; exact hk)
      have C4 := Lib.hid (HW.out.pool.cells.turn T4.out (fun e => (HW.out.pool.rows.far g p (Nat.le_of_lt hg) (BK2.out p e)).1 rfl) (fun e => (HW.out.pool.rows.far g q (Nat.le_of_lt hg) (BK2.out q e)).2 rfl))
      refine hK.out _ _ (past (by kernel_rfl)) (fun _ => C4.out.c2) ?_
      clear hK K
      try simp only [put_laid, List.set_cons_zero, List.set_cons_succ]
      refine stand_take (i := 15) (v := ?_) rfl (by kernel_rfl) (by kernel_rfl) (by kernel_rfl) (by rfl) (fun _ _ _ h => h) (by decide) (by decide) (by rfl) ?_ ?_
      rotate_left
      · (intro w; go_simp; try with_reducible rfl)
      dsimp only [List.set_cons_zero, List.set_cons_succ]
      have dq := C4.out.rc hg
      have fq := C4.out.fq g
      refine stand_step (i := 16) (by kernel_rfl) rfl (fun K hK => ?_)
      go_simp
      refine hK.out _ _ (past (by kernel_rfl)) (past (by kernel_rfl)) ?_
      clear hK K
      try simp only [put_laid, List.set_cons_zero, List.set_cons_succ]
      refine stand_done (by kernel_rfl) ?_
      clear dq fq
      go_wp2_with fail
      go_ret
      have hlen : ((R1 g).l ++ [x]).length = nm + 1 := by rw [List.length_append, ← HN.out]; rfl
      have k := HW.out.kept (HW.out.pool.putq hg (r := ⟨some ⟨g3, 0, none⟩, c3, (R1 g).l ++ [x]⟩) (w5 := w3) (by unfold Rw.own Rw.v; rw [hlen]; exact H3.out) (T4.out.mono (fun i _ e => BK2.out i e)) (fun k hk => by
        have hk' : g3 = k := by unfold Rw.v at hk; rw [own_block] at hk; exact Option.some.inj hk
        subst hk'
        rcases B3.out with e | e
        · exact Or.inl (BK2.out _ e)
        · right; simp at e; omega))
      unfold Rw.v at k
      rw [hlen] at k
      rw [HM.out] at k
      exact ⟨rfl, k⟩
  · have HE := Lib.hid (spilled_none he)
    have h0 : (((s.M g).length : Int) == (s.most : Int)) = false := by rw [beq_eq_false_iff_ne]; omega
    have h1 : ((s.M g).length == s.most) = false := by rw [beq_eq_false_iff_ne]; exact he
    clear he
    go_wp2_with fail
    go_quiet (fail)
    go_upto_if 29 with fail
    go_cut [] (fun wx => ∃ R1 : Nat → Rw, Hid (Way w wx base p q s.n R (spilled s g) R1))
    case first =>
      go_wp2_with fail
      go_meet
      refine ⟨R, ?_⟩
      rw [HE.out]
      exact (Way.start H.out).drewN nq
    case rest =>
      clear h0 h1 c1 c2 rc
      obtain ⟨R1, hw⟩ := hcut
      have HW := Lib.hid hw.out
      clear hw
      have c2 : wc.cell? ⟨p, 2, none⟩ = some (.slice (some ⟨q, 0, none⟩) s.n s.n) := HW.out.pool.cells.c2
      have rc := HW.out.pool.cells.rc hg
      have hM : (R1 g).l = (spilled s g).M g := HW.out.pool.m g (Nat.le_of_lt hg)
      obtain ⟨nm, hnm⟩ : ∃ nm, nm = (R1 g).l.length := ⟨_, rfl⟩
      have hnm16 : nm ≤ 16 := by rw [hnm, hM]; exact HL.out
      rw [← hnm] at rc
      have HN := Lib.hid hnm
      have HM := Lib.hid hM
      have HO := Lib.hid (HW.out.pool.rows.own g (Nat.le_of_lt hg))
      unfold Rw.own Rw.v at HO
      rw [← hnm] at HO
      have HB := Lib.hid (Nat.le_trans HW.out.pool.bp (Nat.le_of_lt HW.out.pool.cells.ltp))
      clear hnm hM
      go_wp2_with fail
      have HT0 := Lib.hid (((Turn.refl (fun _ => False) wc).alloc (.cells #[.int .i64 x] 3)).drew)
      have G3 := Lib.hid (And.intro rc c2)
      refine stand_start (by kernel_rfl) 14 (fun w' => w'.cell? ⟨q, g, none⟩ = some (.slice (R1 g).a nm (R1 g).c)) 16 (fun w' => w'.cell? ⟨p, 2, none⟩ = some (.slice (some ⟨q, 0, none⟩) s.n s.n)) G3.out.1 G3.out.2 ?_
      clear c2 rc
      refine stand_take (i := 0) (v := ?_) rfl (by kernel_rfl) (by kernel_rfl) (by kernel_rfl) (by rfl) (fun _ _ _ h => h) (by decide) (by decide) (by rfl) ?_ ?_
      rotate_left
      · (intro w; go_simp; try with_reducible rfl)
      dsimp only [List.set_cons_zero, List.set_cons_succ]
      refine stand_take (i := 1) (v := ?_) rfl (by kernel_rfl) (by kernel_rfl) (by kernel_rfl) (by rfl) (fun _ _ _ h => h) (by decide) (by decide) (by rfl) ?_ ?_
      rotate_left
      · (intro w; go_simp; try with_reducible rfl)
      dsimp only [List.set_cons_zero, List.set_cons_succ]
      refine stand_take (i := 2) (v := ?_) rfl (by kernel_rfl) (by kernel_rfl) (by kernel_rfl) (by rfl) (fun _ _ _ h => h) (by decide) (by decide) (by rfl) ?_ ?_
      rotate_left
      · (intro w; go_simp; try with_reducible rfl)
      dsimp only [List.set_cons_zero, List.set_cons_succ]
      refine stand_load2 (i := 3) (v := ?_) rfl (by kernel_rfl) (by kernel_rfl) (by kernel_rfl) (by rfl) (fun _ _ _ h => h) (by decide) (by decide) (by kernel_rfl) (by rfl) ?_ ?_
      rotate_left
      · (intro w hA; (try dsimp only at hA); go_simp; try with_reducible rfl)
      dsimp only [List.set_cons_zero, List.set_cons_succ]
      refine stand_take (i := 4) (v := ?_) rfl (by kernel_rfl) (by kernel_rfl) (by kernel_rfl) (by rfl) (fun _ _ _ h => h) (by decide) (by decide) (by rfl) ?_ ?_
      rotate_left
      · (intro w; go_simp; try with_reducible rfl)
      dsimp only [List.set_cons_zero, List.set_cons_succ]
      refine stand_take (i := 5) (v := ?_) rfl (by kernel_rfl) (by kernel_rfl) (by kernel_rfl) (by rfl) (fun _ _ _ h => h) (by decide) (by decide) (by rfl) ?_ ?_
      rotate_left
      · (intro w; go_simp; try with_reducible rfl)
      dsimp only [List.set_cons_zero, List.set_cons_succ]
      refine stand_take (i := 6) (v := ?_) rfl (by kernel_rfl) (by kernel_rfl) (by kernel_rfl) (by rfl) (fun _ _ _ h => h) (by decide) (by decide) (by rfl) ?_ ?_
      rotate_left
      · (intro w; go_simp; try with_reducible rfl)
      dsimp only [List.set_cons_zero, List.set_cons_succ]
      refine stand_take (i := 7) (v := ?_) rfl (by kernel_rfl) (by kernel_rfl) (by kernel_rfl) (by rfl) (fun _ _ _ h => h) (by decide) (by decide) (by rfl) ?_ ?_
      rotate_left
      · (intro w; go_simp; try with_reducible rfl)
      dsimp only [List.set_cons_zero, List.set_cons_succ]
      refine stand_load2 (i := 8) (v := ?_) rfl (by kernel_rfl) (by kernel_rfl) (by kernel_rfl) (by rfl) (fun _ _ _ h => h) (by decide) (by decide) (by kernel_rfl) (by rfl) ?_ ?_
      rotate_left
      · (intro w hA; (try dsimp only at hA); go_simp; try with_reducible rfl)
      dsimp only [List.set_cons_zero, List.set_cons_succ]
      refine stand_take (i := 9) (v := ?_) rfl (by kernel_rfl) (by kernel_rfl) (by kernel_rfl) (by rfl) (fun _ _ _ h => h) (by decide) (by decide) (by rfl) ?_ ?_
      rotate_left
      · (intro w; go_simp; try with_reducible rfl)
      dsimp only [List.set_cons_zero, List.set_cons_succ]
      refine stand_take (i := 10) (v := ?_) rfl (by kernel_rfl) (by kernel_rfl) (by kernel_rfl) (by rfl) (fun _ _ _ h => h) (by decide) (by decide) (by rfl) ?_ ?_
      rotate_left
      · (intro w; go_simp; try with_reducible rfl)
      dsimp only [List.set_cons_zero, List.set_cons_succ]
      refine stand_load1 (i := 11) (v := ?_) rfl (by kernel_rfl) (by kernel_rfl) (by kernel_rfl) (by rfl) (fun _ _ _ h => h) (by decide) (by decide) (by kernel_rfl) (by rfl) ?_ ?_
      rotate_left
      · (intro w hA; (try dsimp only at hA); go_simp; try with_reducible rfl)
      dsimp only [List.set_cons_zero, List.set_cons_succ]
      refine stand_take (i := 12) (v := ?_) rfl (by kernel_rfl) (by kernel_rfl) (by kernel_rfl) (by rfl) (fun _ _ _ h => h) (by decide) (by decide) (by rfl) ?_ ?_
      rotate_left
      · (intro w; go_simp; try with_reducible rfl)
      dsimp only [List.set_cons_zero, List.set_cons_succ]
      refine stand_step (i := 13) (by kernel_rfl) rfl (fun K hK => ?_)
      go_simp
      refine hK.out _ _ (fun _ => HT0.out.cell (p := ⟨q, g, none⟩) id G3.out.1) (fun _ => HT0.out.cell (p := ⟨p, 2, none⟩) id G3.out.2) ?_
      clear hK K
      try simp only [put_laid, List.set_cons_zero, List.set_cons_succ]
      refine stand_step (i := 14) (by kernel_rfl) rfl (fun K hK => ?_)
      refine step_append_one Try.underlying23 info_int (by decide) (by rfl) (.tmp 44) (.tmp 46) (by rfl) base (.slice (R1 g).a nm (R1 g).c) (R1 g).l nm (by rfl) (HO.out.alloc _) wc.heap.size x (by rfl) (heap_alloc_new wc _) (by omega) (by have := HB.out; simp; omega) ?_
      intro g3 c3 w3 hg3 H3 T3 B3
      have T4 := Lib.hid ((((Turn.refl (fun i => (Value.slice (R1 g).a nm (R1 g).c).ownBlock = some i) wc).alloc (.cells #[.int .i64 x] 3)).drew).trans T3.out)
      have BK := Lib.hid (show ∀ k, (R1 g).v.ownBlock = some k → (Value.slice (R1 g).a nm (R1 g).c).ownBlock = some k from fun k hk => by unfold Rw.v at hk; rw [← HN.out] at hk; exact hk)
      have BK2 := Lib.hid (show ∀ k, (Value.slice (R1 g).a nm (R1 g).c).ownBlock = some k → (R1 g).v.ownBlock = some k from fun k hk => by unfold Rw.v; rw [← HN.out]; exact hk)
      have C4 := Lib.hid (HW.out.pool.cells.turn T4.out (fun e => (HW.out.pool.rows.far g p (Nat.le_of_lt hg) (BK2.out p e)).1 rfl) (fun e => (HW.out.pool.rows.far g q (Nat.le_of_lt hg) (BK2.out q e)).2 rfl))
      refine hK.out _ _ (past (by kernel_rfl)) (fun _ => C4.out.c2) ?_
      clear hK K
      try simp only [put_laid, List.set_cons_zero, List.set_cons_succ]
      refine stand_take (i := 15) (v := ?_) rfl (by kernel_rfl) (by kernel_rfl) (by kernel_rfl) (by rfl) (fun _ _ _ h => h) (by decide) (by decide) (by rfl) ?_ ?_
      rotate_left
      · (intro w; go_simp; try with_reducible rfl)
      dsimp only [List.set_cons_zero, List.set_cons_succ]
      have dq := C4.out.rc hg
      have fq := C4.out.fq g
      refine stand_step (i := 16) (by kernel_rfl) rfl (fun K hK => ?_)
      go_simp
      refine hK.out _ _ (past (by kernel_rfl)) (past (by kernel_rfl)) ?_
      clear hK K
      try simp only [put_laid, List.set_cons_zero, List.set_cons_succ]
      refine stand_done (by kernel_rfl) ?_
      clear dq fq
      go_wp2_with fail
      go_ret
      have hlen : ((R1 g).l ++ [x]).length = nm + 1 := by rw [List.length_append, ← HN.out]; rfl
      have k := HW.out.kept (HW.out.pool.putq hg (r := ⟨some ⟨g3, 0, none⟩, c3, (R1 g).l ++ [x]⟩) (w5 := w3) (by unfold Rw.own Rw.v; rw [hlen]; exact H3.out) (T4.out.mono (fun i _ e => BK2.out i e)) (fun k hk => by
        have hk' : g3 = k := by unfold Rw.v at hk; rw [own_block] at hk; exact Option.some.inj hk
        subst hk'
        rcases B3.out with e | e
        · exact Or.inl (BK2.out _ e)
        · right; simp at e; omega))
      unfold Rw.v at k
      rw [hlen] at k
      rw [HM.out] at k
      exact ⟨rfl, k⟩

theorem give_any {base p q : Nat} {s : St} {R : Nat → Rw} (g x : Int) (w : World) (h : IsPool w base p q s R) (hG : Good s) :
    Calls Try.prog 19 #[.pointer (some ⟨p, 0, none⟩), .int .i64 g, .int .i64 x] w fun e w' => e = .returned (.bool (giveB s g x)) ∧ Kept w w' base p q s.n R (giveS s g x) := by
  by_cases hg : 0 ≤ g ∧ g < (s.n : Int)
  · obtain ⟨k, rfl⟩ : ∃ k : Nat, g = k := ⟨g.toNat, by omega⟩
    have ht : takerB s k = true := decide_eq_true hg
    cases hx : liveB s x with
    | true =>
      have e1 : giveB s k x = true := by unfold giveB; rw [ht, hx]; rfl
      have e2 : giveS s k x = giveN s k x := by unfold giveS; rw [if_pos e1]; rfl
      rw [e1, e2]
      exact give_yes w h hG (by omega) hx
    | false =>
      have e1 : giveB s k x = false := by unfold giveB; rw [ht, hx]; rfl
      rw [e1, give_false e1]
      exact give_dead w h hG (by omega) hx
  · have ht : takerB s g = false := decide_eq_false hg
    have e1 : giveB s g x = false := by unfold giveB; rw [ht]; rfl
    rw [e1, give_false e1]
    exact give_far w h (by omega)

end Go.Proofs.Ytmjenbkhmhpleaa
