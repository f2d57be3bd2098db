/- Take and Give. -/
import Derived.Test.YtmjenbkhmhpleaaSpill
namespace Go.Proofs.Ytmjenbkhmhpleaa
open Go.RowKit
set_option linter.unusedVariables false

/-- The pool s1 lies in wx, and nothing that was in w has turned but the blocks of R. -/
structure Way (w wx : World) (base p q n : Nat) (R : Nat → Rw) (s1 : St) (R1 : Nat → Rw) : Prop where
  pool : IsPool wx base p q s1 R1
  t : Turn (PB p q n R) w wx
  b : ∀ k, PB p q n R1 k → PB p q n R k ∨ w.heap.size ≤ k
theorem Way.start {w : World} {base p q : Nat} {s : St} {R : Nat → Rw} (h : IsPool w base p q s R) : Way w w base p q s.n R s R := ⟨h, Turn.refl _ _, fun _ => Or.inl⟩
theorem Way.kept {w wx w' : World} {base p q n : Nat} {R R1 : Nat → Rw} {s1 s' : St} (h : Way w wx base p q n R s1 R1) (k : Kept wx w' base p q n R1 s') : Kept w w' base p q n R s' := Kept.and h.t h.b k
theorem Way.drewN {w wx : World} {base p q n : Nat} {R R1 : Nat → Rw} {s1 : St} (h : Way w wx base p q n R s1 R1) (k : Nat) : Way w (wx.drewN k) base p q n R s1 R1 := ⟨h.pool.drewN k, h.t.drewN k, h.b⟩
theorem Kept.way {w w' : World} {base p q n : Nat} {R : Nat → Rw} {s : St} (h : Kept w w' base p q n R s) : ∃ R1, Way w w' base p q n R s R1 := by
  obtain ⟨R1, h1, h2, h3⟩ := h
  exact ⟨R1, h1, h2, h3⟩
theorem Way.done {w w' : World} {base p q n : Nat} {R R1 : Nat → Rw} {s : St} (h : Way w w' base p q n R s R1) : Kept w w' base p q n R s := ⟨R1, h.pool, h.t, h.b⟩

/-- Row g is another one: own, and its block is the old one, or new. -/
theorem Lie.put {w w5 : World} {base p q n : Nat} {R : Nat → Rw} (h : Lie w base p q n R) (hp : p < w.heap.size) (hq : q < w.heap.size) {g : Nat} (hg : g ≤ n) {r : Rw} (hr : r.own w5 base) (t : Turn (fun k => (R g).v.ownBlock = some k) w w5) (hb : ∀ k, r.v.ownBlock = some k → (R g).v.ownBlock = some k ∨ w.heap.size ≤ k) :
    Lie w5 base p q n (setR R g r) := by
  have get : ∀ k, setR R g r k = if k = g then r else R k := fun k => rfl
  refine ⟨fun k hk => ?_, fun a b k ha hb' hab hk => ?_, fun a k ha hk => ?_⟩
  · rw [get]
    by_cases e : k = g
    · rw [if_pos e]; exact hr
    · rw [if_neg e]
      exact own_turn (h.own k hk) t (fun m hm hm' => h.apart k g m hk hg e hm hm')
  · rw [get] at hk ⊢
    by_cases e : a = g
    · subst e
      rw [if_pos rfl] at hk
      rw [if_neg (fun e => hab e.symm)]
      rcases hb k hk with h1 | h1
      · exact h.apart a b k ha hb' hab h1
      · intro h2
        have := ((h.own b hb').lt k h2).2
        omega
    · rw [if_neg e] at hk
      by_cases e2 : b = g
      · subst e2
        rw [if_pos rfl]
        intro h2
        rcases hb k h2 with h1 | h1
        · exact h.apart a b k ha hb' hab hk h1
        · have := ((h.own a ha).lt k hk).2
          omega
      · rw [if_neg e2]
        exact h.apart a b k ha hb' hab hk
  · rw [get] at hk
    by_cases e : a = g
    · subst e
      rw [if_pos rfl] at hk
      rcases hb k hk with h1 | h1
      · exact h.far a k ha h1
      · omega
    · rw [if_neg e] at hk
      exact h.far a k ha hk
/-- A cache is another row, stored in its place. -/
theorem IsPool.putq {w w5 : World} {base p q : Nat} {s : St} {R : Nat → Rw} (h : IsPool w base p q s R) {g : Nat} (hg : g < s.n) {r : Rw} (hr : r.own w5 base) (t : Turn (fun k => (R g).v.ownBlock = some k) w w5) (hb : ∀ k, r.v.ownBlock = some k → (R g).v.ownBlock = some k ∨ w.heap.size ≤ k) :
    Kept w (w5.setCell ⟨q, g, none⟩ r.v) base p q s.n R (withM s g r.l) := by
  have r1 := (h.rows.put h.cells.ltp h.cells.ltq (Nat.le_of_lt hg) hr t hb).set (Or.inr rfl) g r.v
  have c5 := h.cells.turn t (fun e => (h.rows.far g p (Nat.le_of_lt hg) e).1 rfl) (fun e => (h.rows.far g q (Nat.le_of_lt hg) e).2 rfl)
  have k1 := c5.putq h.ne hg r
  have t1 := (t.mono (S' := PB p q s.n R) (fun k _ e => Or.inr (Or.inr ⟨g, Nat.le_of_lt hg, e⟩))).setCell (p := ⟨q, g, none⟩) (Or.inl (Or.inr (Or.inl rfl))) r.v
  refine ⟨setR R g r, IsPool.mk (s := withM s g r.l) r1 k1 (fun i hi => ?_) h.ne h.bp h.bq, t1, ?_⟩
  · show (if i = g then r else R i).l = if i = g then r.l else s.M i
    by_cases e : i = g
    · rw [if_pos e, if_pos e]
    · rw [if_neg e, if_neg e]; exact h.m i hi
  · rintro k (e | e | ⟨x, hx, e⟩)
    · exact Or.inl (Or.inl e)
    · exact Or.inl (Or.inr (Or.inl e))
    · have e' : (if x = g then r else R x).v.ownBlock = some k := e
      by_cases e1 : x = g
      · rw [if_pos e1] at e'
        rcases hb k e' with h1 | h1
        · exact Or.inl (Or.inr (Or.inr ⟨g, Nat.le_of_lt hg, h1⟩))
        · exact Or.inr h1
      · rw [if_neg e1] at e'
        exact Or.inl (Or.inr (Or.inr ⟨x, hx, e'⟩))
theorem IsPool.cutq {w : World} {base p q : Nat} {s : St} {R : Nat → Rw} (h : IsPool w base p q s R) {g m : Nat} (hg : g < s.n) (hm : (R g).l.length = m + 1) :
    Kept w (w.setCell ⟨q, g, none⟩ (.slice (R g).a m (R g).c)) base p q s.n R (withM s g (cut (s.M g))) := by
  have hl : (cut (R g).l).length = m := by rw [cut_length, hm]; rfl
  have o := own_cut (h.rows.own g (Nat.le_of_lt hg)) (m := m) (M := cut (R g).l) (by omega) (by unfold cut; rw [hm]; rfl)
  have := h.putq hg (r := ⟨(R g).a, (R g).c, cut (R g).l⟩) (w5 := w) (by unfold Rw.own Rw.v; rw [hl]; exact o) (Turn.refl _ _) (fun k hk => by
    unfold Rw.v at hk ⊢
    rw [own_block] at hk ⊢
    exact Or.inl hk)
  unfold Rw.v at this
  rw [hl] at this
  rw [← h.m g (Nat.le_of_lt hg)]
  exact this
theorem IsPool.put4 {w : World} {base p q : Nat} {s : St} {R : Nat → Rw} (h : IsPool w base p q s R) (f : Nat) :
    Kept w (w.setCell ⟨p, 4, none⟩ (.int .i64 f)) base p q s.n R (withF s f) :=
  ⟨R, IsPool.mk (s := withF s f) (h.rows.set (Or.inl rfl) 4 _) (h.cells.put4 h.ne f) h.m h.ne h.bp h.bq, (Turn.refl _ _).setCell (p := ⟨p, 4, none⟩) (Or.inl (Or.inl rfl)) _, fun _ => Or.inl⟩

def TakePost (base p q n : Nat) (R : Nat → Rw) (r : St × Int × Bool) (w : World) (e : Ending) (w' : World) : Prop := e = .returned (.tuple #[.int .i64 r.2.1, .bool r.2.2]) ∧ Kept w w' base p q n R r.1

theorem take_no {base p q : Nat} {s : St} {R : Nat → Rw} {g : Int} (w : World) (h : IsPool w base p q s R) (hg : g < 0 ∨ (s.n : Int) ≤ g) :
    Calls Try.prog 17 #[.pointer (some ⟨p, 0, none⟩), .int .i64 g] w (TakePost base p q s.n R (s, 0, false) w) := by
  have H := Lib.hid h
  have HG := Lib.hid hg
  clear h hg
  go_enter Try.func17, Try.ntmps17
  go_wp2_with fail
  refine (taker_no w H.out HG.out).mono ?_
  rintro e w1 ⟨rfl, rfl⟩
  go_wp2
  go_ret2
  exact ⟨rfl, Kept.refl H.out 0⟩

set_option maxHeartbeats 2000000 in
theorem take_yes {base p q g : Nat} {s : St} {R : Nat → Rw} (w : World) (h : IsPool w base p q s R) (hG : Good s) (hg : g < s.n) :
    Calls Try.prog 17 #[.pointer (some ⟨p, 0, none⟩), .int .i64 g] w (TakePost base p q s.n R (takeN s g) w) := by
  have H := Lib.hid h
  have HG := Lib.hid hG
  have hn8 := hG.n
  have hf64 := hG.fresh
  have hs64 := hG.size
  have l64 := (hG.pulled hg).row (i := g) (Nat.le_of_lt hg)
  have HL := Lib.hid l64
  have c2 := h.cells.c2
  have rc := h.cells.rc hg
  rw [h.m g (Nat.le_of_lt hg)] at rc
  clear h hG l64
  obtain ⟨r, hr⟩ : ∃ r, r = takeN s g := ⟨_, rfl⟩
  have HR := Lib.hid hr
  rw [← hr]
  clear hr
  go_enter Try.func17, Try.ntmps17
  go_wp2_with fail
  refine (taker_yes w H.out hg).mono ?_
  rintro e w1 ⟨rfl, rfl⟩
  go_upto_if 21 with fail
  go_cut [] (fun wx => ∃ R1 : Nat → Rw, Hid (Way w wx base p q s.n R (pulled s g) R1))
  case first =>
    by_cases he : s.M g = []
    · have HE := Lib.hid he
      have hl0 : (s.M g).length = 0 := by rw [he]; rfl
      have h0 : (((s.M g).length : Int) == 0) = true := by rw [beq_iff_eq]; omega
      clear he hl0
      go_wp2_with fail
      refine (refill_any w H.out HG.out hg HE.out).mono ?_
      rintro e w1 ⟨rfl, k1⟩
      have K1 := Lib.hid k1
      clear k1
      go_wp2_with fail
      go_meet
      obtain ⟨R1, h1⟩ := K1.out.way
      exact ⟨R1, h1⟩
    · have HE := Lib.hid (pulled_none he)
      have hl0 : (s.M g).length ≠ 0 := fun e => he (List.eq_nil_of_length_eq_zero e)
      have h0 : (((s.M g).length : Int) == 0) = false := by rw [beq_eq_false_iff_ne]; omega
      clear he hl0
      go_wp2_with fail
      go_meet
      refine ⟨R, ?_⟩
      rw [HE.out]
      exact Way.start H.out
  case rest =>
    clear c2 rc
    obtain ⟨R1, hw⟩ := hcut
    have HW := Lib.hid hw.out
    clear hw
    have c2 : wc.cell? ⟨p, 2, none⟩ = some (.slice (some ⟨q, 0, none⟩) s.n s.n) := HW.out.pool.cells.c2
    have rc := HW.out.pool.cells.rc hg
    obtain ⟨nm, hnm⟩ : ∃ nm, nm = (R1 g).l.length := ⟨_, rfl⟩
    have hM : (R1 g).l = (pulled s g).M g := HW.out.pool.m g (Nat.le_of_lt hg)
    have hnm64 : nm ≤ 64 := by rw [hnm, hM]; exact HL.out
    rw [← hnm] at rc
    have HN := Lib.hid hnm
    have HM := Lib.hid hM
    by_cases he : (pulled s g).M g = []
    · have hn0 : nm = 0 := by rw [hnm, hM, he]; rfl
      clear hM hnm
      have c4 : wc.cell? ⟨p, 4, none⟩ = some (.int .i64 s.fresh) := HW.out.pool.cells.c4
      have c0 : wc.cell? ⟨p, 0, none⟩ = some (.int .i64 s.size) := HW.out.pool.cells.c0
      have f4 := HW.out.pool.cells.f 4
      have hneg : ¬ (0 : Int) ≤ (nm : Int) - 1 := by omega
      have hneg2 : ¬ (1 : Int) ≤ (nm : Int) := by omega
      by_cases hf : s.fresh < s.size
      · have HR2 := Lib.hid (show r = (withF (pulled s g) (s.fresh + 1), (s.fresh : Int), true) by rw [HR.out]; unfold takeN; rw [if_pos he, if_pos hf])
        have hdec : decide (s.size ≤ s.fresh) = false := decide_eq_false (by omega)
        clear he hn0
        go_wp2_with fail
        go_quiet (fail)
        go_wp2_with fail
        go_ret2
        refine ⟨by rw [HR2.out]; rfl, ?_⟩
        rw [HR2.out]
        have k := (HW.out.drewN nq).kept ((HW.out.drewN nq).pool.put4 (s.fresh + 1))
        exact k
      · have HR2 := Lib.hid (show r = (pulled s g, 0, false) by rw [HR.out]; unfold takeN; rw [if_pos he, if_neg hf])
        clear he hn0
        have hle : s.size ≤ s.fresh := by omega
        go_wp2_with fail
        go_quiet (fail)
        go_wp2_with fail
        go_ret2
        refine ⟨by rw [HR2.out]; rfl, ?_⟩
        rw [HR2.out]
        exact (HW.out.drewN nq).done
    · have HR2 := Lib.hid (show r = (withM (pulled s g) g (cut ((pulled s g).M g)), lastOf ((pulled s g).M g), true) by rw [HR.out]; unfold takeN; rw [if_neg he])
      have hn0 : nm ≠ 0 := fun e => he (List.eq_nil_of_length_eq_zero (by rw [← hM, ← hnm, e]))
      obtain ⟨m, hm⟩ : ∃ m, nm = m + 1 := ⟨nm - 1, by omega⟩
      have hm1 : (nm : Int) - 1 = (m : Int) := by omega
      have HMM := Lib.hid hm
      obtain ⟨ga, c', hform, _, hcc, _⟩ := own_form (HW.out.pool.rows.own g (Nat.le_of_lt hg)) (by rw [← hnm]; omega)
      have ha : (R1 g).a = some ⟨ga, 0, none⟩ ∧ (R1 g).c = c' := by cases hh : R1 g with | mk a c l => rw [hh] at hform; cases hform; exact ⟨rfl, rfl⟩
      rw [ha.1] at rc
      have hO := HW.out.pool.rows.own g (Nat.le_of_lt hg)
      unfold Rw.own Rw.v at hO
      rw [ha.1, ← hnm] at hO
      obtain ⟨cx, _⟩ := own_cells hO (j := m) (by omega)
      have hx : (R1 g).l.getD m 0 = lastOf ((pulled s g).M g) := by unfold lastOf; rw [← hM, ← hnm, hm]; rfl
      rw [hx] at cx
      have HA := Lib.hid ha.1
      have hmc : m ≤ (R1 g).c := by rw [ha.2]; omega
      have hlt2 : m < nm := by omega
      have hmc2 : (m : Int) ≤ ((R1 g).c : Int) := by omega
      have hm0 : (0 : Int) ≤ (m : Int) := by omega
      have hlt3 : (m : Int) < (nm : Int) := by omega
      have fq := HW.out.pool.cells.fq g
      generalize lastOf ((pulled s g).M g) = x at cx HR2
      clear he hn0 hm hform hcc ha hO hx hnm hM
      go_wp2_with fail
      clear cx hm1
      have G3 := Lib.hid (And.intro c2 rc)
      refine stand_start (by kernel_rfl) 15 (fun w' => w'.cell? ⟨p, 2, none⟩ = some (.slice (some ⟨q, 0, none⟩) s.n s.n) ∧ w'.cell? ⟨q, g, none⟩ = some (.slice (some ⟨ga, 0, none⟩) nm (R1 g).c)) 15 (fun w' => True) ⟨G3.out.1, G3.out.2⟩ trivial ?_
      clear c2
      refine stand_take (i := 0) (v := ?_) rfl (by kernel_rfl) (by kernel_rfl) (by kernel_rfl) (by rfl) (fun _ _ _ h => h) (by decide) (by decide) (by rfl) ?_ ?_
      rotate_left
      · (intro w; go_simp; try with_reducible rfl)
      dsimp only [List.set_cons_zero, List.set_cons_succ]
      refine stand_take (i := 1) (v := ?_) rfl (by kernel_rfl) (by kernel_rfl) (by kernel_rfl) (by rfl) (fun _ _ _ h => h) (by decide) (by decide) (by rfl) ?_ ?_
      rotate_left
      · (intro w; go_simp; try with_reducible rfl)
      dsimp only [List.set_cons_zero, List.set_cons_succ]
      refine stand_take (i := 2) (v := ?_) rfl (by kernel_rfl) (by kernel_rfl) (by kernel_rfl) (by rfl) (fun _ _ _ h => h) (by decide) (by decide) (by rfl) ?_ ?_
      rotate_left
      · (intro w; go_simp; try with_reducible rfl)
      dsimp only [List.set_cons_zero, List.set_cons_succ]
      refine stand_load1 (i := 3) (v := ?_) rfl (by kernel_rfl) (by kernel_rfl) (by kernel_rfl) (by rfl) (fun _ _ _ h => h) (by decide) (by decide) (by kernel_rfl) (by rfl) ?_ ?_
      rotate_left
      · (intro w hA; (try dsimp only at hA); go_simp; try with_reducible rfl)
      dsimp only [List.set_cons_zero, List.set_cons_succ]
      refine stand_take (i := 4) (v := ?_) rfl (by kernel_rfl) (by kernel_rfl) (by kernel_rfl) (by rfl) (fun _ _ _ h => h) (by decide) (by decide) (by rfl) ?_ ?_
      rotate_left
      · (intro w; go_simp; try with_reducible rfl)
      dsimp only [List.set_cons_zero, List.set_cons_succ]
      refine stand_take (i := 5) (v := ?_) rfl (by kernel_rfl) (by kernel_rfl) (by kernel_rfl) (by rfl) (fun _ _ _ h => h) (by decide) (by decide) (by rfl) ?_ ?_
      rotate_left
      · (intro w; go_simp; try with_reducible rfl)
      dsimp only [List.set_cons_zero, List.set_cons_succ]
      refine stand_take (i := 6) (v := ?_) rfl (by kernel_rfl) (by kernel_rfl) (by kernel_rfl) (by rfl) (fun _ _ _ h => h) (by decide) (by decide) (by rfl) ?_ ?_
      rotate_left
      · (intro w; go_simp; try with_reducible rfl)
      dsimp only [List.set_cons_zero, List.set_cons_succ]
      refine stand_take (i := 7) (v := ?_) rfl (by kernel_rfl) (by kernel_rfl) (by kernel_rfl) (by rfl) (fun _ _ _ h => h) (by decide) (by decide) (by rfl) ?_ ?_
      rotate_left
      · (intro w; go_simp; try with_reducible rfl)
      dsimp only [List.set_cons_zero, List.set_cons_succ]
      refine stand_load1 (i := 8) (v := ?_) rfl (by kernel_rfl) (by kernel_rfl) (by kernel_rfl) (by rfl) (fun _ _ _ h => h) (by decide) (by decide) (by kernel_rfl) (by rfl) ?_ ?_
      rotate_left
      · (intro w hA; (try dsimp only at hA); go_simp; try with_reducible rfl)
      dsimp only [List.set_cons_zero, List.set_cons_succ]
      refine stand_take (i := 9) (v := ?_) rfl (by kernel_rfl) (by kernel_rfl) (by kernel_rfl) (by rfl) (fun _ _ _ h => h) (by decide) (by decide) (by rfl) ?_ ?_
      rotate_left
      · (intro w; go_simp; try with_reducible rfl)
      dsimp only [List.set_cons_zero, List.set_cons_succ]
      refine stand_take (i := 10) (v := ?_) rfl (by kernel_rfl) (by kernel_rfl) (by kernel_rfl) (by rfl) (fun _ _ _ h => h) (by decide) (by decide) (by rfl) ?_ ?_
      rotate_left
      · (intro w; go_simp; try with_reducible rfl)
      dsimp only [List.set_cons_zero, List.set_cons_succ]
      refine stand_load1 (i := 11) (v := ?_) rfl (by kernel_rfl) (by kernel_rfl) (by kernel_rfl) (by rfl) (fun _ _ _ h => h) (by decide) (by decide) (by kernel_rfl) (by rfl) ?_ ?_
      rotate_left
      · (intro w hA; (try dsimp only at hA); go_simp; try with_reducible rfl)
      dsimp only [List.set_cons_zero, List.set_cons_succ]
      refine stand_take (i := 12) (v := ?_) rfl (by kernel_rfl) (by kernel_rfl) (by kernel_rfl) (by rfl) (fun _ _ _ h => h) (by decide) (by decide) (by rfl) ?_ ?_
      rotate_left
      · (intro w; go_simp; try with_reducible rfl)
      dsimp only [List.set_cons_zero, List.set_cons_succ]
      refine stand_take (i := 13) (v := ?_) rfl (by kernel_rfl) (by kernel_rfl) (by kernel_rfl) (by rfl) (fun _ _ _ h => h) (by decide) (by decide) (by rfl) ?_ ?_
      rotate_left
      · (intro w; go_simp; try with_reducible rfl)
      dsimp only [List.set_cons_zero, List.set_cons_succ]
      refine stand_take (i := 14) (v := ?_) rfl (by kernel_rfl) (by kernel_rfl) (by kernel_rfl) (by rfl) (fun _ _ _ h => h) (by decide) (by decide) (by rfl) ?_ ?_
      rotate_left
      · (intro w; go_simp; try with_reducible rfl)
      dsimp only [List.set_cons_zero, List.set_cons_succ]
      refine stand_step (i := 15) (by kernel_rfl) rfl (fun K hK => ?_)
      go_simp
      refine hK.out _ _ (past (by kernel_rfl)) (past (by kernel_rfl)) ?_
      clear hK K
      try simp only [put_laid, List.set_cons_zero, List.set_cons_succ]
      refine stand_done (by kernel_rfl) ?_
      go_wp2_with fail
      go_ret2
      refine ⟨by rw [HR2.out]; rfl, ?_⟩
      rw [HR2.out]
      have k := (HW.out.drewN 1).kept ((HW.out.drewN 1).pool.cutq (m := m) hg (by rw [← HN.out, HMM.out]))
      rw [HA.out] at k
      exact k

theorem takeN_eq {s : St} {g : Nat} (hg : g < s.n) : takeS s g = (takeN s g).1 ∧ takeX s g = (takeN s g).2.1 ∧ takeB s g = (takeN s g).2.2 := by
  have h : takerB s g = true := decide_eq_true (by omega)
  unfold takeS takeX takeB
  rw [if_pos h, if_pos h, if_pos h]
  exact ⟨rfl, rfl, rfl⟩
theorem take_any {base p q : Nat} {s : St} {R : Nat → Rw} (g : Int) (w : World) (h : IsPool w base p q s R) (hG : Good s) :
    Calls Try.prog 17 #[.pointer (some ⟨p, 0, none⟩), .int .i64 g] w fun e w' => e = .returned (.tuple #[.int .i64 (takeX s g), .bool (takeB s g)]) ∧ Kept w w' base p q s.n R (takeS s g) := by
  by_cases hg : 0 ≤ g ∧ g < (s.n : Int)
  · obtain ⟨k, rfl⟩ : ∃ k : Nat, g = k := ⟨g.toNat, by omega⟩
    obtain ⟨e1, e2, e3⟩ := takeN_eq (s := s) (g := k) (by omega)
    rw [e1, e2, e3]
    exact take_yes w h hG (by omega)
  · have hf : takerB s g = false := decide_eq_false hg
    have e1 : takeS s g = s := by unfold takeS; rw [hf]; rfl
    have e2 : takeX s g = 0 := by unfold takeX; rw [hf]; rfl
    have e3 : takeB s g = false := by unfold takeB; rw [hf]; rfl
    rw [e1, e2, e3]
    exact take_no w h (by omega)

end Go.Proofs.Ytmjenbkhmhpleaa
