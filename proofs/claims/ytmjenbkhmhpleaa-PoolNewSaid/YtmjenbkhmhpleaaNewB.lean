/- Of. -/
import Derived.Test.YtmjenbkhmhpleaaNewA
namespace Go.Proofs.Ytmjenbkhmhpleaa
open Go.RowKit
set_option linter.unusedVariables false

/-- The middle is another row, stored in its place. -/
theorem IsPool.putm {w w5 : World} {base p q : Nat} {s : St} {R : Nat → Rw} (h : IsPool w base p q s R) {r : Rw} (hr : r.own w5 base) (t : Turn (fun k => (R s.n).v.ownBlock = some k) w w5) (hb : ∀ k, r.v.ownBlock = some k → (R s.n).v.ownBlock = some k ∨ w.heap.size ≤ k) :
    Kept w (w5.setCell ⟨p, 3, none⟩ r.v) base p q s.n R (withM s s.n r.l) := by
  have r1 := (h.rows.put h.cells.ltp h.cells.ltq (Nat.le_refl s.n) hr t hb).set (Or.inl rfl) 3 r.v
  have c5 := h.cells.turn t (fun e => (h.rows.far s.n p (Nat.le_refl _) e).1 rfl) (fun e => (h.rows.far s.n q (Nat.le_refl _) e).2 rfl)
  have k1 := c5.put3 h.ne r
  have t1 := (t.mono (S' := PB p q s.n R) (fun k _ e => Or.inr (Or.inr ⟨s.n, Nat.le_refl _, e⟩))).setCell (p := ⟨p, 3, none⟩) (Or.inl (Or.inl rfl)) r.v
  refine ⟨setR R s.n r, IsPool.mk (s := withM s s.n r.l) r1 k1 (fun i hi => ?_) h.ne h.bp h.bq, t1, ?_⟩
  · show (if i = s.n then r else R i).l = if i = s.n then r.l else s.M i
    by_cases e : i = s.n
    · rw [if_pos e, if_pos e]
    · rw [if_neg e, if_neg e]; exact h.m i hi
  · rintro k (e | e | ⟨x, hx, e⟩)
    · exact Or.inl (Or.inl e)
    · exact Or.inl (Or.inr (Or.inl e))
    · have e' : (if x = s.n then r else R x).v.ownBlock = some k := e
      by_cases e1 : x = s.n
      · rw [if_pos e1] at e'
        rcases hb k e' with h1 | h1
        · exact Or.inl (Or.inr (Or.inr ⟨s.n, Nat.le_refl _, h1⟩))
        · exact Or.inr h1
      · rw [if_neg e1] at e'
        exact Or.inl (Or.inr (Or.inr ⟨x, hx, e'⟩))

def BadPost (w : World) (e : Ending) (w' : World) : Prop := e = .returned (.tuple #[.pointer none, .int .i64 1]) ∧ Turn (fun _ => False) w w'
theorem of_cannot {a b f : Int} {n cc nm mc : Nat} {ca ma : Option Addr} (w : World) (h : a < 0 ∨ 64 < a ∨ (n : Int) < 0 ∨ 8 < (n : Int) ∨ b < 1 ∨ 16 < b) (hn : n ≤ 20) :
    Calls Try.prog 9 #[.int .i64 a, .int .i64 b, .slice ca n cc, .slice ma nm mc, .int .i64 f] w (BadPost w) := by
  have H := Lib.hid h
  clear h
  go_enter Try.func9, Try.ntmps9
  go_wp2_with fail
  refine (new_bad w H.out).mono ?_
  rintro e w1 ⟨rfl, rfl⟩
  go_wp2_with fail
  go_ret2
  exact ⟨rfl, Turn.refl _ _⟩
theorem of_fresh {size most n cc nm mc : Nat} {f : Int} {ca ma : Option Addr} (w : World) (hn : n ≤ 8) (hs : size ≤ 64) (hm : 1 ≤ most ∧ most ≤ 16) (hf : f < 0 ∨ (size : Int) < f) :
    Calls Try.prog 9 #[.int .i64 size, .int .i64 most, .slice ca n cc, .slice ma nm mc, .int .i64 f] w (BadPost w) := by
  have HF := Lib.hid hf
  have HM := Lib.hid hm
  have hcase : f < 0 ∨ (¬ f < 0 ∧ (size : Int) < f) := by omega
  clear hf hm
  rcases hcase with h0 | ⟨h0, h1⟩
  all_goals
    go_enter Try.func9, Try.ntmps9
    go_wp2_with fail
    refine (new_at (n := n) (size := size) (most := most) w rfl rfl rfl hn hs HM.out).mono ?_
    rintro e w1 ⟨p, q, rfl, hp, hq, h2, t2⟩
    have T2 := Lib.hid t2
    clear hp hq h2 t2
    go_wp2_with fail
    go_ret2
    exact ⟨rfl, T2.out⟩
theorem of_long {size most n cc nm mc f : Nat} {M : Nat → List Int} {ca ma : Option Addr} (w : World) (hn : n ≤ 8) (hs : size ≤ 64) (hm : 1 ≤ most ∧ most ≤ 16) (hf : f ≤ size) (hC : Came w n M ca cc) (hb : ∀ j, j < n → (M j).length ≤ 100) (hl : ∃ j, j < n ∧ most < (M j).length) :
    Calls Try.prog 9 #[.int .i64 size, .int .i64 most, .slice ca n cc, .slice ma nm mc, .int .i64 f] w (BadPost w) := by
  have HM := Lib.hid hm
  have HC := Lib.hid hC
  have HB := Lib.hid hb
  have HL := Lib.hid hl
  clear hm hC hb hl
  go_enter Try.func9, Try.ntmps9
  go_wp2_with fail
  refine (new_at (n := n) (size := size) (most := most) w rfl rfl rfl hn hs HM.out).mono ?_
  rintro e w1 ⟨p, q, rfl, hp, hq, h2, t2⟩
  have T2 := Lib.hid t2
  clear hp hq h2 t2
  go_wp2_with fail
  refine (toolong_yes w1 (HC.out.turn T2.out) (by omega) HM.out.2 HB.out HL.out).mono ?_
  rintro e w2 ⟨rfl, rfl⟩
  go_wp2_with fail
  go_ret2
  exact ⟨rfl, T2.out⟩
theorem of_twice {size most n cc nm mc f : Nat} {M : Nat → List Int} {ca ma : Option Addr} (w : World) (hn : n ≤ 8) (hs : size ≤ 64) (hm : 1 ≤ most ∧ most ≤ 16) (hf : f ≤ size) (hC : Came w n M ca cc) (hb : ∀ j, j < n → (M j).length ≤ 100) (hl : ∀ j, j < n → (M j).length ≤ most) (hmid : Ints .i64 w ma (M n)) (hnm : (M n).length = nm) (hnm2 : nm ≤ 100) (hok : okB f (rowsL M (n + 1)) = false) :
    Calls Try.prog 9 #[.int .i64 size, .int .i64 most, .slice ca n cc, .slice ma nm mc, .int .i64 f] w (BadPost w) := by
  have HM := Lib.hid hm
  have HC := Lib.hid hC
  have HB := Lib.hid hb
  have HL := Lib.hid hl
  have HMid := Lib.hid hmid
  have HNM := Lib.hid hnm
  have HOK := Lib.hid hok
  clear hm hC hb hl hmid hnm hok
  go_enter Try.func9, Try.ntmps9
  go_wp2_with fail
  refine (new_at (n := n) (size := size) (most := most) w rfl rfl rfl hn hs HM.out).mono ?_
  rintro e w1 ⟨p, q, rfl, hp, hq, h2, t2⟩
  have T2 := Lib.hid t2
  clear hp hq h2 t2
  go_wp2_with fail
  refine (toolong_no w1 (HC.out.turn T2.out) (by omega) HM.out.2 HL.out).mono ?_
  rintro e w2 ⟨rfl, rfl⟩
  go_wp2_with fail
  refine (apart_any w1 (HC.out.turn T2.out) (by omega) HB.out (HMid.out.turn T2.out (fun _ _ => id)) HNM.out hnm2 (by omega) HOK.out).mono ?_
  rintro e w3 ⟨rfl, t3⟩
  have T3 := Lib.hid (T2.out.trans t3)
  clear t3
  go_wp2_with fail
  go_ret2
  exact ⟨rfl, T3.out⟩

/-- The first k caches are in. -/
def partS (n size most : Nat) (M : Nat → List Int) (k : Nat) : St := ⟨n, size, most, 0, fun j => if j < k then M j else []⟩
theorem part_next {n size most k : Nat} {M : Nat → List Int} : withM (partS n size most M k) k (M k) = partS n size most M (k + 1) := by
  unfold withM partS
  congr 1
  funext j
  show (if j = k then M k else if j < k then M j else []) = if j < k + 1 then M j else []
  by_cases e : j = k
  · subst e; rw [if_pos rfl, if_pos (by omega)]
  · rw [if_neg e]
    by_cases e2 : j < k
    · rw [if_pos e2, if_pos (by omega)]
    · rw [if_neg e2, if_neg (by omega)]
theorem IsPool.to {w : World} {base p q : Nat} {s s' : St} {R : Nat → Rw} (h : IsPool w base p q s R) (h1 : s'.n = s.n) (h2 : s'.size = s.size) (h3 : s'.most = s.most) (h4 : s'.fresh = s.fresh) (h5 : ∀ i, i ≤ s.n → s'.M i = s.M i) : IsPool w base p q s' R := by
  refine ⟨by rw [h1]; exact h.rows, by rw [h1, h2, h3, h4]; exact h.cells, fun i hi => ?_, h.ne, h.bp, h.bq⟩
  rw [h1] at hi
  rw [h5 i hi]
  exact h.m i hi

def OfPost (n size most f : Nat) (M : Nat → List Int) (w : World) (e : Ending) (w' : World) : Prop :=
  ∃ p q R, e = .returned (.tuple #[.pointer (some ⟨p, 0, none⟩), .int .i64 0]) ∧ IsPool w' w.heap.size p q ⟨n, size, most, f, M⟩ R ∧ Turn (fun _ => False) w w'
set_option maxRecDepth 100000 in
set_option maxHeartbeats 2000000 in
theorem of_good {size most n cc nm mc f : Nat} {M : Nat → List Int} {ca ma : Option Addr} (w : World) (hn : n ≤ 8) (hs : size ≤ 64) (hm : 1 ≤ most ∧ most ≤ 16) (hf : f ≤ size) (hC : Came w n M ca cc) (hb : ∀ j, j < n → (M j).length ≤ 100) (hl : ∀ j, j < n → (M j).length ≤ most) (hmid : Ints .i64 w ma (M n)) (hnm : (M n).length = nm) (hnm2 : nm ≤ 100) (hok : okB f (rowsL M (n + 1)) = true) :
    Calls Try.prog 9 #[.int .i64 size, .int .i64 most, .slice ca n cc, .slice ma nm mc, .int .i64 f] w (OfPost n size most f M w) := by
  have HM := Lib.hid hm
  have HC := Lib.hid hC
  have HB := Lib.hid hb
  have HL := Lib.hid hl
  have HMid := Lib.hid hmid
  have HNM := Lib.hid hnm
  have HOK := Lib.hid hok
  clear hm hC hb hl hmid hnm hok
  go_enter Try.func9, Try.ntmps9
  go_wp2_with fail
  refine (new_at (n := n) (size := size) (most := most) w rfl rfl rfl hn hs HM.out).mono ?_
  rintro e w1 ⟨p, q, rfl, hp, hq, h2, t2⟩
  have T2 := Lib.hid t2
  have P2 := Lib.hid (show IsPool w1 w.heap.size p q (partS n size most M 0) R0 from h2.to rfl rfl rfl rfl (fun i _ => rfl))
  clear hp hq h2 t2
  go_wp2_with fail
  refine (toolong_no w1 (HC.out.turn T2.out) (by omega) HM.out.2 HL.out).mono ?_
  rintro e w2 ⟨rfl, rfl⟩
  go_wp2_with fail
  refine (apart_any w1 (HC.out.turn T2.out) (by omega) HB.out (HMid.out.turn T2.out (fun _ _ => id)) HNM.out hnm2 (by omega) HOK.out).mono ?_
  rintro e w3 ⟨rfl, t3⟩
  have T3 := Lib.hid (T2.out.trans t3)
  have P3 := Lib.hid (P2.out.new t3)
  clear t3 P2 T2
  go_wp2_with fail
  go_loopw [49] (fun i wr => ∃ (k : Nat) (R : Nat → Rw), k ≤ n ∧ i = .int .i64 k ∧ Hid (IsPool wr w.heap.size p q (partS n size most M k) R) ∧ Hid (Turn (fun _ => False) w wr)) (fun i _ => n - (intOf i).toNat)
  case atStart => exact ⟨0, R0, Nat.zero_le _, rfl, P3, T3⟩
  case round =>
    clear P3 T3
    obtain ⟨k, R, hk, rfl, HP, HT⟩ := hrel
    by_cases hlt : k < n
    · obtain ⟨ad, a, c, hca, hcell, hints, hnil, hlc⟩ := (HC.out.turn HT.out).row k hlt
      subst hca
      have h16 := HL.out k hlt
      have hm16 := HM.out.2
      obtain ⟨nk, hnk⟩ : ∃ nk, (M k).length = nk := ⟨_, rfl⟩
      rw [hnk] at hcell h16
      have HNK := Lib.hid hnk
      have HI := Lib.hid hints
      have hkn := Lib.hid (show k < (partS n size most M k).n from hlt)
      have hne1 : ¬ p = q := HP.out.ne
      have hne2 : ¬ q = p := fun e => hne1 e.symm
      have hki : (k : Int) < (n : Int) := by omega
      clear hnk hints hnil hlc
      go_wp2_with fail
      have c2 : wr.cell? ⟨p, 2, none⟩ = some (.slice (some ⟨q, 0, none⟩) n n) := HP.out.cells.c2
      refine stand_start (by kernel_rfl) 8 (fun w' => w'.cell? ⟨p, 2, none⟩ = some (.slice (some ⟨q, 0, none⟩) n n)) 8 (fun w' => True) c2 trivial ?_
      clear c2
      refine stand_take (i := 0) (v := ?_) rfl (by kernel_rfl) (by kernel_rfl) (by kernel_rfl) (by rfl) (fun _ _ _ h => h) (by decide) (by decide) (by rfl) ?_ ?_
      rotate_left
      · (intro w; go_simp; try with_reducible rfl)
      dsimp only [List.set_cons_zero, List.set_cons_succ]
      refine stand_take (i := 1) (v := ?_) rfl (by kernel_rfl) (by kernel_rfl) (by kernel_rfl) (by rfl) (fun _ _ _ h => h) (by decide) (by decide) (by rfl) ?_ ?_
      rotate_left
      · (intro w; go_simp; try with_reducible rfl)
      dsimp only [List.set_cons_zero, List.set_cons_succ]
      refine stand_take (i := 2) (v := ?_) rfl (by kernel_rfl) (by kernel_rfl) (by kernel_rfl) (by rfl) (fun _ _ _ h => h) (by decide) (by decide) (by rfl) ?_ ?_
      rotate_left
      · (intro w; go_simp; try with_reducible rfl)
      dsimp only [List.set_cons_zero, List.set_cons_succ]
      refine stand_load1 (i := 3) (v := ?_) rfl (by kernel_rfl) (by kernel_rfl) (by kernel_rfl) (by rfl) (fun _ _ _ h => h) (by decide) (by decide) (by kernel_rfl) (by rfl) ?_ ?_
      rotate_left
      · (intro w hA; (try dsimp only at hA); go_simp; try with_reducible rfl)
      dsimp only [List.set_cons_zero, List.set_cons_succ]
      refine stand_take (i := 4) (v := ?_) rfl (by kernel_rfl) (by kernel_rfl) (by kernel_rfl) (by rfl) (fun _ _ _ h => h) (by decide) (by decide) (by rfl) ?_ ?_
      rotate_left
      · (intro w; go_simp; try with_reducible rfl)
      dsimp only [List.set_cons_zero, List.set_cons_succ]
      refine stand_take (i := 5) (v := ?_) rfl (by kernel_rfl) (by kernel_rfl) (by kernel_rfl) (by rfl) (fun _ _ _ h => h) (by decide) (by decide) (by rfl) ?_ ?_
      rotate_left
      · (intro w; go_simp; try with_reducible rfl)
      dsimp only [List.set_cons_zero, List.set_cons_succ]
      have hcop := copied_any (cap := c) wr.drew (HI.out.turn (Turn.refl (fun _ => False) wr).drew (fun _ _ => id)) (by rw [HNK.out]; omega)
      rw [HNK.out] at hcop
      have HCop := Lib.hid hcop
      clear hcop
      refine stand_step (i := 6) (by kernel_rfl) rfl (fun K hK => ?_)
      go_simp
      refine HCop.out.mono ?_
      rintro e w5 ⟨rfl, r5, t5⟩
      have R5 := Lib.hid r5
      have T5 := Lib.hid ((Turn.refl (fun _ => False) wr).drew.trans t5)
      clear r5 t5
      have P5 := Lib.hid (HP.out.new T5.out)
      refine hK.out _ _ (fun _ => P5.out.cells.c2) (fun _ => trivial) ?_
      clear hK K
      try simp only [put_laid, List.set_cons_zero, List.set_cons_succ]
      refine stand_take (i := 7) (v := ?_) rfl (by kernel_rfl) (by kernel_rfl) (by kernel_rfl) (by rfl) (fun _ _ _ h => h) (by decide) (by decide) (by rfl) ?_ ?_
      rotate_left
      · (intro w; go_simp; try with_reducible rfl)
      dsimp only [List.set_cons_zero, List.set_cons_succ]
      have dq := P5.out.cells.rc hkn.out
      have fq := P5.out.cells.fq k
      refine stand_step (i := 8) (by kernel_rfl) rfl (fun K hK => ?_)
      go_simp
      refine hK.out _ _ (past (by kernel_rfl)) (past (by kernel_rfl)) ?_
      clear hK K
      try simp only [put_laid, List.set_cons_zero, List.set_cons_succ]
      refine stand_done (by kernel_rfl) ?_
      clear dq fq
      have hown : (⟨some ⟨wr.drew.heap.size, 0, none⟩, nk, M k⟩ : Rw).own w5 w.heap.size := by
        unfold Rw.own Rw.v
        have h := R5.out.own (base := w.heap.size) (Nat.le_trans HP.out.bp (Nat.le_of_lt HP.out.cells.ltp)) (by rw [HNK.out]; unfold maxLen; omega)
        rw [HNK.out] at h ⊢
        exact h
      have hkp := HP.out.putq hkn.out hown (T5.out.mono (fun i _ e => absurd e id)) (fun x hx => by
        unfold Rw.v at hx
        rw [own_block] at hx
        have hx' : wr.heap.size = x := Option.some.inj hx
        exact Or.inr (by omega))
      rw [part_next] at hkp
      unfold Rw.v at hkp
      rw [HNK.out] at hkp
      obtain ⟨R6, h6, t6, _⟩ := hkp
      have P6 := Lib.hid h6
      have T6 := Lib.hid (HT.out.and t6 (fun i hi e => by have := (HP.out.blocks e).1; omega))
      clear h6 t6 hown
      go_wp2_with fail
      refine ⟨⟨_, _, _, ⟨k + 1, by omega, by go_num, ⟨R6, P6⟩, T6⟩, rfl, rfl, rfl⟩, ?_⟩
      first | (simp [intOf]; omega) | (simp only [intOf, Int.toNat_natCast]; omega) | omega | trace_state
    · have hkn : k = n := by omega
      have HPn := Lib.hid (show IsPool wr w.heap.size p q (partS n size most M n) R by have := HP.out; rw [hkn] at this; exact this)
      have hcop := copied_any (cap := mc) wr (HMid.out.turn HT.out (fun _ _ => id)) (by rw [HNM.out]; omega)
      rw [HNM.out] at hcop
      have HCop := Lib.hid hcop
      clear hcop hkn HP
      go_wp2_with fail
      refine HCop.out.mono ?_
      rintro e w5 ⟨rfl, r5, t5⟩
      have R5 := Lib.hid r5
      have T5 := Lib.hid t5
      have P5 := Lib.hid (HPn.out.new t5)
      clear r5 t5
      have d3 := P5.out.cells.c3
      have f3 := P5.out.cells.f 3
      have d3 : w5.cell? ⟨p, 3, none⟩ = some (.slice (R n).a (R n).l.length (R n).c) := d3
      go_upto_region 10 with fail
      clear d3 f3
      have hown : (⟨some ⟨wr.heap.size, 0, none⟩, nm, M n⟩ : Rw).own w5 w.heap.size := by
        unfold Rw.own Rw.v
        have h := R5.out.own (base := w.heap.size) (Nat.le_trans HPn.out.bp (Nat.le_of_lt HPn.out.cells.ltp)) (by rw [HNM.out]; unfold maxLen; omega)
        rw [HNM.out] at h ⊢
        exact h
      have hkp := HPn.out.putm hown (T5.out.mono (fun i _ e => absurd e id)) (fun x hx => by
        unfold Rw.v at hx
        rw [own_block] at hx
        have hx' : wr.heap.size = x := Option.some.inj hx
        exact Or.inr (by omega))
      unfold Rw.v at hkp
      rw [HNM.out] at hkp
      obtain ⟨R6, h6, t6, _⟩ := hkp
      have h6' : IsPool (w5.setCell ⟨p, 3, none⟩ (.slice (some ⟨wr.heap.size, 0, none⟩) nm nm)) w.heap.size p q ⟨n, size, most, 0, M⟩ R6 := h6.to rfl rfl rfl rfl (fun i hi => by
        show M i = if i = n then M n else if i < n then M i else []
        have hi' : i ≤ n := hi
        by_cases e : i = n
        · rw [if_pos e, e]
        · rw [if_neg e, if_pos (by omega)])
      have P6 := Lib.hid h6'
      have T6 := Lib.hid (HT.out.and t6 (fun i hi e => by have := (HPn.out.blocks e).1; omega))
      clear h6 h6' t6 hown
      generalize w5.setCell ⟨p, 3, none⟩ (.slice (some ⟨wr.heap.size, 0, none⟩) nm nm) = w6 at P6 T6 ⊢
      have d4 : w6.cell? ⟨p, 4, none⟩ = some (.int .i64 0) := P6.out.cells.c4
      have f4 := P6.out.cells.f 4
      go_wp2_with fail
      go_ret2
      obtain ⟨R7, h7, t7, _⟩ := P6.out.put4 f
      exact ⟨p, q, R7, rfl, h7, T6.out.and t7 (fun i hi e => by have := (P6.out.blocks e).1; omega)⟩

end Go.Proofs.Ytmjenbkhmhpleaa
