/- open: a pool, and the document's. -/
import Derived.Test.YtmjenbkhmhpleaaAll
import Derived.IntWalk
namespace Go.Proofs.Ytmjenbkhmhpleaa
open Go.RowKit
set_option linter.unusedVariables false

def ragg (size most : Nat) (ca : Option Addr) (n cc : Nat) (ma : Option Addr) (nm mc : Nat) (fresh : Nat) : Value :=
  .agg #[.int .i64 size, .int .i64 most, .slice ca n cc, .slice ma nm mc, .int .i64 fresh]
/-- A block that holds the document's pool. -/
def RBox (w : World) (b size most : Nat) (ca : Option Addr) (n cc : Nat) (ma : Option Addr) (nm mc fresh : Nat) : Prop :=
  w.heap[b]? = some (.cells #[.int .i64 size, .int .i64 most, .slice ca n cc, .slice ma nm mc, .int .i64 fresh] 25 (0, 0))
section
variable {w w' : World} {b size most n cc nm mc fresh : Nat} {ca ma : Option Addr} {S : Nat → Prop}
theorem RBox.d0 (h : RBox w b size most ca n cc ma nm mc fresh) : w.cell? ⟨b, 0, none⟩ = some (.int .i64 size) := by unfold RBox at h; simp [World.cell?, h]
theorem RBox.d1 (h : RBox w b size most ca n cc ma nm mc fresh) : w.cell? ⟨b, 1, none⟩ = some (.int .i64 most) := by unfold RBox at h; simp [World.cell?, h]
theorem RBox.d2 (h : RBox w b size most ca n cc ma nm mc fresh) : w.cell? ⟨b, 2, none⟩ = some (.slice ca n cc) := by unfold RBox at h; simp [World.cell?, h]
theorem RBox.d3 (h : RBox w b size most ca n cc ma nm mc fresh) : w.cell? ⟨b, 3, none⟩ = some (.slice ma nm mc) := by unfold RBox at h; simp [World.cell?, h]
theorem RBox.d4 (h : RBox w b size most ca n cc ma nm mc fresh) : w.cell? ⟨b, 4, none⟩ = some (.int .i64 fresh) := by unfold RBox at h; simp [World.cell?, h]
theorem RBox.fr (h : RBox w b size most ca n cc ma nm mc fresh) (i : Nat) : w.frozen? ⟨b, i, none⟩ = false := by unfold RBox at h; simp [World.frozen?, h]
theorem RBox.turn (h : RBox w b size most ca n cc ma nm mc fresh) (t : Turn S w w') (hb : ¬ S b) : RBox w' b size most ca n cc ma nm mc fresh := t.heap hb h
theorem RBox.lt (h : RBox w b size most ca n cc ma nm mc fresh) : b < w.heap.size := (Array.getElem?_eq_some_iff.1 h).1
end

theorem store5_turn (w : World) (b : Nat) (v0 v1 v2 v3 v4 : Value) : Turn (fun i => i = b) w (((((w.setCell ⟨b, 0, none⟩ v0).setCell ⟨b, 1, none⟩ v1).setCell ⟨b, 2, none⟩ v2).setCell ⟨b, 3, none⟩ v3).setCell ⟨b, 4, none⟩ v4) :=
  ((((setCell_turn w b 0 v0).setCell (p := ⟨b, 1, none⟩) (Or.inl rfl) v1).setCell (p := ⟨b, 2, none⟩) (Or.inl rfl) v2).setCell (p := ⟨b, 3, none⟩) (Or.inl rfl) v3).setCell (p := ⟨b, 4, none⟩) (Or.inl rfl) v4
theorem RBox.store {w : World} {b size most n cc nm mc fresh size' most' n' cc' nm' mc' fresh' : Nat} {ca ma ca' ma' : Option Addr} (h : RBox w b size most ca n cc ma nm mc fresh) :
    RBox (((((w.setCell ⟨b, 0, none⟩ (.int .i64 size')).setCell ⟨b, 1, none⟩ (.int .i64 most')).setCell ⟨b, 2, none⟩ (.slice ca' n' cc')).setCell ⟨b, 3, none⟩ (.slice ma' nm' mc')).setCell ⟨b, 4, none⟩ (.int .i64 fresh')) b size' most' ca' n' cc' ma' nm' mc' fresh' := by
  have h0 := heap_setCell_at h (o := 0) (.int .i64 size')
  have h1 := heap_setCell_at h0 (o := 1) (.int .i64 most')
  have h2 := heap_setCell_at h1 (o := 2) (.slice ca' n' cc')
  have h3 := heap_setCell_at h2 (o := 3) (.slice ma' nm' mc')
  exact heap_setCell_at h3 (o := 4) (.int .i64 fresh')

def OpenPost (n size most : Nat) (w : World) (e : Ending) (w' : World) : Prop :=
  ∃ p q c, e = .returned (.tuple #[.pointer (some ⟨p, 0, none⟩), ragg size most (some ⟨c, 0, none⟩) n n none 0 0 0, .bool true]) ∧ IsPool w' w.heap.size p q (newS n size most) R0 ∧ Zeros w' c n (.slice none 0 0) 23 ∧ w.heap.size ≤ c ∧ c ≠ p ∧ c ≠ q ∧ Turn (fun _ => False) w w'

set_option maxHeartbeats 2000000 in
theorem open_any {a b c : Int} {n size most : Nat} (w : World) (ha : 0 ≤ a ∧ a ≤ 255) (hb : 0 ≤ b ∧ b ≤ 255) (hc : 0 ≤ c ∧ c ≤ 255) (hs : a % 30 = (size : Int)) (hn : b % 9 = (n : Int)) (hm : 1 + c % 16 = (most : Int)) :
    Calls Try.prog 15 #[.agg #[.int .u8 a, .int .u8 b, .int .u8 c]] w (OpenPost n size most w) := by
  obtain ⟨m, hm'⟩ : ∃ m : Nat, c % 16 = (m : Int) := ⟨(c % 16).toNat, by omega⟩
  have hmm : most = 1 + m := by omega
  have hn8 : n ≤ 8 := by omega
  have hs30 : size ≤ 29 := by omega
  have hm15 : m ≤ 15 := by omega
  have W1 := Lib.hid (show IntKind.i64.wrap a = a from IntWalk.i64_in _ (by omega))
  have W2 := Lib.hid (show IntKind.i64.wrap b = b from IntWalk.i64_in _ (by omega))
  have W3 := Lib.hid (show IntKind.i64.wrap c = c from IntWalk.i64_in _ (by omega))
  have W4 := Lib.hid (show IntKind.i64.wrap (1 + (m : Int)) = ((1 + m : Nat) : Int) by rw [IntWalk.i64_in _ (by omega)]; omega)
  have W5 := Lib.hid (show a.tmod 30 = (size : Int) by rw [Int.tmod_eq_emod_of_nonneg ha.1]; exact hs)
  have W6 := Lib.hid (show b.tmod 9 = (n : Int) by rw [Int.tmod_eq_emod_of_nonneg hb.1]; exact hn)
  have W7 := Lib.hid (show c.tmod 16 = (m : Int) by rw [Int.tmod_eq_emod_of_nonneg hc.1]; exact hm')
  have W8 := Lib.hid (show IntKind.i64.wrap (size : Int) = (size : Int) from IntWalk.i64_in _ (by omega))
  have W9 := Lib.hid (show IntKind.i64.wrap (n : Int) = (n : Int) from IntWalk.i64_in _ (by omega))
  have WA := Lib.hid (show IntKind.i64.wrap (m : Int) = (m : Int) from IntWalk.i64_in _ (by omega))
  have HMI := Lib.hid (show (1 + (m : Int)) = (most : Int) by omega)
  have hm1 : 1 ≤ most ∧ most ≤ 16 := by omega
  have HM1 := Lib.hid hm1
  clear hm hmm hs hn hm' ha hb hc hm1
  go_enter Try.func15, Try.ntmps15
  go_wp2_with fail
  have HBX := Lib.hid (new2 w (.cells #[.int .u8 a, .int .u8 b, .int .u8 c] 38) (.cells #[.int .i64 0, .int .i64 0, .slice none 0 0, .slice none 0 0, .int .i64 0] 25))
  have HZ := Lib.hid (show RBox ((w.alloc (.cells #[.int .u8 a, .int .u8 b, .int .u8 c] 38)).alloc (.cells #[.int .i64 0, .int .i64 0, .slice none 0 0, .slice none 0 0, .int .i64 0] 25)) (w.heap.size + 1) 0 0 none 0 0 none 0 0 0 from new2' w _ _)
  have HT := Lib.hid (((Turn.refl (fun _ => False) w).alloc (.cells #[.int .u8 a, .int .u8 b, .int .u8 c] 38)).alloc (.cells #[.int .i64 0, .int .i64 0, .slice none 0 0, .slice none 0 0, .int .i64 0] 25))
  generalize (w.alloc (.cells #[.int .u8 a, .int .u8 b, .int .u8 c] 38)).alloc (.cells #[.int .i64 0, .int .i64 0, .slice none 0 0, .slice none 0 0, .int .i64 0] 25) = w1 at HBX HZ HT ⊢
  obtain ⟨bx, hbx⟩ : ∃ bx, bx = w.heap.size := ⟨_, rfl⟩
  obtain ⟨rz, hrz⟩ : ∃ rz, rz = w.heap.size + 1 := ⟨_, rfl⟩
  have HRZ := Lib.hid (show w.heap.size ≤ rz by omega)
  rw [← hbx] at HBX
  rw [← hrz] at HZ ⊢
  rw [← hbx]
  clear hbx hrz
  go_upto_region 1 with fail
  go_cut [5] (fun s5 wx => ∃ b5 cq : Nat, s5 = .pointer (some ⟨b5, 0, none⟩) ∧ Hid (RBox wx b5 size most (some ⟨cq, 0, none⟩) n n none 0 0 0) ∧ Hid (Zeros wx cq n (.slice none 0 0) 23) ∧ Hid (w1.heap.size ≤ b5 ∧ w1.heap.size ≤ cq) ∧ Hid (Turn (fun _ => False) w1 wx))
  case first =>
    have x0 : w1.cell? ⟨bx, 0, none⟩ = some (.int .u8 a) := by simp [World.cell?, HBX.out]
    have x1 : w1.cell? ⟨bx, 1, none⟩ = some (.int .u8 b) := by simp [World.cell?, HBX.out]
    have x2 : w1.cell? ⟨bx, 2, none⟩ = some (.int .u8 c) := by simp [World.cell?, HBX.out]
    have X := Lib.hid (And.intro x0 (And.intro x1 x2))
    refine stand_start (by kernel_rfl) 16 (fun w' => w'.cell? ⟨bx, 0, none⟩ = some (.int .u8 a) ∧ w'.cell? ⟨bx, 1, none⟩ = some (.int .u8 b) ∧ w'.cell? ⟨bx, 2, none⟩ = some (.int .u8 c)) 16 (fun w' => True) ⟨x0, x1, x2⟩ trivial ?_
    clear x0 x1 x2
    have v1 := W1.out
    have v2 := W2.out
    have v3 := W3.out
    have v4 := W4.out
    have v5 := W5.out
    have v6 := W6.out
    have v7 := W7.out
    have v8 := W8.out
    have v9 := W9.out
    have va := WA.out
    refine stand_take (i := 0) (v := ?_) rfl (by kernel_rfl) (by kernel_rfl) (by kernel_rfl) (by rfl) (fun _ _ _ h => h) (by decide) (by decide) (by rfl) ?_ ?_
    rotate_left
    · (intro w; go_simp; try with_reducible rfl)
    dsimp only [List.set_cons_zero, List.set_cons_succ]
    refine stand_load1 (i := 1) (v := ?_) rfl (by kernel_rfl) (by kernel_rfl) (by kernel_rfl) (by rfl) (fun _ _ _ h => h) (by decide) (by decide) (by kernel_rfl) (by rfl) ?_ ?_
    rotate_left
    · (intro w hA; (try dsimp only at hA); go_simp; try with_reducible rfl)
    dsimp only [List.set_cons_zero, List.set_cons_succ]
    refine stand_take (i := 2) (v := ?_) rfl (by kernel_rfl) (by kernel_rfl) (by kernel_rfl) (by rfl) (fun _ _ _ h => h) (by decide) (by decide) (by rfl) ?_ ?_
    rotate_left
    · (intro w; go_simp; try with_reducible rfl)
    dsimp only [List.set_cons_zero, List.set_cons_succ]
    refine stand_take (i := 3) (v := ?_) rfl (by kernel_rfl) (by kernel_rfl) (by kernel_rfl) (by rfl) (fun _ _ _ h => h) (by decide) (by decide) (by rfl) ?_ ?_
    rotate_left
    · (intro w; go_simp; try with_reducible rfl)
    dsimp only [List.set_cons_zero, List.set_cons_succ]
    refine stand_take (i := 4) (v := ?_) rfl (by kernel_rfl) (by kernel_rfl) (by kernel_rfl) (by rfl) (fun _ _ _ h => h) (by decide) (by decide) (by rfl) ?_ ?_
    rotate_left
    · (intro w; go_simp; try with_reducible rfl)
    dsimp only [List.set_cons_zero, List.set_cons_succ]
    refine stand_load1 (i := 5) (v := ?_) rfl (by kernel_rfl) (by kernel_rfl) (by kernel_rfl) (by rfl) (fun _ _ _ h => h) (by decide) (by decide) (by kernel_rfl) (by rfl) ?_ ?_
    rotate_left
    · (intro w hA; (try dsimp only at hA); go_simp; try with_reducible rfl)
    dsimp only [List.set_cons_zero, List.set_cons_succ]
    refine stand_take (i := 6) (v := ?_) rfl (by kernel_rfl) (by kernel_rfl) (by kernel_rfl) (by rfl) (fun _ _ _ h => h) (by decide) (by decide) (by rfl) ?_ ?_
    rotate_left
    · (intro w; go_simp; try with_reducible rfl)
    dsimp only [List.set_cons_zero, List.set_cons_succ]
    refine stand_take (i := 7) (v := ?_) rfl (by kernel_rfl) (by kernel_rfl) (by kernel_rfl) (by rfl) (fun _ _ _ h => h) (by decide) (by decide) (by rfl) ?_ ?_
    rotate_left
    · (intro w; go_simp; try with_reducible rfl)
    dsimp only [List.set_cons_zero, List.set_cons_succ]
    refine stand_take (i := 8) (v := ?_) rfl (by kernel_rfl) (by kernel_rfl) (by kernel_rfl) (by rfl) (fun _ _ _ h => h) (by decide) (by decide) (by rfl) ?_ ?_
    rotate_left
    · (intro w; go_simp; try with_reducible rfl)
    dsimp only [List.set_cons_zero, List.set_cons_succ]
    refine stand_take (i := 9) (v := ?_) rfl (by kernel_rfl) (by kernel_rfl) (by kernel_rfl) (by rfl) (fun _ _ _ h => h) (by decide) (by decide) (by rfl) ?_ ?_
    rotate_left
    · (intro w; go_simp; try with_reducible rfl)
    dsimp only [List.set_cons_zero, List.set_cons_succ]
    refine stand_load1 (i := 10) (v := ?_) rfl (by kernel_rfl) (by kernel_rfl) (by kernel_rfl) (by rfl) (fun _ _ _ h => h) (by decide) (by decide) (by kernel_rfl) (by rfl) ?_ ?_
    rotate_left
    · (intro w hA; (try dsimp only at hA); go_simp; try with_reducible rfl)
    dsimp only [List.set_cons_zero, List.set_cons_succ]
    refine stand_take (i := 11) (v := ?_) rfl (by kernel_rfl) (by kernel_rfl) (by kernel_rfl) (by rfl) (fun _ _ _ h => h) (by decide) (by decide) (by rfl) ?_ ?_
    rotate_left
    · (intro w; go_simp; try with_reducible rfl)
    dsimp only [List.set_cons_zero, List.set_cons_succ]
    refine stand_take (i := 12) (v := ?_) rfl (by kernel_rfl) (by kernel_rfl) (by kernel_rfl) (by rfl) (fun _ _ _ h => h) (by decide) (by decide) (by rfl) ?_ ?_
    rotate_left
    · (intro w; go_simp; try with_reducible rfl)
    dsimp only [List.set_cons_zero, List.set_cons_succ]
    clear v1 v2 v3 v4 v5 v6 v7 v8 v9 va
    rw [HMI.out]
    refine stand_two (i := 13) (j := 15) (by kernel_rfl) rfl rfl (fun K hK => ?_) (fun K hK => ?_)
    · refine step_make_zeros cells_nil Try.underlying22 info_ints (by decide) (by rfl) (.tmp 20) (.tmp 20) (by rfl) n (by rfl) (by rfl) (by omega) ?_
      intro w2 Z2 T2
      have X2 := Lib.hid (And.intro (T2.out.cell (p := ⟨bx, 0, none⟩) id X.out.1) (And.intro (T2.out.cell (p := ⟨bx, 1, none⟩) id X.out.2.1) (T2.out.cell (p := ⟨bx, 2, none⟩) id X.out.2.2)))
      refine hK.out _ _ (fun _ => X2.out) (fun _ => trivial) ?_
      clear hK K
      try simp only [put_laid, List.set_cons_zero, List.set_cons_succ]
      refine stand_take (i := 14) (v := ?_) rfl (by kernel_rfl) (by kernel_rfl) (by kernel_rfl) (by rfl) (fun _ _ _ h => h) (by decide) (by decide) (by rfl) ?_ ?_
      rotate_left
      · (intro w; go_simp; try with_reducible rfl)
      dsimp only [List.set_cons_zero, List.set_cons_succ]
      refine stand_step (i := 15) (by kernel_rfl) rfl (fun K hK => ?_)
      go_simp
      have T3' := Lib.hid ((Turn.refl (fun _ => False) w2).alloc (.cells #[.int .i64 0, .int .i64 0, .slice none 0 0, .slice none 0 0, .int .i64 0] 25))
      refine hK.out _ _ ((fun _ => ⟨T3'.out.cell (p := ⟨bx, 0, none⟩) id X2.out.1, T3'.out.cell (p := ⟨bx, 1, none⟩) id X2.out.2.1, T3'.out.cell (p := ⟨bx, 2, none⟩) id X2.out.2.2⟩)) (fun _ => trivial) ?_
      clear hK K
      try simp only [put_laid, List.set_cons_zero, List.set_cons_succ]
      refine stand_step (i := 16) (by kernel_rfl) rfl (fun K hK => ?_)
      go_simp
      refine hK.out _ _ (past (by kernel_rfl)) (past (by kernel_rfl)) ?_
      clear hK K
      try simp only [put_laid, List.set_cons_zero, List.set_cons_succ]
      refine stand_done (by kernel_rfl) ?_
      go_wp2_with fail
      go_meet
      exact ⟨_, _, rfl, Lib.hid (heap_alloc_new w2 _), Lib.hid (Z2.out.turn ((Turn.refl (fun _ => False) w2).alloc _) id), Lib.hid ⟨T2.out.size, Nat.le_refl _⟩, Lib.hid (((Turn.refl _ w1).drew.trans T2.out).alloc _)⟩
    · go_simp
      have T3 := Lib.hid (((Turn.refl (fun _ => False) w1).alloc (.cells #[.int .i64 0, .int .i64 0, .slice none 0 0, .slice none 0 0, .int .i64 0] 25)).drew)
      have X3 := Lib.hid (And.intro (T3.out.cell (p := ⟨bx, 0, none⟩) id X.out.1) (And.intro (T3.out.cell (p := ⟨bx, 1, none⟩) id X.out.2.1) (T3.out.cell (p := ⟨bx, 2, none⟩) id X.out.2.2)))
      refine hK.out _ _ (fun _ => X3.out) (fun _ => trivial) ?_
      clear hK K
      try simp only [put_laid, List.set_cons_zero, List.set_cons_succ]
      refine stand_step (i := 13) (by kernel_rfl) rfl (fun K hK => ?_)
      refine step_make_zeros cells_nil Try.underlying22 info_ints (by decide) (by rfl) (.tmp 20) (.tmp 20) (by rfl) n (by rfl) (by rfl) (by omega) ?_
      intro w2 Z2 T2
      have X2 := Lib.hid (And.intro (T2.out.cell (p := ⟨bx, 0, none⟩) id X3.out.1) (And.intro (T2.out.cell (p := ⟨bx, 1, none⟩) id X3.out.2.1) (T2.out.cell (p := ⟨bx, 2, none⟩) id X3.out.2.2)))
      refine hK.out _ _ (fun _ => X2.out) (fun _ => trivial) ?_
      clear hK K
      try simp only [put_laid, List.set_cons_zero, List.set_cons_succ]
      refine stand_take (i := 14) (v := ?_) rfl (by kernel_rfl) (by kernel_rfl) (by kernel_rfl) (by rfl) (fun _ _ _ h => h) (by decide) (by decide) (by rfl) ?_ ?_
      rotate_left
      · (intro w; go_simp; try with_reducible rfl)
      dsimp only [List.set_cons_zero, List.set_cons_succ]
      have B2 := Lib.hid (show RBox w2 w1.heap.size 0 0 none 0 0 none 0 0 0 from T2.out.heap id (heap_alloc_new w1 _))
      have d0 := B2.out.d0
      have d1 := B2.out.d1
      have d2 := B2.out.d2
      have d3 := B2.out.d3
      have d4 := B2.out.d4
      have f0 := B2.out.fr 0
      have f1 := B2.out.fr 1
      have f2 := B2.out.fr 2
      have f3 := B2.out.fr 3
      have f4 := B2.out.fr 4
      refine stand_step (i := 16) (by kernel_rfl) rfl (fun K hK => ?_)
      go_simp
      refine hK.out _ _ (past (by kernel_rfl)) (past (by kernel_rfl)) ?_
      clear hK K
      try simp only [put_laid, List.set_cons_zero, List.set_cons_succ]
      refine stand_done (by kernel_rfl) ?_
      go_wp2_with fail
      go_meet
      have TS := Lib.hid (store5_turn w2 w1.heap.size (.int .i64 size) (.int .i64 most) (.slice (some ⟨w1.heap.size + 1, 0, none⟩) n n) (.slice none 0 0) (.int .i64 0))
      have hsz : (w1.alloc (.cells #[.int .i64 0, .int .i64 0, .slice none 0 0, .slice none 0 0, .int .i64 0] 25)).drew.heap.size = w1.heap.size + 1 := by simp
      rw [hsz] at Z2
      exact ⟨_, _, rfl, Lib.hid (B2.out.store), Lib.hid (Z2.out.turn TS.out (by omega)), Lib.hid ⟨Nat.le_refl _, Nat.le_succ _⟩, Lib.hid ((T3.out.trans T2.out).and TS.out (fun i hi e => by have e' : i = w1.heap.size := e; omega))⟩
  case rest =>
    obtain ⟨b5, cq, rfl, HB, HZ2, HLT, HT2⟩ := hcut
    have d0 := HB.out.d0
    have d1 := HB.out.d1
    have d2 := HB.out.d2
    go_wp2_with fail
    refine (new_at (n := n) (size := size) (most := most) wc rfl rfl rfl hn8 (by omega) HM1.out).mono ?_
    rintro e w3 ⟨p, q, rfl, hp, hq, h3, t3⟩
    have HP3 := Lib.hid h3
    have HT3 := Lib.hid t3
    have HPQ := Lib.hid (And.intro hp hq)
    have HB3 := Lib.hid (HB.out.turn t3 id)
    have HC3 := Lib.hid (HZ2.out.turn t3 id)
    have HZ3 := Lib.hid ((HZ.out.turn HT2.out id).turn t3 id)
    clear h3 t3 d0 d1 d2 hp hq
    go_wp2_with fail
    refine stand_start (by kernel_rfl) 9 (fun w' => w'.cell? ⟨b5, 0, none⟩ = some (.int .i64 size) ∧ w'.cell? ⟨b5, 1, none⟩ = some (.int .i64 most) ∧ w'.cell? ⟨b5, 2, none⟩ = some (.slice (some ⟨cq, 0, none⟩) n n) ∧ w'.cell? ⟨b5, 3, none⟩ = some (.slice none 0 0) ∧ w'.cell? ⟨b5, 4, none⟩ = some (.int .i64 0)) 9 (fun w' => True) ⟨HB3.out.d0, HB3.out.d1, HB3.out.d2, HB3.out.d3, HB3.out.d4⟩ trivial ?_
    refine stand_take (i := 0) (v := ?_) rfl (by kernel_rfl) (by kernel_rfl) (by kernel_rfl) (by rfl) (fun _ _ _ h => h) (by decide) (by decide) (by rfl) ?_ ?_
    rotate_left
    · (intro w; go_simp; try with_reducible rfl)
    dsimp only [List.set_cons_zero, List.set_cons_succ]
    refine stand_load1 (i := 1) (v := ?_) rfl (by kernel_rfl) (by kernel_rfl) (by kernel_rfl) (by rfl) (fun _ _ _ h => h) (by decide) (by decide) (by kernel_rfl) (by rfl) ?_ ?_
    rotate_left
    · (intro w hA; (try dsimp only at hA); go_simp; try with_reducible rfl)
    dsimp only [List.set_cons_zero, List.set_cons_succ]
    refine stand_take (i := 2) (v := ?_) rfl (by kernel_rfl) (by kernel_rfl) (by kernel_rfl) (by rfl) (fun _ _ _ h => h) (by decide) (by decide) (by rfl) ?_ ?_
    rotate_left
    · (intro w; go_simp; try with_reducible rfl)
    dsimp only [List.set_cons_zero, List.set_cons_succ]
    refine stand_take (i := 3) (v := ?_) rfl (by kernel_rfl) (by kernel_rfl) (by kernel_rfl) (by rfl) (fun _ _ _ h => h) (by decide) (by decide) (by rfl) ?_ ?_
    rotate_left
    · (intro w; go_simp; try with_reducible rfl)
    dsimp only [List.set_cons_zero, List.set_cons_succ]
    refine stand_take (i := 4) (v := ?_) rfl (by kernel_rfl) (by kernel_rfl) (by kernel_rfl) (by rfl) (fun _ _ _ h => h) (by decide) (by decide) (by rfl) ?_ ?_
    rotate_left
    · (intro w; go_simp; try with_reducible rfl)
    dsimp only [List.set_cons_zero, List.set_cons_succ]
    refine stand_take (i := 5) (v := ?_) rfl (by kernel_rfl) (by kernel_rfl) (by kernel_rfl) (by rfl) (fun _ _ _ h => h) (by decide) (by decide) (by rfl) ?_ ?_
    rotate_left
    · (intro w; go_simp; try with_reducible rfl)
    dsimp only [List.set_cons_zero, List.set_cons_succ]
    refine stand_take (i := 6) (v := ?_) rfl (by kernel_rfl) (by kernel_rfl) (by kernel_rfl) (by rfl) (fun _ _ _ h => h) (by decide) (by decide) (by rfl) ?_ ?_
    rotate_left
    · (intro w; go_simp; try with_reducible rfl)
    dsimp only [List.set_cons_zero, List.set_cons_succ]
    refine stand_take (i := 7) (v := ?_) rfl (by kernel_rfl) (by kernel_rfl) (by kernel_rfl) (by rfl) (fun _ _ _ h => h) (by decide) (by decide) (by rfl) ?_ ?_
    rotate_left
    · (intro w; go_simp; try with_reducible rfl)
    dsimp only [List.set_cons_zero, List.set_cons_succ]
    refine stand_take (i := 8) (v := ?_) rfl (by kernel_rfl) (by kernel_rfl) (by kernel_rfl) (by rfl) (fun _ _ _ h => h) (by decide) (by decide) (by rfl) ?_ ?_
    rotate_left
    · (intro w; go_simp; try with_reducible rfl)
    dsimp only [List.set_cons_zero, List.set_cons_succ]
    have d0 := HZ3.out.d0
    have d1 := HZ3.out.d1
    have d2 := HZ3.out.d2
    have d3 := HZ3.out.d3
    have d4 := HZ3.out.d4
    have f0 := HZ3.out.fr 0
    have f1 := HZ3.out.fr 1
    have f2 := HZ3.out.fr 2
    have f3 := HZ3.out.fr 3
    have f4 := HZ3.out.fr 4
    refine stand_step (i := 9) (by kernel_rfl) rfl (fun K hK => ?_)
    go_simp
    refine hK.out _ _ (past (by kernel_rfl)) (past (by kernel_rfl)) ?_
    clear hK K
    try simp only [put_laid, List.set_cons_zero, List.set_cons_succ]
    refine stand_take (i := 10) (v := ?_) rfl (by kernel_rfl) (by kernel_rfl) (by kernel_rfl) (by rfl) (fun _ _ _ h => h) (by decide) (by decide) (by rfl) ?_ ?_
    rotate_left
    · (intro w; go_simp; try with_reducible rfl)
    dsimp only [List.set_cons_zero, List.set_cons_succ]
    refine stand_done (by kernel_rfl) ?_
    go_wp2_with fail
    have TS := Lib.hid ((store5_turn w3 rz (.int .i64 size) (.int .i64 most) (.slice (some ⟨cq, 0, none⟩) n n) (.slice none 0 0) (.int .i64 0)).drew)
    have HF := Lib.hid (show RBox (((((w3.setCell ⟨rz, 0, none⟩ (.int .i64 size)).setCell ⟨rz, 1, none⟩ (.int .i64 most)).setCell ⟨rz, 2, none⟩ (.slice (some ⟨cq, 0, none⟩) n n)).setCell ⟨rz, 3, none⟩ (.slice none 0 0)).setCell ⟨rz, 4, none⟩ (.int .i64 0)).drew rz size most (some ⟨cq, 0, none⟩) n n none 0 0 0 from HZ3.out.store)
    generalize (((((w3.setCell ⟨rz, 0, none⟩ (.int .i64 size)).setCell ⟨rz, 1, none⟩ (.int .i64 most)).setCell ⟨rz, 2, none⟩ (.slice (some ⟨cq, 0, none⟩) n n)).setCell ⟨rz, 3, none⟩ (.slice none 0 0)).setCell ⟨rz, 4, none⟩ (.int .i64 0)).drew = wf at TS HF ⊢
    have e0 := HF.out.d0
    have e1 := HF.out.d1
    have e2 := HF.out.d2
    have e3 := HF.out.d3
    have e4 := HF.out.d4
    have hlz := HZ.out.lt
    have hw := HT.out.size
    have hw2 := HT2.out.size
    have hl1 := HLT.out
    have hpq := HPQ.out
    have hc := HC3.out.lt
    have hz2 := HZ2.out.lt
    have hrz := HRZ.out
    refine bodyPost_ret (v := .tuple #[.pointer (some ⟨p, 0, none⟩), ragg size most (some ⟨cq, 0, none⟩) n n none 0 0 0, .bool true]) (by simp [results, Try.results15, go_sem, ragg, e0, e1, e2, e3, e4]) rfl ⟨p, q, cq, rfl, ?_, ?_, by omega, by omega, by omega, ?_⟩
    · exact (HP3.out.turn TS.out (fun i hi e => by have := (HP3.out.blocks hi).1; have e' : i = rz := e; omega)).less (by omega)
    · exact HC3.out.turn TS.out (by omega)
    · exact ((HT.out.trans HT2.out).trans HT3.out).and TS.out (fun i hi e => by have e' : i = rz := e; omega)

end Go.Proofs.Ytmjenbkhmhpleaa
