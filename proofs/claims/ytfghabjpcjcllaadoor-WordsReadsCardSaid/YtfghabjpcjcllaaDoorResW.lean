/- The document's words of a result. -/
import Derived.Test.YtfghabjpcjcllaaDoorOpW
namespace Go.Proofs.YtfghabjpcjcllaaDoor
open Go.RowKit
set_option linter.unusedVariables false

def I64 (n : Int) : Prop := -9223372036854775808 ≤ n ∧ n ≤ 9223372036854775807
def resCase (case : Int) : Tx := if case = -1 then [] else [32,99,97,115,101,32] ++ numT case
def resWord (code : Int) : Tx := if code = 2 then [110,111] else if code = 3 then [112,97,110,105,99,32,115,101,110,100] else if code = 4 then [112,97,110,105,99,32,99,108,111,115,101] else if code = 5 then [112,97,110,105,99,32,110,105,108] else if code = 6 then [110,111,110,101] else [102,117,108,108]
/-- The words of a result. -/
def resT (code case v : Int) (ok : Bool) (n : Int) : Tx :=
  if code < 1 ∨ 7 < code then [99,111,100,101,32] ++ numT code
  else if code = 1 then ((([100,111,110,101] ++ resCase case) ++ ([32] ++ numT v)) ++ (if ok then [32,111,107,32] else [32,99,108,111,115,101,100,32])) ++ numT n
  else resWord code
abbrev tab8 : Array Value := #[.string ⟨#[]⟩, .string ⟨#[100,111,110,101]⟩, .string ⟨#[110,111]⟩, .string ⟨#[112,97,110,105,99,32,115,101,110,100]⟩, .string ⟨#[112,97,110,105,99,32,99,108,111,115,101]⟩, .string ⟨#[112,97,110,105,99,32,110,105,108]⟩, .string ⟨#[110,111,110,101]⟩, .string ⟨#[102,117,108,108]⟩]
theorem numT_wide {n : Int} (h : I64 n) : (numT n).length ≤ 20 := itoa_length n h.1 h.2

set_option maxRecDepth 100000 in
set_option maxHeartbeats 2000000 in
theorem rres_any (code case v n : Int) (ok : Bool) (w : World) (hc : I64 code) (hk : I64 case) (hv : I64 v) (hn : I64 n) :
    Calls Tryd.prog 13 #[.agg #[.int .i64 code, .int .i64 case, .int .i64 v, .bool ok, .int .i64 n]] w (GivesS w (resT code case v ok n)) := by
  rcases (show code < 1 ∨ (¬ code < 1 ∧ 7 < code) ∨ code = 1 ∨ code = 2 ∨ code = 3 ∨ code = 4 ∨ code = 5 ∨ code = 6 ∨ code = 7 by omega) with h1 | ⟨h0, h1⟩ | rfl | rfl | rfl | rfl | rfl | rfl | rfl
  · have _u := True.intro
    obtain ⟨N1, h_N1⟩ : ∃ S, bs (numT code) = S := ⟨_, rfl⟩
    have CN := Lib.hid (fun w => rnum1_any w (code) hc)
    rw [h_N1] at CN
    obtain ⟨S1, h_S1⟩ : ∃ S, bs ([99,111,100,101,32] ++ numT code) = S := ⟨_, rfl⟩
    have f1 : ∀ w, (Op.stringOp BinOp.add ⟨#[99,111,100,101,32]⟩ N1).run Tryd.prog w = .ok (.string S1) w := fun w => by
      (have := numT_wide hc); subst h_N1
      subst h_S1
      exact add_text ([99,111,100,101,32]) (numT code) (by first | (simp; done) | (simp; omega)) w
    have HS1 := Lib.hid h_S1
    clear h_S1 h_N1
    have B : Hid (Blk (w.alloc (.cells #[.int .i64 code, .int .i64 case, .int .i64 v, .bool ok, .int .i64 n] 27)) w.heap.size 27 [.int .i64 code, .int .i64 case, .int .i64 v, .bool ok, .int .i64 n]) := Lib.hid (blk_new w _ 27)
    have T := Lib.hid ((Turn.refl (fun _ => False) w).alloc (.cells #[.int .i64 code, .int .i64 case, .int .i64 v, .bool ok, .int .i64 n] 27))
    have c0 := B.out.c 0 rfl
    have c1 := B.out.c 1 rfl
    have c2 := B.out.c 2 rfl
    have c3 := B.out.c 3 rfl
    have c4 := B.out.c 4 rfl
    unfold GivesS
    go_enter Tryd.func13, Tryd.ntmps13
    go_upto_region 1 with fail
    generalize w.alloc (.cells #[.int .i64 code, .int .i64 case, .int .i64 v, .bool ok, .int .i64 n] 27) = w1 at B T c0 c1 c2 c3 c4 ⊢
    obtain ⟨bx, hbx⟩ : ∃ b, w.heap.size = b := ⟨_, rfl⟩
    rw [hbx] at B c0 c1 c2 c3 c4 ⊢
    clear hbx
    have q0 : ∀ o, (w1.alloc o).cell? ⟨bx, 0, none⟩ = some (.int .i64 code) := fun o => ((Turn.refl (fun _ => False) w1).alloc o).cell id c0
    have q1 : ∀ o, (w1.alloc o).cell? ⟨bx, 1, none⟩ = some (.int .i64 case) := fun o => ((Turn.refl (fun _ => False) w1).alloc o).cell id c1
    go_wp2_with fail
    refine (CN.out _).mono ?_
    rintro e w3 ⟨rfl, t3⟩
    have B := Lib.hid (B.out.new t3)
    have T := Lib.hid (T.out.trans t3)
    clear t3 c0 c1 c2 c3 c4
    have c0 := B.out.c 0 rfl
    have c1 := B.out.c 1 rfl
    have c2 := B.out.c 2 rfl
    have c3 := B.out.c 3 rfl
    have c4 := B.out.c 4 rfl
    go_wp2_with fail
    go_ret
    refine ⟨?_, T.out⟩
    rw [← HS1.out]
    unfold resT
    rw [if_pos (by omega)]
    rfl
  · have _u := True.intro
    obtain ⟨N1, h_N1⟩ : ∃ S, bs (numT code) = S := ⟨_, rfl⟩
    have CN := Lib.hid (fun w => rnum1_any w (code) hc)
    rw [h_N1] at CN
    obtain ⟨S1, h_S1⟩ : ∃ S, bs ([99,111,100,101,32] ++ numT code) = S := ⟨_, rfl⟩
    have f1 : ∀ w, (Op.stringOp BinOp.add ⟨#[99,111,100,101,32]⟩ N1).run Tryd.prog w = .ok (.string S1) w := fun w => by
      (have := numT_wide hc); subst h_N1
      subst h_S1
      exact add_text ([99,111,100,101,32]) (numT code) (by first | (simp; done) | (simp; omega)) w
    have HS1 := Lib.hid h_S1
    clear h_S1 h_N1
    have B : Hid (Blk (w.alloc (.cells #[.int .i64 code, .int .i64 case, .int .i64 v, .bool ok, .int .i64 n] 27)) w.heap.size 27 [.int .i64 code, .int .i64 case, .int .i64 v, .bool ok, .int .i64 n]) := Lib.hid (blk_new w _ 27)
    have T := Lib.hid ((Turn.refl (fun _ => False) w).alloc (.cells #[.int .i64 code, .int .i64 case, .int .i64 v, .bool ok, .int .i64 n] 27))
    have c0 := B.out.c 0 rfl
    have c1 := B.out.c 1 rfl
    have c2 := B.out.c 2 rfl
    have c3 := B.out.c 3 rfl
    have c4 := B.out.c 4 rfl
    unfold GivesS
    go_enter Tryd.func13, Tryd.ntmps13
    go_upto_region 1 with fail
    generalize w.alloc (.cells #[.int .i64 code, .int .i64 case, .int .i64 v, .bool ok, .int .i64 n] 27) = w1 at B T c0 c1 c2 c3 c4 ⊢
    obtain ⟨bx, hbx⟩ : ∃ b, w.heap.size = b := ⟨_, rfl⟩
    rw [hbx] at B c0 c1 c2 c3 c4 ⊢
    clear hbx
    have q0 : ∀ o, (w1.alloc o).cell? ⟨bx, 0, none⟩ = some (.int .i64 code) := fun o => ((Turn.refl (fun _ => False) w1).alloc o).cell id c0
    have q1 : ∀ o, (w1.alloc o).cell? ⟨bx, 1, none⟩ = some (.int .i64 case) := fun o => ((Turn.refl (fun _ => False) w1).alloc o).cell id c1
    go_wp2_with fail
    refine (CN.out _).mono ?_
    rintro e w3 ⟨rfl, t3⟩
    have B := Lib.hid (B.out.new t3)
    have T := Lib.hid (T.out.trans t3)
    clear t3 c0 c1 c2 c3 c4
    have c0 := B.out.c 0 rfl
    have c1 := B.out.c 1 rfl
    have c2 := B.out.c 2 rfl
    have c3 := B.out.c 3 rfl
    have c4 := B.out.c 4 rfl
    go_wp2_with fail
    go_ret
    refine ⟨?_, T.out⟩
    rw [← HS1.out]
    unfold resT
    rw [if_pos (by omega)]
    rfl
  · have _u := True.intro
    by_cases hm1 : case = -1
    · subst hm1
      cases ok
      · have _u := True.intro
        have hl := numT_wide hv
        have hl2 := numT_wide hn
        obtain ⟨N2, h_N2⟩ : ∃ S, bs (numT v) = S := ⟨_, rfl⟩
        have CV := Lib.hid (fun w => rnum_any w (v) hv)
        rw [h_N2] at CV
        obtain ⟨N3, h_N3⟩ : ∃ S, bs (numT n) = S := ⟨_, rfl⟩
        have CNN := Lib.hid (fun w => rnum1_any w (n) hn)
        rw [h_N3] at CNN
        obtain ⟨S3, h_S3⟩ : ∃ S, bs ([32] ++ numT v) = S := ⟨_, rfl⟩
        have g1 : ∀ w, (Op.stringOp BinOp.add ⟨#[32]⟩ N2).run Tryd.prog w = .ok (.string S3) w := fun w => by
          subst h_N2
          subst h_S3
          exact add_text ([32]) (numT v) (by first | (simp; done) | (simp; omega)) w
        obtain ⟨S4, h_S4⟩ : ∃ S, bs ([100,111,110,101] ++ ([32] ++ numT v)) = S := ⟨_, rfl⟩
        have g2 : ∀ w, (Op.stringOp BinOp.add ⟨#[100,111,110,101]⟩ S3).run Tryd.prog w = .ok (.string S4) w := fun w => by
          subst h_S3; (try subst h_SX)
          subst h_S4
          exact add_text ([100,111,110,101]) (([32] ++ numT v)) (by first | (simp; done) | (simp; omega)) w
        obtain ⟨S5, h_S5⟩ : ∃ S, bs (([100,111,110,101] ++ ([32] ++ numT v)) ++ [32,99,108,111,115,101,100,32]) = S := ⟨_, rfl⟩
        have g3 : ∀ w, (Op.stringOp BinOp.add S4 ⟨#[32,99,108,111,115,101,100,32]⟩).run Tryd.prog w = .ok (.string S5) w := fun w => by
          subst h_S4
          subst h_S5
          exact add_text (([100,111,110,101] ++ ([32] ++ numT v))) ([32,99,108,111,115,101,100,32]) (by first | (simp; done) | (simp; omega)) w
        obtain ⟨S6, h_S6⟩ : ∃ S, bs ((([100,111,110,101] ++ ([32] ++ numT v)) ++ [32,99,108,111,115,101,100,32]) ++ numT n) = S := ⟨_, rfl⟩
        have g4 : ∀ w, (Op.stringOp BinOp.add S5 N3).run Tryd.prog w = .ok (.string S6) w := fun w => by
          subst h_S5 h_N3
          subst h_S6
          exact add_text ((([100,111,110,101] ++ ([32] ++ numT v)) ++ [32,99,108,111,115,101,100,32])) (numT n) (by first | (simp; done) | (simp; omega)) w
        have HS6 := Lib.hid h_S6
        clear h_S3 h_S4 h_S5 h_S6 h_N2 h_N3 hl hl2
        have B : Hid (Blk (w.alloc (.cells #[.int .i64 1, .int .i64 (-1), .int .i64 v, .bool false, .int .i64 n] 27)) w.heap.size 27 [.int .i64 1, .int .i64 (-1), .int .i64 v, .bool false, .int .i64 n]) := Lib.hid (blk_new w _ 27)
        have T := Lib.hid ((Turn.refl (fun _ => False) w).alloc (.cells #[.int .i64 1, .int .i64 (-1), .int .i64 v, .bool false, .int .i64 n] 27))
        have c0 := B.out.c 0 rfl
        have c1 := B.out.c 1 rfl
        have c2 := B.out.c 2 rfl
        have c3 := B.out.c 3 rfl
        have c4 := B.out.c 4 rfl
        unfold GivesS
        go_enter Tryd.func13, Tryd.ntmps13
        go_upto_region 1 with fail
        generalize w.alloc (.cells #[.int .i64 1, .int .i64 (-1), .int .i64 v, .bool false, .int .i64 n] 27) = w1 at B T c0 c1 c2 c3 c4 ⊢
        obtain ⟨bx, hbx⟩ : ∃ b, w.heap.size = b := ⟨_, rfl⟩
        rw [hbx] at B c0 c1 c2 c3 c4 ⊢
        clear hbx
        have q0 : ∀ o, (w1.alloc o).cell? ⟨bx, 0, none⟩ = some (.int .i64 1) := fun o => ((Turn.refl (fun _ => False) w1).alloc o).cell id c0
        have q1 : ∀ o, (w1.alloc o).cell? ⟨bx, 1, none⟩ = some (.int .i64 (-1)) := fun o => ((Turn.refl (fun _ => False) w1).alloc o).cell id c1
        go_upto_region 4 with fail
        generalize hw2 : w1.alloc (.cells tab8 9) = w2 at ⊢
        have B := Lib.hid (hw2 ▸ B.out.new ((Turn.refl (fun _ => False) w1).alloc _) : Blk w2 bx 27 _)
        have T := Lib.hid (hw2 ▸ T.out.alloc _ : Turn (fun _ => False) w w2)
        clear q0 q1 c0 c1 c2 c3 c4 hw2
        have c0 := B.out.c 0 rfl
        have c1 := B.out.c 1 rfl
        have c2 := B.out.c 2 rfl
        have c3 := B.out.c 3 rfl
        have c4 := B.out.c 4 rfl
        go_wp2_with fail
        refine (CV.out _).mono ?_
        rintro e w3 ⟨rfl, t3⟩
        have B := Lib.hid (B.out.new t3)
        have T := Lib.hid (T.out.trans t3)
        clear t3 c0 c1 c2 c3 c4
        have c0 := B.out.c 0 rfl
        have c1 := B.out.c 1 rfl
        have c2 := B.out.c 2 rfl
        have c3 := B.out.c 3 rfl
        have c4 := B.out.c 4 rfl
        go_wp2_with fail
        refine (CNN.out _).mono ?_
        rintro e w3 ⟨rfl, t3⟩
        have B := Lib.hid (B.out.new t3)
        have T := Lib.hid (T.out.trans t3)
        clear t3 c0 c1 c2 c3 c4
        have c0 := B.out.c 0 rfl
        have c1 := B.out.c 1 rfl
        have c2 := B.out.c 2 rfl
        have c3 := B.out.c 3 rfl
        have c4 := B.out.c 4 rfl
        go_wp2_with fail
        go_ret
        refine ⟨?_, T.out⟩
        rw [← HS6.out]
        simp [resT,resCase]
      · have _u := True.intro
        have hl := numT_wide hv
        have hl2 := numT_wide hn
        obtain ⟨N2, h_N2⟩ : ∃ S, bs (numT v) = S := ⟨_, rfl⟩
        have CV := Lib.hid (fun w => rnum_any w (v) hv)
        rw [h_N2] at CV
        obtain ⟨N3, h_N3⟩ : ∃ S, bs (numT n) = S := ⟨_, rfl⟩
        have CNN := Lib.hid (fun w => rnum1_any w (n) hn)
        rw [h_N3] at CNN
        obtain ⟨S3, h_S3⟩ : ∃ S, bs ([32] ++ numT v) = S := ⟨_, rfl⟩
        have g1 : ∀ w, (Op.stringOp BinOp.add ⟨#[32]⟩ N2).run Tryd.prog w = .ok (.string S3) w := fun w => by
          subst h_N2
          subst h_S3
          exact add_text ([32]) (numT v) (by first | (simp; done) | (simp; omega)) w
        obtain ⟨S4, h_S4⟩ : ∃ S, bs ([100,111,110,101] ++ ([32] ++ numT v)) = S := ⟨_, rfl⟩
        have g2 : ∀ w, (Op.stringOp BinOp.add ⟨#[100,111,110,101]⟩ S3).run Tryd.prog w = .ok (.string S4) w := fun w => by
          subst h_S3; (try subst h_SX)
          subst h_S4
          exact add_text ([100,111,110,101]) (([32] ++ numT v)) (by first | (simp; done) | (simp; omega)) w
        obtain ⟨S5, h_S5⟩ : ∃ S, bs (([100,111,110,101] ++ ([32] ++ numT v)) ++ [32,111,107,32]) = S := ⟨_, rfl⟩
        have g3 : ∀ w, (Op.stringOp BinOp.add S4 ⟨#[32,111,107,32]⟩).run Tryd.prog w = .ok (.string S5) w := fun w => by
          subst h_S4
          subst h_S5
          exact add_text (([100,111,110,101] ++ ([32] ++ numT v))) ([32,111,107,32]) (by first | (simp; done) | (simp; omega)) w
        obtain ⟨S6, h_S6⟩ : ∃ S, bs ((([100,111,110,101] ++ ([32] ++ numT v)) ++ [32,111,107,32]) ++ numT n) = S := ⟨_, rfl⟩
        have g4 : ∀ w, (Op.stringOp BinOp.add S5 N3).run Tryd.prog w = .ok (.string S6) w := fun w => by
          subst h_S5 h_N3
          subst h_S6
          exact add_text ((([100,111,110,101] ++ ([32] ++ numT v)) ++ [32,111,107,32])) (numT n) (by first | (simp; done) | (simp; omega)) w
        have HS6 := Lib.hid h_S6
        clear h_S3 h_S4 h_S5 h_S6 h_N2 h_N3 hl hl2
        have B : Hid (Blk (w.alloc (.cells #[.int .i64 1, .int .i64 (-1), .int .i64 v, .bool true, .int .i64 n] 27)) w.heap.size 27 [.int .i64 1, .int .i64 (-1), .int .i64 v, .bool true, .int .i64 n]) := Lib.hid (blk_new w _ 27)
        have T := Lib.hid ((Turn.refl (fun _ => False) w).alloc (.cells #[.int .i64 1, .int .i64 (-1), .int .i64 v, .bool true, .int .i64 n] 27))
        have c0 := B.out.c 0 rfl
        have c1 := B.out.c 1 rfl
        have c2 := B.out.c 2 rfl
        have c3 := B.out.c 3 rfl
        have c4 := B.out.c 4 rfl
        unfold GivesS
        go_enter Tryd.func13, Tryd.ntmps13
        go_upto_region 1 with fail
        generalize w.alloc (.cells #[.int .i64 1, .int .i64 (-1), .int .i64 v, .bool true, .int .i64 n] 27) = w1 at B T c0 c1 c2 c3 c4 ⊢
        obtain ⟨bx, hbx⟩ : ∃ b, w.heap.size = b := ⟨_, rfl⟩
        rw [hbx] at B c0 c1 c2 c3 c4 ⊢
        clear hbx
        have q0 : ∀ o, (w1.alloc o).cell? ⟨bx, 0, none⟩ = some (.int .i64 1) := fun o => ((Turn.refl (fun _ => False) w1).alloc o).cell id c0
        have q1 : ∀ o, (w1.alloc o).cell? ⟨bx, 1, none⟩ = some (.int .i64 (-1)) := fun o => ((Turn.refl (fun _ => False) w1).alloc o).cell id c1
        go_upto_region 4 with fail
        generalize hw2 : w1.alloc (.cells tab8 9) = w2 at ⊢
        have B := Lib.hid (hw2 ▸ B.out.new ((Turn.refl (fun _ => False) w1).alloc _) : Blk w2 bx 27 _)
        have T := Lib.hid (hw2 ▸ T.out.alloc _ : Turn (fun _ => False) w w2)
        clear q0 q1 c0 c1 c2 c3 c4 hw2
        have c0 := B.out.c 0 rfl
        have c1 := B.out.c 1 rfl
        have c2 := B.out.c 2 rfl
        have c3 := B.out.c 3 rfl
        have c4 := B.out.c 4 rfl
        go_wp2_with fail
        refine (CV.out _).mono ?_
        rintro e w3 ⟨rfl, t3⟩
        have B := Lib.hid (B.out.new t3)
        have T := Lib.hid (T.out.trans t3)
        clear t3 c0 c1 c2 c3 c4
        have c0 := B.out.c 0 rfl
        have c1 := B.out.c 1 rfl
        have c2 := B.out.c 2 rfl
        have c3 := B.out.c 3 rfl
        have c4 := B.out.c 4 rfl
        go_wp2_with fail
        refine (CNN.out _).mono ?_
        rintro e w3 ⟨rfl, t3⟩
        have B := Lib.hid (B.out.new t3)
        have T := Lib.hid (T.out.trans t3)
        clear t3 c0 c1 c2 c3 c4
        have c0 := B.out.c 0 rfl
        have c1 := B.out.c 1 rfl
        have c2 := B.out.c 2 rfl
        have c3 := B.out.c 3 rfl
        have c4 := B.out.c 4 rfl
        go_wp2_with fail
        go_ret
        refine ⟨?_, T.out⟩
        rw [← HS6.out]
        simp [resT,resCase]
    · have hm2 : (case == -1) = false := by simpa using hm1
      have hl0 := numT_wide hk
      obtain ⟨N1, h_N1⟩ : ∃ S, bs (numT case) = S := ⟨_, rfl⟩
      have CN := Lib.hid (fun w => rnum1_any w (case) hk)
      rw [h_N1] at CN
      obtain ⟨S1, h_S1⟩ : ∃ S, bs ([32,99,97,115,101,32] ++ numT case) = S := ⟨_, rfl⟩
      have f1 : ∀ w, (Op.stringOp BinOp.add ⟨#[32,99,97,115,101,32]⟩ N1).run Tryd.prog w = .ok (.string S1) w := fun w => by
        subst h_N1
        subst h_S1
        exact add_text ([32,99,97,115,101,32]) (numT case) (by first | (simp; done) | (simp; omega)) w
      obtain ⟨SX, h_SX⟩ : ∃ S, bs ([100,111,110,101] ++ ([32,99,97,115,101,32] ++ numT case)) = S := ⟨_, rfl⟩
      have f2 : ∀ w, (Op.stringOp BinOp.add ⟨#[100,111,110,101]⟩ S1).run Tryd.prog w = .ok (.string SX) w := fun w => by
        subst h_S1
        subst h_SX
        exact add_text ([100,111,110,101]) (([32,99,97,115,101,32] ++ numT case)) (by first | (simp; done) | (simp; omega)) w
      obtain ⟨KX, hKX⟩ : ∃ K, [100,111,110,101] ++ ([32,99,97,115,101,32] ++ numT case) = K := ⟨_, rfl⟩
      have hkl : KX.length ≤ 40 := by rw [← hKX]; simp; omega
      rw [hKX] at h_SX
      have HKX := Lib.hid hKX
      clear hKX
      cases ok
      · have _u := True.intro
        have hl := numT_wide hv
        have hl2 := numT_wide hn
        obtain ⟨N2, h_N2⟩ : ∃ S, bs (numT v) = S := ⟨_, rfl⟩
        have CV := Lib.hid (fun w => rnum_any w (v) hv)
        rw [h_N2] at CV
        obtain ⟨N3, h_N3⟩ : ∃ S, bs (numT n) = S := ⟨_, rfl⟩
        have CNN := Lib.hid (fun w => rnum1_any w (n) hn)
        rw [h_N3] at CNN
        obtain ⟨S3, h_S3⟩ : ∃ S, bs ([32] ++ numT v) = S := ⟨_, rfl⟩
        have g1 : ∀ w, (Op.stringOp BinOp.add ⟨#[32]⟩ N2).run Tryd.prog w = .ok (.string S3) w := fun w => by
          subst h_N2
          subst h_S3
          exact add_text ([32]) (numT v) (by first | (simp; done) | (simp; omega)) w
        obtain ⟨S4, h_S4⟩ : ∃ S, bs (KX ++ ([32] ++ numT v)) = S := ⟨_, rfl⟩
        have g2 : ∀ w, (Op.stringOp BinOp.add SX S3).run Tryd.prog w = .ok (.string S4) w := fun w => by
          subst h_S3; (try subst h_SX)
          subst h_S4
          exact add_text (KX) (([32] ++ numT v)) (by first | (simp; done) | (simp; omega)) w
        obtain ⟨S5, h_S5⟩ : ∃ S, bs ((KX ++ ([32] ++ numT v)) ++ [32,99,108,111,115,101,100,32]) = S := ⟨_, rfl⟩
        have g3 : ∀ w, (Op.stringOp BinOp.add S4 ⟨#[32,99,108,111,115,101,100,32]⟩).run Tryd.prog w = .ok (.string S5) w := fun w => by
          subst h_S4
          subst h_S5
          exact add_text ((KX ++ ([32] ++ numT v))) ([32,99,108,111,115,101,100,32]) (by first | (simp; done) | (simp; omega)) w
        obtain ⟨S6, h_S6⟩ : ∃ S, bs (((KX ++ ([32] ++ numT v)) ++ [32,99,108,111,115,101,100,32]) ++ numT n) = S := ⟨_, rfl⟩
        have g4 : ∀ w, (Op.stringOp BinOp.add S5 N3).run Tryd.prog w = .ok (.string S6) w := fun w => by
          subst h_S5 h_N3
          subst h_S6
          exact add_text (((KX ++ ([32] ++ numT v)) ++ [32,99,108,111,115,101,100,32])) (numT n) (by first | (simp; done) | (simp; omega)) w
        have HS6 := Lib.hid h_S6
        clear h_S3 h_S4 h_S5 h_S6 h_N2 h_N3 hl hl2
        clear h_SX h_S1 h_N1 hl0 hkl
        have B : Hid (Blk (w.alloc (.cells #[.int .i64 1, .int .i64 case, .int .i64 v, .bool false, .int .i64 n] 27)) w.heap.size 27 [.int .i64 1, .int .i64 case, .int .i64 v, .bool false, .int .i64 n]) := Lib.hid (blk_new w _ 27)
        have T := Lib.hid ((Turn.refl (fun _ => False) w).alloc (.cells #[.int .i64 1, .int .i64 case, .int .i64 v, .bool false, .int .i64 n] 27))
        have c0 := B.out.c 0 rfl
        have c1 := B.out.c 1 rfl
        have c2 := B.out.c 2 rfl
        have c3 := B.out.c 3 rfl
        have c4 := B.out.c 4 rfl
        unfold GivesS
        go_enter Tryd.func13, Tryd.ntmps13
        go_upto_region 1 with fail
        generalize w.alloc (.cells #[.int .i64 1, .int .i64 case, .int .i64 v, .bool false, .int .i64 n] 27) = w1 at B T c0 c1 c2 c3 c4 ⊢
        obtain ⟨bx, hbx⟩ : ∃ b, w.heap.size = b := ⟨_, rfl⟩
        rw [hbx] at B c0 c1 c2 c3 c4 ⊢
        clear hbx
        have q0 : ∀ o, (w1.alloc o).cell? ⟨bx, 0, none⟩ = some (.int .i64 1) := fun o => ((Turn.refl (fun _ => False) w1).alloc o).cell id c0
        have q1 : ∀ o, (w1.alloc o).cell? ⟨bx, 1, none⟩ = some (.int .i64 case) := fun o => ((Turn.refl (fun _ => False) w1).alloc o).cell id c1
        go_upto_region 4 with fail
        generalize hw2 : w1.alloc (.cells tab8 9) = w2 at ⊢
        have B := Lib.hid (hw2 ▸ B.out.new ((Turn.refl (fun _ => False) w1).alloc _) : Blk w2 bx 27 _)
        have T := Lib.hid (hw2 ▸ T.out.alloc _ : Turn (fun _ => False) w w2)
        clear q0 q1 c0 c1 c2 c3 c4 hw2
        have c0 := B.out.c 0 rfl
        have c1 := B.out.c 1 rfl
        have c2 := B.out.c 2 rfl
        have c3 := B.out.c 3 rfl
        have c4 := B.out.c 4 rfl
        go_wp2_with fail
        refine (CN.out _).mono ?_
        rintro e w3 ⟨rfl, t3⟩
        have B := Lib.hid (B.out.new t3)
        have T := Lib.hid (T.out.trans t3)
        clear t3 c0 c1 c2 c3 c4
        have c0 := B.out.c 0 rfl
        have c1 := B.out.c 1 rfl
        have c2 := B.out.c 2 rfl
        have c3 := B.out.c 3 rfl
        have c4 := B.out.c 4 rfl
        have HS6 := Lib.hid (HKX.out ▸ HS6.out)
        go_wp2_with fail
        refine (CV.out _).mono ?_
        rintro e w3 ⟨rfl, t3⟩
        have B := Lib.hid (B.out.new t3)
        have T := Lib.hid (T.out.trans t3)
        clear t3 c0 c1 c2 c3 c4
        have c0 := B.out.c 0 rfl
        have c1 := B.out.c 1 rfl
        have c2 := B.out.c 2 rfl
        have c3 := B.out.c 3 rfl
        have c4 := B.out.c 4 rfl
        go_wp2_with fail
        refine (CNN.out _).mono ?_
        rintro e w3 ⟨rfl, t3⟩
        have B := Lib.hid (B.out.new t3)
        have T := Lib.hid (T.out.trans t3)
        clear t3 c0 c1 c2 c3 c4
        have c0 := B.out.c 0 rfl
        have c1 := B.out.c 1 rfl
        have c2 := B.out.c 2 rfl
        have c3 := B.out.c 3 rfl
        have c4 := B.out.c 4 rfl
        go_wp2_with fail
        go_ret
        refine ⟨?_, T.out⟩
        rw [← HS6.out]
        simp [resT,resCase,hm1]
      · have _u := True.intro
        have hl := numT_wide hv
        have hl2 := numT_wide hn
        obtain ⟨N2, h_N2⟩ : ∃ S, bs (numT v) = S := ⟨_, rfl⟩
        have CV := Lib.hid (fun w => rnum_any w (v) hv)
        rw [h_N2] at CV
        obtain ⟨N3, h_N3⟩ : ∃ S, bs (numT n) = S := ⟨_, rfl⟩
        have CNN := Lib.hid (fun w => rnum1_any w (n) hn)
        rw [h_N3] at CNN
        obtain ⟨S3, h_S3⟩ : ∃ S, bs ([32] ++ numT v) = S := ⟨_, rfl⟩
        have g1 : ∀ w, (Op.stringOp BinOp.add ⟨#[32]⟩ N2).run Tryd.prog w = .ok (.string S3) w := fun w => by
          subst h_N2
          subst h_S3
          exact add_text ([32]) (numT v) (by first | (simp; done) | (simp; omega)) w
        obtain ⟨S4, h_S4⟩ : ∃ S, bs (KX ++ ([32] ++ numT v)) = S := ⟨_, rfl⟩
        have g2 : ∀ w, (Op.stringOp BinOp.add SX S3).run Tryd.prog w = .ok (.string S4) w := fun w => by
          subst h_S3; (try subst h_SX)
          subst h_S4
          exact add_text (KX) (([32] ++ numT v)) (by first | (simp; done) | (simp; omega)) w
        obtain ⟨S5, h_S5⟩ : ∃ S, bs ((KX ++ ([32] ++ numT v)) ++ [32,111,107,32]) = S := ⟨_, rfl⟩
        have g3 : ∀ w, (Op.stringOp BinOp.add S4 ⟨#[32,111,107,32]⟩).run Tryd.prog w = .ok (.string S5) w := fun w => by
          subst h_S4
          subst h_S5
          exact add_text ((KX ++ ([32] ++ numT v))) ([32,111,107,32]) (by first | (simp; done) | (simp; omega)) w
        obtain ⟨S6, h_S6⟩ : ∃ S, bs (((KX ++ ([32] ++ numT v)) ++ [32,111,107,32]) ++ numT n) = S := ⟨_, rfl⟩
        have g4 : ∀ w, (Op.stringOp BinOp.add S5 N3).run Tryd.prog w = .ok (.string S6) w := fun w => by
          subst h_S5 h_N3
          subst h_S6
          exact add_text (((KX ++ ([32] ++ numT v)) ++ [32,111,107,32])) (numT n) (by first | (simp; done) | (simp; omega)) w
        have HS6 := Lib.hid h_S6
        clear h_S3 h_S4 h_S5 h_S6 h_N2 h_N3 hl hl2
        clear h_SX h_S1 h_N1 hl0 hkl
        have B : Hid (Blk (w.alloc (.cells #[.int .i64 1, .int .i64 case, .int .i64 v, .bool true, .int .i64 n] 27)) w.heap.size 27 [.int .i64 1, .int .i64 case, .int .i64 v, .bool true, .int .i64 n]) := Lib.hid (blk_new w _ 27)
        have T := Lib.hid ((Turn.refl (fun _ => False) w).alloc (.cells #[.int .i64 1, .int .i64 case, .int .i64 v, .bool true, .int .i64 n] 27))
        have c0 := B.out.c 0 rfl
        have c1 := B.out.c 1 rfl
        have c2 := B.out.c 2 rfl
        have c3 := B.out.c 3 rfl
        have c4 := B.out.c 4 rfl
        unfold GivesS
        go_enter Tryd.func13, Tryd.ntmps13
        go_upto_region 1 with fail
        generalize w.alloc (.cells #[.int .i64 1, .int .i64 case, .int .i64 v, .bool true, .int .i64 n] 27) = w1 at B T c0 c1 c2 c3 c4 ⊢
        obtain ⟨bx, hbx⟩ : ∃ b, w.heap.size = b := ⟨_, rfl⟩
        rw [hbx] at B c0 c1 c2 c3 c4 ⊢
        clear hbx
        have q0 : ∀ o, (w1.alloc o).cell? ⟨bx, 0, none⟩ = some (.int .i64 1) := fun o => ((Turn.refl (fun _ => False) w1).alloc o).cell id c0
        have q1 : ∀ o, (w1.alloc o).cell? ⟨bx, 1, none⟩ = some (.int .i64 case) := fun o => ((Turn.refl (fun _ => False) w1).alloc o).cell id c1
        go_upto_region 4 with fail
        generalize hw2 : w1.alloc (.cells tab8 9) = w2 at ⊢
        have B := Lib.hid (hw2 ▸ B.out.new ((Turn.refl (fun _ => False) w1).alloc _) : Blk w2 bx 27 _)
        have T := Lib.hid (hw2 ▸ T.out.alloc _ : Turn (fun _ => False) w w2)
        clear q0 q1 c0 c1 c2 c3 c4 hw2
        have c0 := B.out.c 0 rfl
        have c1 := B.out.c 1 rfl
        have c2 := B.out.c 2 rfl
        have c3 := B.out.c 3 rfl
        have c4 := B.out.c 4 rfl
        go_wp2_with fail
        refine (CN.out _).mono ?_
        rintro e w3 ⟨rfl, t3⟩
        have B := Lib.hid (B.out.new t3)
        have T := Lib.hid (T.out.trans t3)
        clear t3 c0 c1 c2 c3 c4
        have c0 := B.out.c 0 rfl
        have c1 := B.out.c 1 rfl
        have c2 := B.out.c 2 rfl
        have c3 := B.out.c 3 rfl
        have c4 := B.out.c 4 rfl
        have HS6 := Lib.hid (HKX.out ▸ HS6.out)
        go_wp2_with fail
        refine (CV.out _).mono ?_
        rintro e w3 ⟨rfl, t3⟩
        have B := Lib.hid (B.out.new t3)
        have T := Lib.hid (T.out.trans t3)
        clear t3 c0 c1 c2 c3 c4
        have c0 := B.out.c 0 rfl
        have c1 := B.out.c 1 rfl
        have c2 := B.out.c 2 rfl
        have c3 := B.out.c 3 rfl
        have c4 := B.out.c 4 rfl
        go_wp2_with fail
        refine (CNN.out _).mono ?_
        rintro e w3 ⟨rfl, t3⟩
        have B := Lib.hid (B.out.new t3)
        have T := Lib.hid (T.out.trans t3)
        clear t3 c0 c1 c2 c3 c4
        have c0 := B.out.c 0 rfl
        have c1 := B.out.c 1 rfl
        have c2 := B.out.c 2 rfl
        have c3 := B.out.c 3 rfl
        have c4 := B.out.c 4 rfl
        go_wp2_with fail
        go_ret
        refine ⟨?_, T.out⟩
        rw [← HS6.out]
        simp [resT,resCase,hm1]
  · have _u := True.intro
    have B : Hid (Blk (w.alloc (.cells #[.int .i64 2, .int .i64 case, .int .i64 v, .bool ok, .int .i64 n] 27)) w.heap.size 27 [.int .i64 2, .int .i64 case, .int .i64 v, .bool ok, .int .i64 n]) := Lib.hid (blk_new w _ 27)
    have T := Lib.hid ((Turn.refl (fun _ => False) w).alloc (.cells #[.int .i64 2, .int .i64 case, .int .i64 v, .bool ok, .int .i64 n] 27))
    have c0 := B.out.c 0 rfl
    have c1 := B.out.c 1 rfl
    have c2 := B.out.c 2 rfl
    have c3 := B.out.c 3 rfl
    have c4 := B.out.c 4 rfl
    unfold GivesS
    go_enter Tryd.func13, Tryd.ntmps13
    go_upto_region 1 with fail
    generalize w.alloc (.cells #[.int .i64 2, .int .i64 case, .int .i64 v, .bool ok, .int .i64 n] 27) = w1 at B T c0 c1 c2 c3 c4 ⊢
    obtain ⟨bx, hbx⟩ : ∃ b, w.heap.size = b := ⟨_, rfl⟩
    rw [hbx] at B c0 c1 c2 c3 c4 ⊢
    clear hbx
    have q0 : ∀ o, (w1.alloc o).cell? ⟨bx, 0, none⟩ = some (.int .i64 2) := fun o => ((Turn.refl (fun _ => False) w1).alloc o).cell id c0
    have q1 : ∀ o, (w1.alloc o).cell? ⟨bx, 1, none⟩ = some (.int .i64 case) := fun o => ((Turn.refl (fun _ => False) w1).alloc o).cell id c1
    go_wp2_with fail
    go_ret
    exact ⟨by unfold resT resWord bs; rfl, T.out.alloc _⟩
  · have _u := True.intro
    have B : Hid (Blk (w.alloc (.cells #[.int .i64 3, .int .i64 case, .int .i64 v, .bool ok, .int .i64 n] 27)) w.heap.size 27 [.int .i64 3, .int .i64 case, .int .i64 v, .bool ok, .int .i64 n]) := Lib.hid (blk_new w _ 27)
    have T := Lib.hid ((Turn.refl (fun _ => False) w).alloc (.cells #[.int .i64 3, .int .i64 case, .int .i64 v, .bool ok, .int .i64 n] 27))
    have c0 := B.out.c 0 rfl
    have c1 := B.out.c 1 rfl
    have c2 := B.out.c 2 rfl
    have c3 := B.out.c 3 rfl
    have c4 := B.out.c 4 rfl
    unfold GivesS
    go_enter Tryd.func13, Tryd.ntmps13
    go_upto_region 1 with fail
    generalize w.alloc (.cells #[.int .i64 3, .int .i64 case, .int .i64 v, .bool ok, .int .i64 n] 27) = w1 at B T c0 c1 c2 c3 c4 ⊢
    obtain ⟨bx, hbx⟩ : ∃ b, w.heap.size = b := ⟨_, rfl⟩
    rw [hbx] at B c0 c1 c2 c3 c4 ⊢
    clear hbx
    have q0 : ∀ o, (w1.alloc o).cell? ⟨bx, 0, none⟩ = some (.int .i64 3) := fun o => ((Turn.refl (fun _ => False) w1).alloc o).cell id c0
    have q1 : ∀ o, (w1.alloc o).cell? ⟨bx, 1, none⟩ = some (.int .i64 case) := fun o => ((Turn.refl (fun _ => False) w1).alloc o).cell id c1
    go_wp2_with fail
    go_ret
    exact ⟨by unfold resT resWord bs; rfl, T.out.alloc _⟩
  · have _u := True.intro
    have B : Hid (Blk (w.alloc (.cells #[.int .i64 4, .int .i64 case, .int .i64 v, .bool ok, .int .i64 n] 27)) w.heap.size 27 [.int .i64 4, .int .i64 case, .int .i64 v, .bool ok, .int .i64 n]) := Lib.hid (blk_new w _ 27)
    have T := Lib.hid ((Turn.refl (fun _ => False) w).alloc (.cells #[.int .i64 4, .int .i64 case, .int .i64 v, .bool ok, .int .i64 n] 27))
    have c0 := B.out.c 0 rfl
    have c1 := B.out.c 1 rfl
    have c2 := B.out.c 2 rfl
    have c3 := B.out.c 3 rfl
    have c4 := B.out.c 4 rfl
    unfold GivesS
    go_enter Tryd.func13, Tryd.ntmps13
    go_upto_region 1 with fail
    generalize w.alloc (.cells #[.int .i64 4, .int .i64 case, .int .i64 v, .bool ok, .int .i64 n] 27) = w1 at B T c0 c1 c2 c3 c4 ⊢
    obtain ⟨bx, hbx⟩ : ∃ b, w.heap.size = b := ⟨_, rfl⟩
    rw [hbx] at B c0 c1 c2 c3 c4 ⊢
    clear hbx
    have q0 : ∀ o, (w1.alloc o).cell? ⟨bx, 0, none⟩ = some (.int .i64 4) := fun o => ((Turn.refl (fun _ => False) w1).alloc o).cell id c0
    have q1 : ∀ o, (w1.alloc o).cell? ⟨bx, 1, none⟩ = some (.int .i64 case) := fun o => ((Turn.refl (fun _ => False) w1).alloc o).cell id c1
    go_wp2_with fail
    go_ret
    exact ⟨by unfold resT resWord bs; rfl, T.out.alloc _⟩
  · have _u := True.intro
    have B : Hid (Blk (w.alloc (.cells #[.int .i64 5, .int .i64 case, .int .i64 v, .bool ok, .int .i64 n] 27)) w.heap.size 27 [.int .i64 5, .int .i64 case, .int .i64 v, .bool ok, .int .i64 n]) := Lib.hid (blk_new w _ 27)
    have T := Lib.hid ((Turn.refl (fun _ => False) w).alloc (.cells #[.int .i64 5, .int .i64 case, .int .i64 v, .bool ok, .int .i64 n] 27))
    have c0 := B.out.c 0 rfl
    have c1 := B.out.c 1 rfl
    have c2 := B.out.c 2 rfl
    have c3 := B.out.c 3 rfl
    have c4 := B.out.c 4 rfl
    unfold GivesS
    go_enter Tryd.func13, Tryd.ntmps13
    go_upto_region 1 with fail
    generalize w.alloc (.cells #[.int .i64 5, .int .i64 case, .int .i64 v, .bool ok, .int .i64 n] 27) = w1 at B T c0 c1 c2 c3 c4 ⊢
    obtain ⟨bx, hbx⟩ : ∃ b, w.heap.size = b := ⟨_, rfl⟩
    rw [hbx] at B c0 c1 c2 c3 c4 ⊢
    clear hbx
    have q0 : ∀ o, (w1.alloc o).cell? ⟨bx, 0, none⟩ = some (.int .i64 5) := fun o => ((Turn.refl (fun _ => False) w1).alloc o).cell id c0
    have q1 : ∀ o, (w1.alloc o).cell? ⟨bx, 1, none⟩ = some (.int .i64 case) := fun o => ((Turn.refl (fun _ => False) w1).alloc o).cell id c1
    go_wp2_with fail
    go_ret
    exact ⟨by unfold resT resWord bs; rfl, T.out.alloc _⟩
  · have _u := True.intro
    have B : Hid (Blk (w.alloc (.cells #[.int .i64 6, .int .i64 case, .int .i64 v, .bool ok, .int .i64 n] 27)) w.heap.size 27 [.int .i64 6, .int .i64 case, .int .i64 v, .bool ok, .int .i64 n]) := Lib.hid (blk_new w _ 27)
    have T := Lib.hid ((Turn.refl (fun _ => False) w).alloc (.cells #[.int .i64 6, .int .i64 case, .int .i64 v, .bool ok, .int .i64 n] 27))
    have c0 := B.out.c 0 rfl
    have c1 := B.out.c 1 rfl
    have c2 := B.out.c 2 rfl
    have c3 := B.out.c 3 rfl
    have c4 := B.out.c 4 rfl
    unfold GivesS
    go_enter Tryd.func13, Tryd.ntmps13
    go_upto_region 1 with fail
    generalize w.alloc (.cells #[.int .i64 6, .int .i64 case, .int .i64 v, .bool ok, .int .i64 n] 27) = w1 at B T c0 c1 c2 c3 c4 ⊢
    obtain ⟨bx, hbx⟩ : ∃ b, w.heap.size = b := ⟨_, rfl⟩
    rw [hbx] at B c0 c1 c2 c3 c4 ⊢
    clear hbx
    have q0 : ∀ o, (w1.alloc o).cell? ⟨bx, 0, none⟩ = some (.int .i64 6) := fun o => ((Turn.refl (fun _ => False) w1).alloc o).cell id c0
    have q1 : ∀ o, (w1.alloc o).cell? ⟨bx, 1, none⟩ = some (.int .i64 case) := fun o => ((Turn.refl (fun _ => False) w1).alloc o).cell id c1
    go_wp2_with fail
    go_ret
    exact ⟨by unfold resT resWord bs; rfl, T.out.alloc _⟩
  · have _u := True.intro
    have B : Hid (Blk (w.alloc (.cells #[.int .i64 7, .int .i64 case, .int .i64 v, .bool ok, .int .i64 n] 27)) w.heap.size 27 [.int .i64 7, .int .i64 case, .int .i64 v, .bool ok, .int .i64 n]) := Lib.hid (blk_new w _ 27)
    have T := Lib.hid ((Turn.refl (fun _ => False) w).alloc (.cells #[.int .i64 7, .int .i64 case, .int .i64 v, .bool ok, .int .i64 n] 27))
    have c0 := B.out.c 0 rfl
    have c1 := B.out.c 1 rfl
    have c2 := B.out.c 2 rfl
    have c3 := B.out.c 3 rfl
    have c4 := B.out.c 4 rfl
    unfold GivesS
    go_enter Tryd.func13, Tryd.ntmps13
    go_upto_region 1 with fail
    generalize w.alloc (.cells #[.int .i64 7, .int .i64 case, .int .i64 v, .bool ok, .int .i64 n] 27) = w1 at B T c0 c1 c2 c3 c4 ⊢
    obtain ⟨bx, hbx⟩ : ∃ b, w.heap.size = b := ⟨_, rfl⟩
    rw [hbx] at B c0 c1 c2 c3 c4 ⊢
    clear hbx
    have q0 : ∀ o, (w1.alloc o).cell? ⟨bx, 0, none⟩ = some (.int .i64 7) := fun o => ((Turn.refl (fun _ => False) w1).alloc o).cell id c0
    have q1 : ∀ o, (w1.alloc o).cell? ⟨bx, 1, none⟩ = some (.int .i64 case) := fun o => ((Turn.refl (fun _ => False) w1).alloc o).cell id c1
    go_wp2_with fail
    go_ret
    exact ⟨by unfold resT resWord bs; rfl, T.out.alloc _⟩
end Go.Proofs.YtfghabjpcjcllaaDoor
