/- The code's words of a result. -/
import Derived.Test.YtfghabjpcjcllaaDoorMNum
import Derived.Test.YtfghabjpcjcllaaDoorResW
namespace Go.Proofs.YtfghabjpcjcllaaDoor
open Go.RowKit
set_option linter.unusedVariables false

theorem itoa_any (n : Int) (w : World) (hn : I64 n) (hG : Gl0 w) : Calls Tryd.prog 28 #[.int .i64 n] w (GivesS w (numT n)) :=
  (Tryd.strconv_Itoa n hn.1 hn.2 w hG.tab).mono fun e w' ⟨h1, k, os, h2⟩ => ⟨h1, h2 ▸ grow_turn w k os⟩

set_option maxRecDepth 100000 in
set_option maxHeartbeats 2000000 in
theorem res_any (code case v n : Int) (ok : Bool) (w : World) (hc : I64 code) (hk : I64 case) (hv : I64 v) (hn : I64 n) (hG : Gl0 w) :
    Calls Tryd.prog 12 #[.agg #[.int .i64 code, .int .i64 case, .int .i64 v, .bool ok, .int .i64 n]] w (GivesS w (resT code case v ok n)) := by
  rcases (show code < 1 ∨ (¬ code < 1 ∧ 7 < code) ∨ code = 1 ∨ code = 2 ∨ code = 3 ∨ code = 4 ∨ code = 5 ∨ code = 6 ∨ code = 7 by omega) with h1 | ⟨h0, h1⟩ | rfl | rfl | rfl | rfl | rfl | rfl | rfl
  · have _u := True.intro
    have B : Hid (Blk (w.alloc (.cells #[.int .i64 code, .int .i64 case, .int .i64 v, .bool ok, .int .i64 n] 27)) w.heap.size 27 [.int .i64 code, .int .i64 case, .int .i64 v, .bool ok, .int .i64 n]) := Lib.hid (blk_new w _ 27)
    have T := Lib.hid ((Turn.refl (fun _ => False) w).alloc (.cells #[.int .i64 code, .int .i64 case, .int .i64 v, .bool ok, .int .i64 n] 27))
    have G := Lib.hid (hG.new T.out)
    have c0 := B.out.c 0 rfl
    have c1 := B.out.c 1 rfl
    have c2 := B.out.c 2 rfl
    have c3 := B.out.c 3 rfl
    have c4 := B.out.c 4 rfl
    unfold GivesS
    clear hG
    go_enter Tryd.func12, Tryd.ntmps12
    go_upto_region 1 with fail
    generalize w.alloc (.cells #[.int .i64 code, .int .i64 case, .int .i64 v, .bool ok, .int .i64 n] 27) = w1 at B T G c0 c1 c2 c3 c4 ⊢
    obtain ⟨bx, hbx⟩ : ∃ b, w.heap.size = b := ⟨_, rfl⟩
    rw [hbx] at B c0 c1 c2 c3 c4 ⊢
    clear hbx
    obtain ⟨N1, h_N1⟩ : ∃ S, bs (numT code) = S := ⟨_, rfl⟩
    have CN := Lib.hid (fun w hG => itoa_any code w hc hG)
    unfold GivesS at CN
    rw [h_N1] at CN
    have hl := numT_wide hc
    obtain ⟨S1, h_S1⟩ : ∃ S, bs ([99,111,100,101,32] ++ numT code) = S := ⟨_, rfl⟩
    have f1 : ∀ w, (Op.stringOp BinOp.add ⟨#[99,111,100,101,32]⟩ N1).run Tryd.prog w = .ok (.string S1) w := fun w => by
      subst h_N1
      subst h_S1
      exact add_text ([99,111,100,101,32]) (numT code) (by first | (simp; done) | (simp; omega)) w
    have HS := Lib.hid h_S1
    clear h_S1 h_N1 hl hc hk hv hn
    go_wp2_with fail
    refine (CN.out _ G.out).mono ?_
    rintro e w3 ⟨rfl, t3⟩
    have B := Lib.hid (B.out.new t3)
    have T := Lib.hid (T.out.trans t3)
    have G := Lib.hid (G.out.new t3)
    clear t3 c0 c1 c2 c3 c4
    have c0 := B.out.c 0 rfl
    have c1 := B.out.c 1 rfl
    have c2 := B.out.c 2 rfl
    have c3 := B.out.c 3 rfl
    have c4 := B.out.c 4 rfl
    go_wp2_with fail
    go_ret
    exact ⟨by unfold resT; rw [if_pos (by omega), ← HS.out]; rfl, T.out⟩
  · have _u := True.intro
    have B : Hid (Blk (w.alloc (.cells #[.int .i64 code, .int .i64 case, .int .i64 v, .bool ok, .int .i64 n] 27)) w.heap.size 27 [.int .i64 code, .int .i64 case, .int .i64 v, .bool ok, .int .i64 n]) := Lib.hid (blk_new w _ 27)
    have T := Lib.hid ((Turn.refl (fun _ => False) w).alloc (.cells #[.int .i64 code, .int .i64 case, .int .i64 v, .bool ok, .int .i64 n] 27))
    have G := Lib.hid (hG.new T.out)
    have c0 := B.out.c 0 rfl
    have c1 := B.out.c 1 rfl
    have c2 := B.out.c 2 rfl
    have c3 := B.out.c 3 rfl
    have c4 := B.out.c 4 rfl
    unfold GivesS
    clear hG
    go_enter Tryd.func12, Tryd.ntmps12
    go_upto_region 1 with fail
    generalize w.alloc (.cells #[.int .i64 code, .int .i64 case, .int .i64 v, .bool ok, .int .i64 n] 27) = w1 at B T G c0 c1 c2 c3 c4 ⊢
    obtain ⟨bx, hbx⟩ : ∃ b, w.heap.size = b := ⟨_, rfl⟩
    rw [hbx] at B c0 c1 c2 c3 c4 ⊢
    clear hbx
    obtain ⟨N1, h_N1⟩ : ∃ S, bs (numT code) = S := ⟨_, rfl⟩
    have CN := Lib.hid (fun w hG => itoa_any code w hc hG)
    unfold GivesS at CN
    rw [h_N1] at CN
    have hl := numT_wide hc
    obtain ⟨S1, h_S1⟩ : ∃ S, bs ([99,111,100,101,32] ++ numT code) = S := ⟨_, rfl⟩
    have f1 : ∀ w, (Op.stringOp BinOp.add ⟨#[99,111,100,101,32]⟩ N1).run Tryd.prog w = .ok (.string S1) w := fun w => by
      subst h_N1
      subst h_S1
      exact add_text ([99,111,100,101,32]) (numT code) (by first | (simp; done) | (simp; omega)) w
    have HS := Lib.hid h_S1
    clear h_S1 h_N1 hl hc hk hv hn
    go_wp2_with fail
    refine (CN.out _ G.out).mono ?_
    rintro e w3 ⟨rfl, t3⟩
    have B := Lib.hid (B.out.new t3)
    have T := Lib.hid (T.out.trans t3)
    have G := Lib.hid (G.out.new t3)
    clear t3 c0 c1 c2 c3 c4
    have c0 := B.out.c 0 rfl
    have c1 := B.out.c 1 rfl
    have c2 := B.out.c 2 rfl
    have c3 := B.out.c 3 rfl
    have c4 := B.out.c 4 rfl
    go_wp2_with fail
    go_ret
    exact ⟨by unfold resT; rw [if_pos (by omega), ← HS.out]; rfl, T.out⟩
  · by_cases hne : case = -1
    · subst hne
      cases ok
      · have _u := True.intro
        obtain ⟨H0, h_H0⟩ : ∃ S, bs [100,111,110,101] = S := ⟨_, rfl⟩
        have B : Hid (Blk (w.alloc (.cells #[.int .i64 1, .int .i64 (-1), .int .i64 v, .bool false, .int .i64 n] 27)) w.heap.size 27 [.int .i64 1, .int .i64 (-1), .int .i64 v, .bool false, .int .i64 n]) := Lib.hid (blk_new w _ 27)
        have T := Lib.hid ((Turn.refl (fun _ => False) w).alloc (.cells #[.int .i64 1, .int .i64 (-1), .int .i64 v, .bool false, .int .i64 n] 27))
        have G := Lib.hid (hG.new T.out)
        have c0 := B.out.c 0 rfl
        have c1 := B.out.c 1 rfl
        have c2 := B.out.c 2 rfl
        have c3 := B.out.c 3 rfl
        have c4 := B.out.c 4 rfl
        unfold GivesS
        clear hG
        go_enter Tryd.func12, Tryd.ntmps12
        go_upto_region 1 with fail
        generalize w.alloc (.cells #[.int .i64 1, .int .i64 (-1), .int .i64 v, .bool false, .int .i64 n] 27) = w1 at B T G c0 c1 c2 c3 c4 ⊢
        obtain ⟨bx, hbx⟩ : ∃ b, w.heap.size = b := ⟨_, rfl⟩
        rw [hbx] at B c0 c1 c2 c3 c4 ⊢
        clear hbx
        have cw : w1.cell? ⟨0, 1, none⟩ = some (.string H0) := (h_H0 ▸ G.out.codes 1 _ rfl :)
        obtain ⟨N2, h_N2⟩ : ∃ S, bs (32 :: numT v) = S := ⟨_, rfl⟩
        have CV := Lib.hid (fun w hG => number_any (v) w hv hG)
        unfold GivesS at CV
        rw [h_N2] at CV
        obtain ⟨N3, h_N3⟩ : ∃ S, bs (32 :: numT n) = S := ⟨_, rfl⟩
        have CN := Lib.hid (fun w hG => number_any (n) w hn hG)
        unfold GivesS at CN
        rw [h_N3] at CN
        have hl2 := numT_wide hv
        have hl3 := numT_wide hn
        have h_SX := h_H0
        clear h_H0
        obtain ⟨S5, h_S5⟩ : ∃ S, bs ([100,111,110,101] ++ (32 :: numT v)) = S := ⟨_, rfl⟩
        have g1 : ∀ w, (Op.stringOp BinOp.add H0 N2).run Tryd.prog w = .ok (.string S5) w := fun w => by
          subst h_SX h_N2
          subst h_S5
          exact add_text ([100,111,110,101]) ((32 :: numT v)) (by first | (simp; done) | (simp; omega)) w
        obtain ⟨S6, h_S6⟩ : ∃ S, bs (([100,111,110,101] ++ (32 :: numT v)) ++ [32,99,108,111,115,101,100]) = S := ⟨_, rfl⟩
        have g2 : ∀ w, (Op.stringOp BinOp.add S5 ⟨#[32,99,108,111,115,101,100]⟩).run Tryd.prog w = .ok (.string S6) w := fun w => by
          subst h_S5
          subst h_S6
          exact add_text (([100,111,110,101] ++ (32 :: numT v))) ([32,99,108,111,115,101,100]) (by first | (simp; done) | (simp; omega)) w
        obtain ⟨S7, h_S7⟩ : ∃ S, bs ((([100,111,110,101] ++ (32 :: numT v)) ++ [32,99,108,111,115,101,100]) ++ (32 :: numT n)) = S := ⟨_, rfl⟩
        have g3 : ∀ w, (Op.stringOp BinOp.add S6 N3).run Tryd.prog w = .ok (.string S7) w := fun w => by
          subst h_S6 h_N3
          subst h_S7
          exact add_text ((([100,111,110,101] ++ (32 :: numT v)) ++ [32,99,108,111,115,101,100])) ((32 :: numT n)) (by first | (simp; done) | (simp; omega)) w
        have HS := Lib.hid h_S7
        clear h_S5 h_S6 h_S7 h_SX h_N2 h_N3 hl2 hl3 hc hk hv hn
        go_wp2_with fail
        refine (CV.out _ G.out).mono ?_
        rintro e w3 ⟨rfl, t3⟩
        have B := Lib.hid (B.out.new t3)
        have T := Lib.hid (T.out.trans t3)
        have G := Lib.hid (G.out.new t3)
        clear t3 c0 c1 c2 c3 c4
        have c0 := B.out.c 0 rfl
        have c1 := B.out.c 1 rfl
        have c2 := B.out.c 2 rfl
        have c3 := B.out.c 3 rfl
        have c4 := B.out.c 4 rfl
        go_wp2_with fail
        refine (CN.out _ G.out).mono ?_
        rintro e w3 ⟨rfl, t3⟩
        have B := Lib.hid (B.out.new t3)
        have T := Lib.hid (T.out.trans t3)
        have G := Lib.hid (G.out.new t3)
        clear t3 c0 c1 c2 c3 c4
        have c0 := B.out.c 0 rfl
        have c1 := B.out.c 1 rfl
        have c2 := B.out.c 2 rfl
        have c3 := B.out.c 3 rfl
        have c4 := B.out.c 4 rfl
        go_wp2_with fail
        go_ret
        exact ⟨by rw [← HS.out]; simp [resT, resCase], T.out⟩
      · have _u := True.intro
        obtain ⟨H0, h_H0⟩ : ∃ S, bs [100,111,110,101] = S := ⟨_, rfl⟩
        have B : Hid (Blk (w.alloc (.cells #[.int .i64 1, .int .i64 (-1), .int .i64 v, .bool true, .int .i64 n] 27)) w.heap.size 27 [.int .i64 1, .int .i64 (-1), .int .i64 v, .bool true, .int .i64 n]) := Lib.hid (blk_new w _ 27)
        have T := Lib.hid ((Turn.refl (fun _ => False) w).alloc (.cells #[.int .i64 1, .int .i64 (-1), .int .i64 v, .bool true, .int .i64 n] 27))
        have G := Lib.hid (hG.new T.out)
        have c0 := B.out.c 0 rfl
        have c1 := B.out.c 1 rfl
        have c2 := B.out.c 2 rfl
        have c3 := B.out.c 3 rfl
        have c4 := B.out.c 4 rfl
        unfold GivesS
        clear hG
        go_enter Tryd.func12, Tryd.ntmps12
        go_upto_region 1 with fail
        generalize w.alloc (.cells #[.int .i64 1, .int .i64 (-1), .int .i64 v, .bool true, .int .i64 n] 27) = w1 at B T G c0 c1 c2 c3 c4 ⊢
        obtain ⟨bx, hbx⟩ : ∃ b, w.heap.size = b := ⟨_, rfl⟩
        rw [hbx] at B c0 c1 c2 c3 c4 ⊢
        clear hbx
        have cw : w1.cell? ⟨0, 1, none⟩ = some (.string H0) := (h_H0 ▸ G.out.codes 1 _ rfl :)
        obtain ⟨N2, h_N2⟩ : ∃ S, bs (32 :: numT v) = S := ⟨_, rfl⟩
        have CV := Lib.hid (fun w hG => number_any (v) w hv hG)
        unfold GivesS at CV
        rw [h_N2] at CV
        obtain ⟨N3, h_N3⟩ : ∃ S, bs (32 :: numT n) = S := ⟨_, rfl⟩
        have CN := Lib.hid (fun w hG => number_any (n) w hn hG)
        unfold GivesS at CN
        rw [h_N3] at CN
        have hl2 := numT_wide hv
        have hl3 := numT_wide hn
        have h_SX := h_H0
        clear h_H0
        obtain ⟨S5, h_S5⟩ : ∃ S, bs ([100,111,110,101] ++ (32 :: numT v)) = S := ⟨_, rfl⟩
        have g1 : ∀ w, (Op.stringOp BinOp.add H0 N2).run Tryd.prog w = .ok (.string S5) w := fun w => by
          subst h_SX h_N2
          subst h_S5
          exact add_text ([100,111,110,101]) ((32 :: numT v)) (by first | (simp; done) | (simp; omega)) w
        obtain ⟨S6, h_S6⟩ : ∃ S, bs (([100,111,110,101] ++ (32 :: numT v)) ++ [32,111,107]) = S := ⟨_, rfl⟩
        have g2 : ∀ w, (Op.stringOp BinOp.add S5 ⟨#[32,111,107]⟩).run Tryd.prog w = .ok (.string S6) w := fun w => by
          subst h_S5
          subst h_S6
          exact add_text (([100,111,110,101] ++ (32 :: numT v))) ([32,111,107]) (by first | (simp; done) | (simp; omega)) w
        obtain ⟨S7, h_S7⟩ : ∃ S, bs ((([100,111,110,101] ++ (32 :: numT v)) ++ [32,111,107]) ++ (32 :: numT n)) = S := ⟨_, rfl⟩
        have g3 : ∀ w, (Op.stringOp BinOp.add S6 N3).run Tryd.prog w = .ok (.string S7) w := fun w => by
          subst h_S6 h_N3
          subst h_S7
          exact add_text ((([100,111,110,101] ++ (32 :: numT v)) ++ [32,111,107])) ((32 :: numT n)) (by first | (simp; done) | (simp; omega)) w
        have HS := Lib.hid h_S7
        clear h_S5 h_S6 h_S7 h_SX h_N2 h_N3 hl2 hl3 hc hk hv hn
        go_wp2_with fail
        refine (CV.out _ G.out).mono ?_
        rintro e w3 ⟨rfl, t3⟩
        have B := Lib.hid (B.out.new t3)
        have T := Lib.hid (T.out.trans t3)
        have G := Lib.hid (G.out.new t3)
        clear t3 c0 c1 c2 c3 c4
        have c0 := B.out.c 0 rfl
        have c1 := B.out.c 1 rfl
        have c2 := B.out.c 2 rfl
        have c3 := B.out.c 3 rfl
        have c4 := B.out.c 4 rfl
        go_wp2_with fail
        refine (CN.out _ G.out).mono ?_
        rintro e w3 ⟨rfl, t3⟩
        have B := Lib.hid (B.out.new t3)
        have T := Lib.hid (T.out.trans t3)
        have G := Lib.hid (G.out.new t3)
        clear t3 c0 c1 c2 c3 c4
        have c0 := B.out.c 0 rfl
        have c1 := B.out.c 1 rfl
        have c2 := B.out.c 2 rfl
        have c3 := B.out.c 3 rfl
        have c4 := B.out.c 4 rfl
        go_wp2_with fail
        go_ret
        exact ⟨by rw [← HS.out]; simp [resT, resCase], T.out⟩
    · cases ok
      · have _u := True.intro
        obtain ⟨H0, h_H0⟩ : ∃ S, bs [100,111,110,101] = S := ⟨_, rfl⟩
        have B : Hid (Blk (w.alloc (.cells #[.int .i64 1, .int .i64 case, .int .i64 v, .bool false, .int .i64 n] 27)) w.heap.size 27 [.int .i64 1, .int .i64 case, .int .i64 v, .bool false, .int .i64 n]) := Lib.hid (blk_new w _ 27)
        have T := Lib.hid ((Turn.refl (fun _ => False) w).alloc (.cells #[.int .i64 1, .int .i64 case, .int .i64 v, .bool false, .int .i64 n] 27))
        have G := Lib.hid (hG.new T.out)
        have c0 := B.out.c 0 rfl
        have c1 := B.out.c 1 rfl
        have c2 := B.out.c 2 rfl
        have c3 := B.out.c 3 rfl
        have c4 := B.out.c 4 rfl
        unfold GivesS
        clear hG
        go_enter Tryd.func12, Tryd.ntmps12
        go_upto_region 1 with fail
        generalize w.alloc (.cells #[.int .i64 1, .int .i64 case, .int .i64 v, .bool false, .int .i64 n] 27) = w1 at B T G c0 c1 c2 c3 c4 ⊢
        obtain ⟨bx, hbx⟩ : ∃ b, w.heap.size = b := ⟨_, rfl⟩
        rw [hbx] at B c0 c1 c2 c3 c4 ⊢
        clear hbx
        have cw : w1.cell? ⟨0, 1, none⟩ = some (.string H0) := (h_H0 ▸ G.out.codes 1 _ rfl :)
        obtain ⟨N2, h_N2⟩ : ∃ S, bs (32 :: numT v) = S := ⟨_, rfl⟩
        have CV := Lib.hid (fun w hG => number_any (v) w hv hG)
        unfold GivesS at CV
        rw [h_N2] at CV
        obtain ⟨N3, h_N3⟩ : ∃ S, bs (32 :: numT n) = S := ⟨_, rfl⟩
        have CN := Lib.hid (fun w hG => number_any (n) w hn hG)
        unfold GivesS at CN
        rw [h_N3] at CN
        have hl2 := numT_wide hv
        have hl3 := numT_wide hn
        obtain ⟨N1, h_N1⟩ : ∃ S, bs (32 :: numT case) = S := ⟨_, rfl⟩
        have CK := Lib.hid (fun w hG => number_any (case) w hk hG)
        unfold GivesS at CK
        rw [h_N1] at CK
        have hl1 := numT_wide hk
        obtain ⟨S1, h_S1⟩ : ∃ S, bs ([32,99,97,115,101] ++ (32 :: numT case)) = S := ⟨_, rfl⟩
        have f1 : ∀ w, (Op.stringOp BinOp.add ⟨#[32,99,97,115,101]⟩ N1).run Tryd.prog w = .ok (.string S1) w := fun w => by
          subst h_N1
          subst h_S1
          exact add_text ([32,99,97,115,101]) ((32 :: numT case)) (by first | (simp; done) | (simp; omega)) w
        obtain ⟨S2, h_S2⟩ : ∃ S, bs ([100,111,110,101] ++ ([32,99,97,115,101] ++ (32 :: numT case))) = S := ⟨_, rfl⟩
        have f2 : ∀ w, (Op.stringOp BinOp.add H0 S1).run Tryd.prog w = .ok (.string S2) w := fun w => by
          subst h_H0 h_S1
          subst h_S2
          exact add_text ([100,111,110,101]) (([32,99,97,115,101] ++ (32 :: numT case))) (by first | (simp; done) | (simp; omega)) w
        have h_SX := h_S2
        clear h_H0 h_S1 h_S2 h_N1
        obtain ⟨S5, h_S5⟩ : ∃ S, bs (([100,111,110,101] ++ ([32,99,97,115,101] ++ (32 :: numT case))) ++ (32 :: numT v)) = S := ⟨_, rfl⟩
        have g1 : ∀ w, (Op.stringOp BinOp.add S2 N2).run Tryd.prog w = .ok (.string S5) w := fun w => by
          subst h_SX h_N2
          subst h_S5
          exact add_text (([100,111,110,101] ++ ([32,99,97,115,101] ++ (32 :: numT case)))) ((32 :: numT v)) (by first | (simp; done) | (simp; omega)) w
        obtain ⟨S6, h_S6⟩ : ∃ S, bs ((([100,111,110,101] ++ ([32,99,97,115,101] ++ (32 :: numT case))) ++ (32 :: numT v)) ++ [32,99,108,111,115,101,100]) = S := ⟨_, rfl⟩
        have g2 : ∀ w, (Op.stringOp BinOp.add S5 ⟨#[32,99,108,111,115,101,100]⟩).run Tryd.prog w = .ok (.string S6) w := fun w => by
          subst h_S5
          subst h_S6
          exact add_text ((([100,111,110,101] ++ ([32,99,97,115,101] ++ (32 :: numT case))) ++ (32 :: numT v))) ([32,99,108,111,115,101,100]) (by first | (simp; done) | (simp; omega)) w
        obtain ⟨S7, h_S7⟩ : ∃ S, bs (((([100,111,110,101] ++ ([32,99,97,115,101] ++ (32 :: numT case))) ++ (32 :: numT v)) ++ [32,99,108,111,115,101,100]) ++ (32 :: numT n)) = S := ⟨_, rfl⟩
        have g3 : ∀ w, (Op.stringOp BinOp.add S6 N3).run Tryd.prog w = .ok (.string S7) w := fun w => by
          subst h_S6 h_N3
          subst h_S7
          exact add_text (((([100,111,110,101] ++ ([32,99,97,115,101] ++ (32 :: numT case))) ++ (32 :: numT v)) ++ [32,99,108,111,115,101,100])) ((32 :: numT n)) (by first | (simp; done) | (simp; omega)) w
        have HS := Lib.hid h_S7
        clear h_S5 h_S6 h_S7 h_SX h_N2 h_N3 hl2 hl3 hc hk hv hn
        clear hl1
        have hb : (case == -1) = false := by simpa using hne
        go_wp2_with fail
        refine (CK.out _ G.out).mono ?_
        rintro e w3 ⟨rfl, t3⟩
        have B := Lib.hid (B.out.new t3)
        have T := Lib.hid (T.out.trans t3)
        have G := Lib.hid (G.out.new t3)
        clear t3 c0 c1 c2 c3 c4
        have c0 := B.out.c 0 rfl
        have c1 := B.out.c 1 rfl
        have c2 := B.out.c 2 rfl
        have c3 := B.out.c 3 rfl
        have c4 := B.out.c 4 rfl
        go_wp2_with fail
        refine (CV.out _ G.out).mono ?_
        rintro e w3 ⟨rfl, t3⟩
        have B := Lib.hid (B.out.new t3)
        have T := Lib.hid (T.out.trans t3)
        have G := Lib.hid (G.out.new t3)
        clear t3 c0 c1 c2 c3 c4
        have c0 := B.out.c 0 rfl
        have c1 := B.out.c 1 rfl
        have c2 := B.out.c 2 rfl
        have c3 := B.out.c 3 rfl
        have c4 := B.out.c 4 rfl
        go_wp2_with fail
        refine (CN.out _ G.out).mono ?_
        rintro e w3 ⟨rfl, t3⟩
        have B := Lib.hid (B.out.new t3)
        have T := Lib.hid (T.out.trans t3)
        have G := Lib.hid (G.out.new t3)
        clear t3 c0 c1 c2 c3 c4
        have c0 := B.out.c 0 rfl
        have c1 := B.out.c 1 rfl
        have c2 := B.out.c 2 rfl
        have c3 := B.out.c 3 rfl
        have c4 := B.out.c 4 rfl
        go_wp2_with fail
        go_ret
        exact ⟨by rw [← HS.out]; simp [resT, resCase, hne], T.out⟩
      · have _u := True.intro
        obtain ⟨H0, h_H0⟩ : ∃ S, bs [100,111,110,101] = S := ⟨_, rfl⟩
        have B : Hid (Blk (w.alloc (.cells #[.int .i64 1, .int .i64 case, .int .i64 v, .bool true, .int .i64 n] 27)) w.heap.size 27 [.int .i64 1, .int .i64 case, .int .i64 v, .bool true, .int .i64 n]) := Lib.hid (blk_new w _ 27)
        have T := Lib.hid ((Turn.refl (fun _ => False) w).alloc (.cells #[.int .i64 1, .int .i64 case, .int .i64 v, .bool true, .int .i64 n] 27))
        have G := Lib.hid (hG.new T.out)
        have c0 := B.out.c 0 rfl
        have c1 := B.out.c 1 rfl
        have c2 := B.out.c 2 rfl
        have c3 := B.out.c 3 rfl
        have c4 := B.out.c 4 rfl
        unfold GivesS
        clear hG
        go_enter Tryd.func12, Tryd.ntmps12
        go_upto_region 1 with fail
        generalize w.alloc (.cells #[.int .i64 1, .int .i64 case, .int .i64 v, .bool true, .int .i64 n] 27) = w1 at B T G c0 c1 c2 c3 c4 ⊢
        obtain ⟨bx, hbx⟩ : ∃ b, w.heap.size = b := ⟨_, rfl⟩
        rw [hbx] at B c0 c1 c2 c3 c4 ⊢
        clear hbx
        have cw : w1.cell? ⟨0, 1, none⟩ = some (.string H0) := (h_H0 ▸ G.out.codes 1 _ rfl :)
        obtain ⟨N2, h_N2⟩ : ∃ S, bs (32 :: numT v) = S := ⟨_, rfl⟩
        have CV := Lib.hid (fun w hG => number_any (v) w hv hG)
        unfold GivesS at CV
        rw [h_N2] at CV
        obtain ⟨N3, h_N3⟩ : ∃ S, bs (32 :: numT n) = S := ⟨_, rfl⟩
        have CN := Lib.hid (fun w hG => number_any (n) w hn hG)
        unfold GivesS at CN
        rw [h_N3] at CN
        have hl2 := numT_wide hv
        have hl3 := numT_wide hn
        obtain ⟨N1, h_N1⟩ : ∃ S, bs (32 :: numT case) = S := ⟨_, rfl⟩
        have CK := Lib.hid (fun w hG => number_any (case) w hk hG)
        unfold GivesS at CK
        rw [h_N1] at CK
        have hl1 := numT_wide hk
        obtain ⟨S1, h_S1⟩ : ∃ S, bs ([32,99,97,115,101] ++ (32 :: numT case)) = S := ⟨_, rfl⟩
        have f1 : ∀ w, (Op.stringOp BinOp.add ⟨#[32,99,97,115,101]⟩ N1).run Tryd.prog w = .ok (.string S1) w := fun w => by
          subst h_N1
          subst h_S1
          exact add_text ([32,99,97,115,101]) ((32 :: numT case)) (by first | (simp; done) | (simp; omega)) w
        obtain ⟨S2, h_S2⟩ : ∃ S, bs ([100,111,110,101] ++ ([32,99,97,115,101] ++ (32 :: numT case))) = S := ⟨_, rfl⟩
        have f2 : ∀ w, (Op.stringOp BinOp.add H0 S1).run Tryd.prog w = .ok (.string S2) w := fun w => by
          subst h_H0 h_S1
          subst h_S2
          exact add_text ([100,111,110,101]) (([32,99,97,115,101] ++ (32 :: numT case))) (by first | (simp; done) | (simp; omega)) w
        have h_SX := h_S2
        clear h_H0 h_S1 h_S2 h_N1
        obtain ⟨S5, h_S5⟩ : ∃ S, bs (([100,111,110,101] ++ ([32,99,97,115,101] ++ (32 :: numT case))) ++ (32 :: numT v)) = S := ⟨_, rfl⟩
        have g1 : ∀ w, (Op.stringOp BinOp.add S2 N2).run Tryd.prog w = .ok (.string S5) w := fun w => by
          subst h_SX h_N2
          subst h_S5
          exact add_text (([100,111,110,101] ++ ([32,99,97,115,101] ++ (32 :: numT case)))) ((32 :: numT v)) (by first | (simp; done) | (simp; omega)) w
        obtain ⟨S6, h_S6⟩ : ∃ S, bs ((([100,111,110,101] ++ ([32,99,97,115,101] ++ (32 :: numT case))) ++ (32 :: numT v)) ++ [32,111,107]) = S := ⟨_, rfl⟩
        have g2 : ∀ w, (Op.stringOp BinOp.add S5 ⟨#[32,111,107]⟩).run Tryd.prog w = .ok (.string S6) w := fun w => by
          subst h_S5
          subst h_S6
          exact add_text ((([100,111,110,101] ++ ([32,99,97,115,101] ++ (32 :: numT case))) ++ (32 :: numT v))) ([32,111,107]) (by first | (simp; done) | (simp; omega)) w
        obtain ⟨S7, h_S7⟩ : ∃ S, bs (((([100,111,110,101] ++ ([32,99,97,115,101] ++ (32 :: numT case))) ++ (32 :: numT v)) ++ [32,111,107]) ++ (32 :: numT n)) = S := ⟨_, rfl⟩
        have g3 : ∀ w, (Op.stringOp BinOp.add S6 N3).run Tryd.prog w = .ok (.string S7) w := fun w => by
          subst h_S6 h_N3
          subst h_S7
          exact add_text (((([100,111,110,101] ++ ([32,99,97,115,101] ++ (32 :: numT case))) ++ (32 :: numT v)) ++ [32,111,107])) ((32 :: numT n)) (by first | (simp; done) | (simp; omega)) w
        have HS := Lib.hid h_S7
        clear h_S5 h_S6 h_S7 h_SX h_N2 h_N3 hl2 hl3 hc hk hv hn
        clear hl1
        have hb : (case == -1) = false := by simpa using hne
        go_wp2_with fail
        refine (CK.out _ G.out).mono ?_
        rintro e w3 ⟨rfl, t3⟩
        have B := Lib.hid (B.out.new t3)
        have T := Lib.hid (T.out.trans t3)
        have G := Lib.hid (G.out.new t3)
        clear t3 c0 c1 c2 c3 c4
        have c0 := B.out.c 0 rfl
        have c1 := B.out.c 1 rfl
        have c2 := B.out.c 2 rfl
        have c3 := B.out.c 3 rfl
        have c4 := B.out.c 4 rfl
        go_wp2_with fail
        refine (CV.out _ G.out).mono ?_
        rintro e w3 ⟨rfl, t3⟩
        have B := Lib.hid (B.out.new t3)
        have T := Lib.hid (T.out.trans t3)
        have G := Lib.hid (G.out.new t3)
        clear t3 c0 c1 c2 c3 c4
        have c0 := B.out.c 0 rfl
        have c1 := B.out.c 1 rfl
        have c2 := B.out.c 2 rfl
        have c3 := B.out.c 3 rfl
        have c4 := B.out.c 4 rfl
        go_wp2_with fail
        refine (CN.out _ G.out).mono ?_
        rintro e w3 ⟨rfl, t3⟩
        have B := Lib.hid (B.out.new t3)
        have T := Lib.hid (T.out.trans t3)
        have G := Lib.hid (G.out.new t3)
        clear t3 c0 c1 c2 c3 c4
        have c0 := B.out.c 0 rfl
        have c1 := B.out.c 1 rfl
        have c2 := B.out.c 2 rfl
        have c3 := B.out.c 3 rfl
        have c4 := B.out.c 4 rfl
        go_wp2_with fail
        go_ret
        exact ⟨by rw [← HS.out]; simp [resT, resCase, hne], T.out⟩
  · have _u := True.intro
    have B : Hid (Blk (w.alloc (.cells #[.int .i64 2, .int .i64 case, .int .i64 v, .bool ok, .int .i64 n] 27)) w.heap.size 27 [.int .i64 2, .int .i64 case, .int .i64 v, .bool ok, .int .i64 n]) := Lib.hid (blk_new w _ 27)
    have T := Lib.hid ((Turn.refl (fun _ => False) w).alloc (.cells #[.int .i64 2, .int .i64 case, .int .i64 v, .bool ok, .int .i64 n] 27))
    have G := Lib.hid (hG.new T.out)
    have c0 := B.out.c 0 rfl
    have c1 := B.out.c 1 rfl
    have c2 := B.out.c 2 rfl
    have c3 := B.out.c 3 rfl
    have c4 := B.out.c 4 rfl
    unfold GivesS
    clear hG
    go_enter Tryd.func12, Tryd.ntmps12
    go_upto_region 1 with fail
    generalize w.alloc (.cells #[.int .i64 2, .int .i64 case, .int .i64 v, .bool ok, .int .i64 n] 27) = w1 at B T G c0 c1 c2 c3 c4 ⊢
    obtain ⟨bx, hbx⟩ : ∃ b, w.heap.size = b := ⟨_, rfl⟩
    rw [hbx] at B c0 c1 c2 c3 c4 ⊢
    clear hbx
    have cw : w1.cell? ⟨0, 2, none⟩ = some (.string (bs [110,111])) := G.out.codes 2 _ rfl
    go_wp2_with fail
    go_ret
    exact ⟨by unfold resT resWord; rfl, T.out⟩
  · have _u := True.intro
    have B : Hid (Blk (w.alloc (.cells #[.int .i64 3, .int .i64 case, .int .i64 v, .bool ok, .int .i64 n] 27)) w.heap.size 27 [.int .i64 3, .int .i64 case, .int .i64 v, .bool ok, .int .i64 n]) := Lib.hid (blk_new w _ 27)
    have T := Lib.hid ((Turn.refl (fun _ => False) w).alloc (.cells #[.int .i64 3, .int .i64 case, .int .i64 v, .bool ok, .int .i64 n] 27))
    have G := Lib.hid (hG.new T.out)
    have c0 := B.out.c 0 rfl
    have c1 := B.out.c 1 rfl
    have c2 := B.out.c 2 rfl
    have c3 := B.out.c 3 rfl
    have c4 := B.out.c 4 rfl
    unfold GivesS
    clear hG
    go_enter Tryd.func12, Tryd.ntmps12
    go_upto_region 1 with fail
    generalize w.alloc (.cells #[.int .i64 3, .int .i64 case, .int .i64 v, .bool ok, .int .i64 n] 27) = w1 at B T G c0 c1 c2 c3 c4 ⊢
    obtain ⟨bx, hbx⟩ : ∃ b, w.heap.size = b := ⟨_, rfl⟩
    rw [hbx] at B c0 c1 c2 c3 c4 ⊢
    clear hbx
    have cw : w1.cell? ⟨0, 3, none⟩ = some (.string (bs [112,97,110,105,99,32,115,101,110,100])) := G.out.codes 3 _ rfl
    go_wp2_with fail
    go_ret
    exact ⟨by unfold resT resWord; rfl, T.out⟩
  · have _u := True.intro
    have B : Hid (Blk (w.alloc (.cells #[.int .i64 4, .int .i64 case, .int .i64 v, .bool ok, .int .i64 n] 27)) w.heap.size 27 [.int .i64 4, .int .i64 case, .int .i64 v, .bool ok, .int .i64 n]) := Lib.hid (blk_new w _ 27)
    have T := Lib.hid ((Turn.refl (fun _ => False) w).alloc (.cells #[.int .i64 4, .int .i64 case, .int .i64 v, .bool ok, .int .i64 n] 27))
    have G := Lib.hid (hG.new T.out)
    have c0 := B.out.c 0 rfl
    have c1 := B.out.c 1 rfl
    have c2 := B.out.c 2 rfl
    have c3 := B.out.c 3 rfl
    have c4 := B.out.c 4 rfl
    unfold GivesS
    clear hG
    go_enter Tryd.func12, Tryd.ntmps12
    go_upto_region 1 with fail
    generalize w.alloc (.cells #[.int .i64 4, .int .i64 case, .int .i64 v, .bool ok, .int .i64 n] 27) = w1 at B T G c0 c1 c2 c3 c4 ⊢
    obtain ⟨bx, hbx⟩ : ∃ b, w.heap.size = b := ⟨_, rfl⟩
    rw [hbx] at B c0 c1 c2 c3 c4 ⊢
    clear hbx
    have cw : w1.cell? ⟨0, 4, none⟩ = some (.string (bs [112,97,110,105,99,32,99,108,111,115,101])) := G.out.codes 4 _ rfl
    go_wp2_with fail
    go_ret
    exact ⟨by unfold resT resWord; rfl, T.out⟩
  · have _u := True.intro
    have B : Hid (Blk (w.alloc (.cells #[.int .i64 5, .int .i64 case, .int .i64 v, .bool ok, .int .i64 n] 27)) w.heap.size 27 [.int .i64 5, .int .i64 case, .int .i64 v, .bool ok, .int .i64 n]) := Lib.hid (blk_new w _ 27)
    have T := Lib.hid ((Turn.refl (fun _ => False) w).alloc (.cells #[.int .i64 5, .int .i64 case, .int .i64 v, .bool ok, .int .i64 n] 27))
    have G := Lib.hid (hG.new T.out)
    have c0 := B.out.c 0 rfl
    have c1 := B.out.c 1 rfl
    have c2 := B.out.c 2 rfl
    have c3 := B.out.c 3 rfl
    have c4 := B.out.c 4 rfl
    unfold GivesS
    clear hG
    go_enter Tryd.func12, Tryd.ntmps12
    go_upto_region 1 with fail
    generalize w.alloc (.cells #[.int .i64 5, .int .i64 case, .int .i64 v, .bool ok, .int .i64 n] 27) = w1 at B T G c0 c1 c2 c3 c4 ⊢
    obtain ⟨bx, hbx⟩ : ∃ b, w.heap.size = b := ⟨_, rfl⟩
    rw [hbx] at B c0 c1 c2 c3 c4 ⊢
    clear hbx
    have cw : w1.cell? ⟨0, 5, none⟩ = some (.string (bs [112,97,110,105,99,32,110,105,108])) := G.out.codes 5 _ rfl
    go_wp2_with fail
    go_ret
    exact ⟨by unfold resT resWord; rfl, T.out⟩
  · have _u := True.intro
    have B : Hid (Blk (w.alloc (.cells #[.int .i64 6, .int .i64 case, .int .i64 v, .bool ok, .int .i64 n] 27)) w.heap.size 27 [.int .i64 6, .int .i64 case, .int .i64 v, .bool ok, .int .i64 n]) := Lib.hid (blk_new w _ 27)
    have T := Lib.hid ((Turn.refl (fun _ => False) w).alloc (.cells #[.int .i64 6, .int .i64 case, .int .i64 v, .bool ok, .int .i64 n] 27))
    have G := Lib.hid (hG.new T.out)
    have c0 := B.out.c 0 rfl
    have c1 := B.out.c 1 rfl
    have c2 := B.out.c 2 rfl
    have c3 := B.out.c 3 rfl
    have c4 := B.out.c 4 rfl
    unfold GivesS
    clear hG
    go_enter Tryd.func12, Tryd.ntmps12
    go_upto_region 1 with fail
    generalize w.alloc (.cells #[.int .i64 6, .int .i64 case, .int .i64 v, .bool ok, .int .i64 n] 27) = w1 at B T G c0 c1 c2 c3 c4 ⊢
    obtain ⟨bx, hbx⟩ : ∃ b, w.heap.size = b := ⟨_, rfl⟩
    rw [hbx] at B c0 c1 c2 c3 c4 ⊢
    clear hbx
    have cw : w1.cell? ⟨0, 6, none⟩ = some (.string (bs [110,111,110,101])) := G.out.codes 6 _ rfl
    go_wp2_with fail
    go_ret
    exact ⟨by unfold resT resWord; rfl, T.out⟩
  · have _u := True.intro
    have B : Hid (Blk (w.alloc (.cells #[.int .i64 7, .int .i64 case, .int .i64 v, .bool ok, .int .i64 n] 27)) w.heap.size 27 [.int .i64 7, .int .i64 case, .int .i64 v, .bool ok, .int .i64 n]) := Lib.hid (blk_new w _ 27)
    have T := Lib.hid ((Turn.refl (fun _ => False) w).alloc (.cells #[.int .i64 7, .int .i64 case, .int .i64 v, .bool ok, .int .i64 n] 27))
    have G := Lib.hid (hG.new T.out)
    have c0 := B.out.c 0 rfl
    have c1 := B.out.c 1 rfl
    have c2 := B.out.c 2 rfl
    have c3 := B.out.c 3 rfl
    have c4 := B.out.c 4 rfl
    unfold GivesS
    clear hG
    go_enter Tryd.func12, Tryd.ntmps12
    go_upto_region 1 with fail
    generalize w.alloc (.cells #[.int .i64 7, .int .i64 case, .int .i64 v, .bool ok, .int .i64 n] 27) = w1 at B T G c0 c1 c2 c3 c4 ⊢
    obtain ⟨bx, hbx⟩ : ∃ b, w.heap.size = b := ⟨_, rfl⟩
    rw [hbx] at B c0 c1 c2 c3 c4 ⊢
    clear hbx
    have cw : w1.cell? ⟨0, 7, none⟩ = some (.string (bs [102,117,108,108])) := G.out.codes 7 _ rfl
    go_wp2_with fail
    go_ret
    exact ⟨by unfold resT resWord; rfl, T.out⟩
end Go.Proofs.YtfghabjpcjcllaaDoor
