/- Texts put together: CNum, CPlain, CCase. -/
import Derived.Test.YtfghabjpcjcllaaDoorCWld
import Derived.Test.YtfghabjpcjcllaaDoorOpW
/- The code's number, library calls as turns of the world. -/
namespace Go.Proofs.YtfghabjpcjcllaaDoor
open Go.RowKit
set_option linter.unusedVariables false

theorem grow_turn (w : World) (k : Nat) (os : Array Obj) : Turn (fun _ => False) w (Go.Sort.grow (w.drewN k) os) :=
  ⟨rfl, rfl, rfl, by simp [Go.Sort.grow], fun i hi _ => by
    show (w.heap ++ os)[i]? = _
    rw [Array.getElem?_append_left hi]⟩
theorem fmt_any (n : Int) (w : World) (hn : -9223372036854775808 ≤ n ∧ n ≤ 9223372036854775807) (hG : Gl0 w) : Calls Tryd.prog 47 #[.int .i64 n, .int .i64 10] w (GivesS w (numT n)) :=
  (Tryd.strconv_FormatInt_10 n hn.1 hn.2 w hG.tab).mono fun e w' ⟨h1, k, os, h2⟩ => ⟨h1, h2 ▸ grow_turn w k os⟩
theorem numT_20 {n : Int} (hn : -9223372036854775808 ≤ n ∧ n ≤ 9223372036854775807) : (numT n).length ≤ 20 := itoa_length n hn.1 hn.2

set_option maxRecDepth 100000 in
set_option maxHeartbeats 1000000 in
theorem number_any (n : Int) (w : World) (hn : -9223372036854775808 ≤ n ∧ n ≤ 9223372036854775807) (hG : Gl0 w) : Calls Tryd.prog 29 #[.int .i64 n] w (GivesS w (32 :: numT n)) := by
  have C := Lib.hid (fun w hG => fmt_any n w hn hG)
  have G := Lib.hid hG
  have hl := numT_20 hn
  obtain ⟨N, hN⟩ : ∃ S, bs (numT n) = S := ⟨_, rfl⟩
  obtain ⟨S, hS⟩ : ∃ S, bs (32 :: numT n) = S := ⟨_, rfl⟩
  have hadd : ∀ w, (Op.stringOp BinOp.add ⟨#[32]⟩ N).run Tryd.prog w = .ok (.string S) w := fun w => by
    subst hN hS
    exact add_text [32] (numT n) (by simp; omega) w
  unfold GivesS at C ⊢
  rw [hN] at C
  rw [hS]
  have HN := Lib.hid hN
  have HS := Lib.hid hS
  have HB := Lib.hid hn
  clear hN hS hl hG hn
  go_enter Tryd.func29, Tryd.ntmps29
  go_wp2_with fail
  refine (C.out _ G.out).mono ?_
  rintro e w1 ⟨rfl, t1⟩
  have T1 := Lib.hid t1
  clear t1
  go_wp2_with fail
  go_ret
  exact ⟨rfl, T1.out⟩
end Go.Proofs.YtfghabjpcjcllaaDoor
/- The code's words of an op without its cases and its else. -/
namespace Go.Proofs.YtfghabjpcjcllaaDoor
open Go.RowKit
set_option linter.unusedVariables false

/-- An op's words but for its cases and its else. -/
def plainT (o : Opr) : Tx := headT o.kind ++ (chT o ++ vT o)
def In8 (n : Int) : Prop := 0 ≤ n ∧ n ≤ 255
theorem In8.wide {n : Int} (h : In8 n) : -9223372036854775808 ≤ n ∧ n ≤ 9223372036854775807 := by unfold In8 at h; omega
theorem In8.len {n : Int} (h : In8 n) : (numT n).length ≤ 3 := numT_len (by unfold In8 at h; omega)

set_option maxRecDepth 100000 in
set_option maxHeartbeats 2000000 in
theorem plain_any (kind ch n v : Int) (L : List Cas) (els els' : Bool) (c : Value) (w : World) (hk : 1 ≤ kind ∧ kind ≤ 9) (hn : In8 n) (hc : In8 ch) (hv : In8 v) (hG : Gl0 w) :
    Calls Tryd.prog 22 #[.agg #[.int .i64 kind, .int .i64 ch, .int .i64 n, .int .i64 v, c, .bool els]] w (GivesS w (plainT ⟨kind, ch, n, v, L, els'⟩)) := by
  rcases (show kind = 1 ∨ kind = 2 ∨ kind = 3 ∨ kind = 4 ∨ kind = 5 ∨ kind = 6 ∨ kind = 7 ∨ kind = 8 ∨ kind = 9 by omega) with rfl | rfl | rfl | rfl | rfl | rfl | rfl | rfl | rfl
  · clear hk
    have B0 := Lib.hid (at6_new w 1 ch n v c els 25)
    have T0 := Lib.hid ((Turn.refl (fun _ => False) w).alloc (.cells #[.int .i64 1, .int .i64 ch, .int .i64 n, .int .i64 v, c, .bool els] 25))
    have G0 := Lib.hid (hG.new T0.out)
    obtain ⟨H0, h_H0⟩ : ∃ S, bs [109,97,107,101] = S := ⟨_, rfl⟩
    have NM := Lib.hid (fun (w : World) (hG : Gl0 w) => hG.names 1 _ rfl)
    rw [h_H0] at NM
    clear hG
    unfold GivesS
    go_enter Tryd.func22, Tryd.ntmps22
    obtain ⟨c0, c1, c2, c3, c4, c5⟩ := B0.out
    obtain ⟨N1, h_N1⟩ : ∃ S, bs (32 :: numT n) = S := ⟨_, rfl⟩
    have CN := Lib.hid (fun w hG => number_any n w (In8.wide hn) hG)
    unfold GivesS at CN
    rw [h_N1] at CN
    have hl1 := hn.len
    obtain ⟨S1, h_S1⟩ : ∃ S, bs ([109,97,107,101] ++ (32 :: numT n)) = S := ⟨_, rfl⟩
    have f1 : ∀ w, (Op.stringOp BinOp.add H0 N1).run Tryd.prog w = .ok (.string S1) w := fun w => by
      subst h_H0 h_N1
      subst h_S1
      exact add_text ([109,97,107,101]) ((32 :: numT n)) (by first | (simp; done) | (simp; omega)) w
    have HS := Lib.hid h_S1
    clear h_S1 h_H0 h_N1 hl1 hn hc hv
    go_wp2_with fail
    refine (CN.out _ G0.out).mono ?_
    rintro e w1 ⟨rfl, tn⟩
    have T1 := Lib.hid (T0.out.trans tn)
    have G1 := Lib.hid (G0.out.new tn)
    have B1 := Lib.hid (B0.out.turn tn id)
    have nm := NM.out _ G1.out
    clear tn c0 c1 c2 c3 c4 c5
    obtain ⟨c0, c1, c2, c3, c4, c5⟩ := B1.out
    go_wp2_with fail
    go_ret
    exact ⟨by rw [← HS.out]; simp [plainT, headT, headW, chT, vT, joinT, wMake, hasV], T1.out⟩
  · clear hk
    have B0 := Lib.hid (at6_new w 2 ch n v c els 25)
    have T0 := Lib.hid ((Turn.refl (fun _ => False) w).alloc (.cells #[.int .i64 2, .int .i64 ch, .int .i64 n, .int .i64 v, c, .bool els] 25))
    have G0 := Lib.hid (hG.new T0.out)
    obtain ⟨H0, h_H0⟩ : ∃ S, bs [115,101,110,100] = S := ⟨_, rfl⟩
    have NM := Lib.hid (fun (w : World) (hG : Gl0 w) => hG.names 2 _ rfl)
    rw [h_H0] at NM
    clear hG
    unfold GivesS
    go_enter Tryd.func22, Tryd.ntmps22
    obtain ⟨c0, c1, c2, c3, c4, c5⟩ := B0.out
    obtain ⟨N1, h_N1⟩ : ∃ S, bs (32 :: numT ch) = S := ⟨_, rfl⟩
    have CN := Lib.hid (fun w hG => number_any ch w (In8.wide hc) hG)
    unfold GivesS at CN
    rw [h_N1] at CN
    obtain ⟨N2, h_N2⟩ : ∃ S, bs (32 :: numT v) = S := ⟨_, rfl⟩
    have CV := Lib.hid (fun w hG => number_any v w (In8.wide hv) hG)
    unfold GivesS at CV
    rw [h_N2] at CV
    have hl1 := hc.len
    have hl2 := hv.len
    obtain ⟨S1, h_S1⟩ : ∃ S, bs ((32 :: numT ch) ++ (32 :: numT v)) = S := ⟨_, rfl⟩
    have f1 : ∀ w, (Op.stringOp BinOp.add N1 N2).run Tryd.prog w = .ok (.string S1) w := fun w => by
      subst h_N1 h_N2
      subst h_S1
      exact add_text ((32 :: numT ch)) ((32 :: numT v)) (by first | (simp; done) | (simp; omega)) w
    obtain ⟨S2, h_S2⟩ : ∃ S, bs ([115,101,110,100] ++ ((32 :: numT ch) ++ (32 :: numT v))) = S := ⟨_, rfl⟩
    have f2 : ∀ w, (Op.stringOp BinOp.add H0 S1).run Tryd.prog w = .ok (.string S2) w := fun w => by
      subst h_H0 h_S1
      subst h_S2
      exact add_text ([115,101,110,100]) (((32 :: numT ch) ++ (32 :: numT v))) (by first | (simp; done) | (simp; omega)) w
    have HS := Lib.hid h_S2
    clear h_S1 h_H0 h_N1 h_N2 h_S2 hl1 hl2 hn hc hv
    go_wp2_with fail
    refine (CV.out _ G0.out).mono ?_
    rintro e w1 ⟨rfl, tn⟩
    have T1 := Lib.hid (T0.out.trans tn)
    have G1 := Lib.hid (G0.out.new tn)
    have B1 := Lib.hid (B0.out.turn tn id)
    have nm := NM.out _ G1.out
    clear tn c0 c1 c2 c3 c4 c5
    obtain ⟨c0, c1, c2, c3, c4, c5⟩ := B1.out
    go_wp2_with fail
    refine (CN.out _ G1.out).mono ?_
    rintro e w2 ⟨rfl, tn⟩
    have T2 := Lib.hid (T1.out.trans tn)
    have G2 := Lib.hid (G1.out.new tn)
    have B2 := Lib.hid (B1.out.turn tn id)
    have nm := NM.out _ G2.out
    clear tn c0 c1 c2 c3 c4 c5
    obtain ⟨c0, c1, c2, c3, c4, c5⟩ := B2.out
    go_wp2_with fail
    go_ret
    exact ⟨by rw [← HS.out]; simp [plainT, headT, headW, chT, vT, joinT, wSend, hasV], T2.out⟩
  · clear hk
    have B0 := Lib.hid (at6_new w 3 ch n v c els 25)
    have T0 := Lib.hid ((Turn.refl (fun _ => False) w).alloc (.cells #[.int .i64 3, .int .i64 ch, .int .i64 n, .int .i64 v, c, .bool els] 25))
    have G0 := Lib.hid (hG.new T0.out)
    obtain ⟨H0, h_H0⟩ : ∃ S, bs [114,101,99,118] = S := ⟨_, rfl⟩
    have NM := Lib.hid (fun (w : World) (hG : Gl0 w) => hG.names 3 _ rfl)
    rw [h_H0] at NM
    clear hG
    unfold GivesS
    go_enter Tryd.func22, Tryd.ntmps22
    obtain ⟨c0, c1, c2, c3, c4, c5⟩ := B0.out
    obtain ⟨N1, h_N1⟩ : ∃ S, bs (32 :: numT ch) = S := ⟨_, rfl⟩
    have CN := Lib.hid (fun w hG => number_any ch w (In8.wide hc) hG)
    unfold GivesS at CN
    rw [h_N1] at CN
    have hl1 := hc.len
    obtain ⟨S1, h_S1⟩ : ∃ S, bs ((32 :: numT ch) ++ []) = S := ⟨_, rfl⟩
    have f1 : ∀ w, (Op.stringOp BinOp.add N1 ⟨#[]⟩).run Tryd.prog w = .ok (.string S1) w := fun w => by
      subst h_N1
      subst h_S1
      exact add_text ((32 :: numT ch)) ([]) (by first | (simp; done) | (simp; omega)) w
    obtain ⟨S2, h_S2⟩ : ∃ S, bs ([114,101,99,118] ++ ((32 :: numT ch) ++ [])) = S := ⟨_, rfl⟩
    have f2 : ∀ w, (Op.stringOp BinOp.add H0 S1).run Tryd.prog w = .ok (.string S2) w := fun w => by
      subst h_H0 h_S1
      subst h_S2
      exact add_text ([114,101,99,118]) (((32 :: numT ch) ++ [])) (by first | (simp; done) | (simp; omega)) w
    have HS := Lib.hid h_S2
    clear h_S1 h_H0 h_N1 h_S2 hl1 hn hc hv
    go_wp2_with fail
    refine (CN.out _ G0.out).mono ?_
    rintro e w1 ⟨rfl, tn⟩
    have T1 := Lib.hid (T0.out.trans tn)
    have G1 := Lib.hid (G0.out.new tn)
    have B1 := Lib.hid (B0.out.turn tn id)
    have nm := NM.out _ G1.out
    clear tn c0 c1 c2 c3 c4 c5
    obtain ⟨c0, c1, c2, c3, c4, c5⟩ := B1.out
    go_wp2_with fail
    go_ret
    exact ⟨by rw [← HS.out]; simp [plainT, headT, headW, chT, vT, joinT, wRecv, hasV], T1.out⟩
  · clear hk
    have B0 := Lib.hid (at6_new w 4 ch n v c els 25)
    have T0 := Lib.hid ((Turn.refl (fun _ => False) w).alloc (.cells #[.int .i64 4, .int .i64 ch, .int .i64 n, .int .i64 v, c, .bool els] 25))
    have G0 := Lib.hid (hG.new T0.out)
    obtain ⟨H0, h_H0⟩ : ∃ S, bs [116,114,121,32,115,101,110,100] = S := ⟨_, rfl⟩
    have NM := Lib.hid (fun (w : World) (hG : Gl0 w) => hG.names 4 _ rfl)
    rw [h_H0] at NM
    clear hG
    unfold GivesS
    go_enter Tryd.func22, Tryd.ntmps22
    obtain ⟨c0, c1, c2, c3, c4, c5⟩ := B0.out
    obtain ⟨N1, h_N1⟩ : ∃ S, bs (32 :: numT ch) = S := ⟨_, rfl⟩
    have CN := Lib.hid (fun w hG => number_any ch w (In8.wide hc) hG)
    unfold GivesS at CN
    rw [h_N1] at CN
    obtain ⟨N2, h_N2⟩ : ∃ S, bs (32 :: numT v) = S := ⟨_, rfl⟩
    have CV := Lib.hid (fun w hG => number_any v w (In8.wide hv) hG)
    unfold GivesS at CV
    rw [h_N2] at CV
    have hl1 := hc.len
    have hl2 := hv.len
    obtain ⟨S1, h_S1⟩ : ∃ S, bs ((32 :: numT ch) ++ (32 :: numT v)) = S := ⟨_, rfl⟩
    have f1 : ∀ w, (Op.stringOp BinOp.add N1 N2).run Tryd.prog w = .ok (.string S1) w := fun w => by
      subst h_N1 h_N2
      subst h_S1
      exact add_text ((32 :: numT ch)) ((32 :: numT v)) (by first | (simp; done) | (simp; omega)) w
    obtain ⟨S2, h_S2⟩ : ∃ S, bs ([116,114,121,32,115,101,110,100] ++ ((32 :: numT ch) ++ (32 :: numT v))) = S := ⟨_, rfl⟩
    have f2 : ∀ w, (Op.stringOp BinOp.add H0 S1).run Tryd.prog w = .ok (.string S2) w := fun w => by
      subst h_H0 h_S1
      subst h_S2
      exact add_text ([116,114,121,32,115,101,110,100]) (((32 :: numT ch) ++ (32 :: numT v))) (by first | (simp; done) | (simp; omega)) w
    have HS := Lib.hid h_S2
    clear h_S1 h_H0 h_N1 h_N2 h_S2 hl1 hl2 hn hc hv
    go_wp2_with fail
    refine (CV.out _ G0.out).mono ?_
    rintro e w1 ⟨rfl, tn⟩
    have T1 := Lib.hid (T0.out.trans tn)
    have G1 := Lib.hid (G0.out.new tn)
    have B1 := Lib.hid (B0.out.turn tn id)
    have nm := NM.out _ G1.out
    clear tn c0 c1 c2 c3 c4 c5
    obtain ⟨c0, c1, c2, c3, c4, c5⟩ := B1.out
    go_wp2_with fail
    refine (CN.out _ G1.out).mono ?_
    rintro e w2 ⟨rfl, tn⟩
    have T2 := Lib.hid (T1.out.trans tn)
    have G2 := Lib.hid (G1.out.new tn)
    have B2 := Lib.hid (B1.out.turn tn id)
    have nm := NM.out _ G2.out
    clear tn c0 c1 c2 c3 c4 c5
    obtain ⟨c0, c1, c2, c3, c4, c5⟩ := B2.out
    go_wp2_with fail
    go_ret
    exact ⟨by rw [← HS.out]; simp [plainT, headT, headW, chT, vT, joinT, wTry,wSend, hasV], T2.out⟩
  · clear hk
    have B0 := Lib.hid (at6_new w 5 ch n v c els 25)
    have T0 := Lib.hid ((Turn.refl (fun _ => False) w).alloc (.cells #[.int .i64 5, .int .i64 ch, .int .i64 n, .int .i64 v, c, .bool els] 25))
    have G0 := Lib.hid (hG.new T0.out)
    obtain ⟨H0, h_H0⟩ : ∃ S, bs [116,114,121,32,114,101,99,118] = S := ⟨_, rfl⟩
    have NM := Lib.hid (fun (w : World) (hG : Gl0 w) => hG.names 5 _ rfl)
    rw [h_H0] at NM
    clear hG
    unfold GivesS
    go_enter Tryd.func22, Tryd.ntmps22
    obtain ⟨c0, c1, c2, c3, c4, c5⟩ := B0.out
    obtain ⟨N1, h_N1⟩ : ∃ S, bs (32 :: numT ch) = S := ⟨_, rfl⟩
    have CN := Lib.hid (fun w hG => number_any ch w (In8.wide hc) hG)
    unfold GivesS at CN
    rw [h_N1] at CN
    have hl1 := hc.len
    obtain ⟨S1, h_S1⟩ : ∃ S, bs ((32 :: numT ch) ++ []) = S := ⟨_, rfl⟩
    have f1 : ∀ w, (Op.stringOp BinOp.add N1 ⟨#[]⟩).run Tryd.prog w = .ok (.string S1) w := fun w => by
      subst h_N1
      subst h_S1
      exact add_text ((32 :: numT ch)) ([]) (by first | (simp; done) | (simp; omega)) w
    obtain ⟨S2, h_S2⟩ : ∃ S, bs ([116,114,121,32,114,101,99,118] ++ ((32 :: numT ch) ++ [])) = S := ⟨_, rfl⟩
    have f2 : ∀ w, (Op.stringOp BinOp.add H0 S1).run Tryd.prog w = .ok (.string S2) w := fun w => by
      subst h_H0 h_S1
      subst h_S2
      exact add_text ([116,114,121,32,114,101,99,118]) (((32 :: numT ch) ++ [])) (by first | (simp; done) | (simp; omega)) w
    have HS := Lib.hid h_S2
    clear h_S1 h_H0 h_N1 h_S2 hl1 hn hc hv
    go_wp2_with fail
    refine (CN.out _ G0.out).mono ?_
    rintro e w1 ⟨rfl, tn⟩
    have T1 := Lib.hid (T0.out.trans tn)
    have G1 := Lib.hid (G0.out.new tn)
    have B1 := Lib.hid (B0.out.turn tn id)
    have nm := NM.out _ G1.out
    clear tn c0 c1 c2 c3 c4 c5
    obtain ⟨c0, c1, c2, c3, c4, c5⟩ := B1.out
    go_wp2_with fail
    go_ret
    exact ⟨by rw [← HS.out]; simp [plainT, headT, headW, chT, vT, joinT, wTry,wRecv, hasV], T1.out⟩
  · clear hk
    have B0 := Lib.hid (at6_new w 6 ch n v c els 25)
    have T0 := Lib.hid ((Turn.refl (fun _ => False) w).alloc (.cells #[.int .i64 6, .int .i64 ch, .int .i64 n, .int .i64 v, c, .bool els] 25))
    have G0 := Lib.hid (hG.new T0.out)
    obtain ⟨H0, h_H0⟩ : ∃ S, bs [99,108,111,115,101] = S := ⟨_, rfl⟩
    have NM := Lib.hid (fun (w : World) (hG : Gl0 w) => hG.names 6 _ rfl)
    rw [h_H0] at NM
    clear hG
    unfold GivesS
    go_enter Tryd.func22, Tryd.ntmps22
    obtain ⟨c0, c1, c2, c3, c4, c5⟩ := B0.out
    obtain ⟨N1, h_N1⟩ : ∃ S, bs (32 :: numT ch) = S := ⟨_, rfl⟩
    have CN := Lib.hid (fun w hG => number_any ch w (In8.wide hc) hG)
    unfold GivesS at CN
    rw [h_N1] at CN
    have hl1 := hc.len
    obtain ⟨S1, h_S1⟩ : ∃ S, bs ((32 :: numT ch) ++ []) = S := ⟨_, rfl⟩
    have f1 : ∀ w, (Op.stringOp BinOp.add N1 ⟨#[]⟩).run Tryd.prog w = .ok (.string S1) w := fun w => by
      subst h_N1
      subst h_S1
      exact add_text ((32 :: numT ch)) ([]) (by first | (simp; done) | (simp; omega)) w
    obtain ⟨S2, h_S2⟩ : ∃ S, bs ([99,108,111,115,101] ++ ((32 :: numT ch) ++ [])) = S := ⟨_, rfl⟩
    have f2 : ∀ w, (Op.stringOp BinOp.add H0 S1).run Tryd.prog w = .ok (.string S2) w := fun w => by
      subst h_H0 h_S1
      subst h_S2
      exact add_text ([99,108,111,115,101]) (((32 :: numT ch) ++ [])) (by first | (simp; done) | (simp; omega)) w
    have HS := Lib.hid h_S2
    clear h_S1 h_H0 h_N1 h_S2 hl1 hn hc hv
    go_wp2_with fail
    refine (CN.out _ G0.out).mono ?_
    rintro e w1 ⟨rfl, tn⟩
    have T1 := Lib.hid (T0.out.trans tn)
    have G1 := Lib.hid (G0.out.new tn)
    have B1 := Lib.hid (B0.out.turn tn id)
    have nm := NM.out _ G1.out
    clear tn c0 c1 c2 c3 c4 c5
    obtain ⟨c0, c1, c2, c3, c4, c5⟩ := B1.out
    go_wp2_with fail
    go_ret
    exact ⟨by rw [← HS.out]; simp [plainT, headT, headW, chT, vT, joinT, wClose, hasV], T1.out⟩
  · clear hk
    have B0 := Lib.hid (at6_new w 7 ch n v c els 25)
    have T0 := Lib.hid ((Turn.refl (fun _ => False) w).alloc (.cells #[.int .i64 7, .int .i64 ch, .int .i64 n, .int .i64 v, c, .bool els] 25))
    have G0 := Lib.hid (hG.new T0.out)
    obtain ⟨H0, h_H0⟩ : ∃ S, bs [108,101,110] = S := ⟨_, rfl⟩
    have NM := Lib.hid (fun (w : World) (hG : Gl0 w) => hG.names 7 _ rfl)
    rw [h_H0] at NM
    clear hG
    unfold GivesS
    go_enter Tryd.func22, Tryd.ntmps22
    obtain ⟨c0, c1, c2, c3, c4, c5⟩ := B0.out
    obtain ⟨N1, h_N1⟩ : ∃ S, bs (32 :: numT ch) = S := ⟨_, rfl⟩
    have CN := Lib.hid (fun w hG => number_any ch w (In8.wide hc) hG)
    unfold GivesS at CN
    rw [h_N1] at CN
    have hl1 := hc.len
    obtain ⟨S1, h_S1⟩ : ∃ S, bs ((32 :: numT ch) ++ []) = S := ⟨_, rfl⟩
    have f1 : ∀ w, (Op.stringOp BinOp.add N1 ⟨#[]⟩).run Tryd.prog w = .ok (.string S1) w := fun w => by
      subst h_N1
      subst h_S1
      exact add_text ((32 :: numT ch)) ([]) (by first | (simp; done) | (simp; omega)) w
    obtain ⟨S2, h_S2⟩ : ∃ S, bs ([108,101,110] ++ ((32 :: numT ch) ++ [])) = S := ⟨_, rfl⟩
    have f2 : ∀ w, (Op.stringOp BinOp.add H0 S1).run Tryd.prog w = .ok (.string S2) w := fun w => by
      subst h_H0 h_S1
      subst h_S2
      exact add_text ([108,101,110]) (((32 :: numT ch) ++ [])) (by first | (simp; done) | (simp; omega)) w
    have HS := Lib.hid h_S2
    clear h_S1 h_H0 h_N1 h_S2 hl1 hn hc hv
    go_wp2_with fail
    refine (CN.out _ G0.out).mono ?_
    rintro e w1 ⟨rfl, tn⟩
    have T1 := Lib.hid (T0.out.trans tn)
    have G1 := Lib.hid (G0.out.new tn)
    have B1 := Lib.hid (B0.out.turn tn id)
    have nm := NM.out _ G1.out
    clear tn c0 c1 c2 c3 c4 c5
    obtain ⟨c0, c1, c2, c3, c4, c5⟩ := B1.out
    go_wp2_with fail
    go_ret
    exact ⟨by rw [← HS.out]; simp [plainT, headT, headW, chT, vT, joinT, wLen, hasV], T1.out⟩
  · clear hk
    have B0 := Lib.hid (at6_new w 8 ch n v c els 25)
    have T0 := Lib.hid ((Turn.refl (fun _ => False) w).alloc (.cells #[.int .i64 8, .int .i64 ch, .int .i64 n, .int .i64 v, c, .bool els] 25))
    have G0 := Lib.hid (hG.new T0.out)
    obtain ⟨H0, h_H0⟩ : ∃ S, bs [99,97,112] = S := ⟨_, rfl⟩
    have NM := Lib.hid (fun (w : World) (hG : Gl0 w) => hG.names 8 _ rfl)
    rw [h_H0] at NM
    clear hG
    unfold GivesS
    go_enter Tryd.func22, Tryd.ntmps22
    obtain ⟨c0, c1, c2, c3, c4, c5⟩ := B0.out
    obtain ⟨N1, h_N1⟩ : ∃ S, bs (32 :: numT ch) = S := ⟨_, rfl⟩
    have CN := Lib.hid (fun w hG => number_any ch w (In8.wide hc) hG)
    unfold GivesS at CN
    rw [h_N1] at CN
    have hl1 := hc.len
    obtain ⟨S1, h_S1⟩ : ∃ S, bs ((32 :: numT ch) ++ []) = S := ⟨_, rfl⟩
    have f1 : ∀ w, (Op.stringOp BinOp.add N1 ⟨#[]⟩).run Tryd.prog w = .ok (.string S1) w := fun w => by
      subst h_N1
      subst h_S1
      exact add_text ((32 :: numT ch)) ([]) (by first | (simp; done) | (simp; omega)) w
    obtain ⟨S2, h_S2⟩ : ∃ S, bs ([99,97,112] ++ ((32 :: numT ch) ++ [])) = S := ⟨_, rfl⟩
    have f2 : ∀ w, (Op.stringOp BinOp.add H0 S1).run Tryd.prog w = .ok (.string S2) w := fun w => by
      subst h_H0 h_S1
      subst h_S2
      exact add_text ([99,97,112]) (((32 :: numT ch) ++ [])) (by first | (simp; done) | (simp; omega)) w
    have HS := Lib.hid h_S2
    clear h_S1 h_H0 h_N1 h_S2 hl1 hn hc hv
    go_wp2_with fail
    refine (CN.out _ G0.out).mono ?_
    rintro e w1 ⟨rfl, tn⟩
    have T1 := Lib.hid (T0.out.trans tn)
    have G1 := Lib.hid (G0.out.new tn)
    have B1 := Lib.hid (B0.out.turn tn id)
    have nm := NM.out _ G1.out
    clear tn c0 c1 c2 c3 c4 c5
    obtain ⟨c0, c1, c2, c3, c4, c5⟩ := B1.out
    go_wp2_with fail
    go_ret
    exact ⟨by rw [← HS.out]; simp [plainT, headT, headW, chT, vT, joinT, wCap, hasV], T1.out⟩
  · clear hk
    have B0 := Lib.hid (at6_new w 9 ch n v c els 25)
    have T0 := Lib.hid ((Turn.refl (fun _ => False) w).alloc (.cells #[.int .i64 9, .int .i64 ch, .int .i64 n, .int .i64 v, c, .bool els] 25))
    have G0 := Lib.hid (hG.new T0.out)
    obtain ⟨H0, h_H0⟩ : ∃ S, bs [115,101,108,101,99,116] = S := ⟨_, rfl⟩
    have NM := Lib.hid (fun (w : World) (hG : Gl0 w) => hG.names 9 _ rfl)
    rw [h_H0] at NM
    clear hG
    unfold GivesS
    go_enter Tryd.func22, Tryd.ntmps22
    obtain ⟨c0, c1, c2, c3, c4, c5⟩ := B0.out
    obtain ⟨S1, h_S1⟩ : ∃ S, bs ([115,101,108,101,99,116] ++ []) = S := ⟨_, rfl⟩
    have f1 : ∀ w, (Op.stringOp BinOp.add H0 ⟨#[]⟩).run Tryd.prog w = .ok (.string S1) w := fun w => by
      subst h_H0
      subst h_S1
      exact add_text ([115,101,108,101,99,116]) ([]) (by first | (simp; done) | (simp; omega)) w
    have HS := Lib.hid h_S1
    have nm := NM.out _ G0.out
    clear h_S1 h_H0 hn hc hv
    go_wp2_with fail
    go_ret
    exact ⟨by rw [← HS.out]; simp [plainT, headT, headW, chT, vT, joinT, wSelect, hasV], T0.out⟩
end Go.Proofs.YtfghabjpcjcllaaDoor
/- The code's words of a case. -/
namespace Go.Proofs.YtfghabjpcjcllaaDoor
open Go.RowKit
set_option linter.unusedVariables false

def caseP (c : Cas) : Tx := if c.send then plainT ⟨2, c.ch, 0, c.v, [], false⟩ else plainT ⟨3, c.ch, 0, c.v, [], false⟩
theorem caseT_is (c : Cas) : caseT c = [32, 124, 32] ++ caseP c := by
  obtain ⟨s, ch, v⟩ := c
  cases s <;> simp [caseT, caseP, plainT, headT, headW, chT, vT, joinT, wSend, wRecv, hasV]

set_option maxRecDepth 100000 in
set_option maxHeartbeats 1000000 in
theorem case_any (c : Cas) (w : World) (hc : In8 c.ch) (hv : In8 c.v) (hG : Gl0 w) : Calls Tryd.prog 23 #[c.val] w (GivesS w (caseP c)) := by
  obtain ⟨s, ch, v⟩ := c
  dsimp only at hc hv
  have h0 : In8 0 := by unfold In8; omega
  have A : Hid (Three (w.alloc (.cells #[.bool s, .int .i64 ch, .int .i64 v] 40)) w.heap.size s ch v) := Lib.hid (blk_new w _ 40)
  have T0 := Lib.hid ((Turn.refl (fun _ => False) w).alloc (.cells #[.bool s, .int .i64 ch, .int .i64 v] 40))
  have G0 := Lib.hid hG
  have C := Lib.hid (fun (kind : Int) (hk : kind = 2 ∨ kind = 3) (w : World) (hG : Gl0 w) => plain_any kind ch 0 v [] false false (.slice none 0 0) w (by omega) h0 hc hv hG)
  have c0 : (w.alloc (.cells #[.bool s, .int .i64 ch, .int .i64 v] 40)).cell? ⟨w.heap.size, 0, none⟩ = some (.bool s) := A.out.cells.1.1
  have c1 : (w.alloc (.cells #[.bool s, .int .i64 ch, .int .i64 v] 40)).cell? ⟨w.heap.size, 1, none⟩ = some (.int .i64 ch) := A.out.cells.1.2.1
  have c2 : (w.alloc (.cells #[.bool s, .int .i64 ch, .int .i64 v] 40)).cell? ⟨w.heap.size, 2, none⟩ = some (.int .i64 v) := A.out.cells.1.2.2
  unfold Cas.val GivesS caseP
  dsimp only
  clear hc hv h0 hG
  go_enter Tryd.func23, Tryd.ntmps23
  go_upto_region 2 with fail
  generalize hw1 : w.alloc (.cells #[.bool s, .int .i64 ch, .int .i64 v] 40) = w1 at *
  have Z : Hid (Six (w1.alloc (.cells #[.int .i64 3, .int .i64 ch, .int .i64 0, .int .i64 v, .slice none 0 0, .bool false] 25)) w1.heap.size 3 ch 0 v (.slice none 0 0) false) := Lib.hid (blk_new w1 _ 25)
  have T1 := Lib.hid (T0.out.alloc (.cells #[.int .i64 3, .int .i64 ch, .int .i64 0, .int .i64 v, .slice none 0 0, .bool false] 25))
  have A1 := Lib.hid (A.out.new ((Turn.refl (fun _ => False) w1).alloc (.cells #[.int .i64 3, .int .i64 ch, .int .i64 0, .int .i64 v, .slice none 0 0, .bool false] 25)))
  have hsz : w.heap.size + 1 = w1.heap.size := by rw [← hw1]; simp
  rw [hsz]
  have hsz' : w.heap.size ≤ w1.heap.size := by omega
  obtain ⟨b1, hb1⟩ : ∃ b, w1.heap.size = b := ⟨_, rfl⟩
  rw [hb1] at Z hsz' ⊢
  have SZ := Lib.hid hsz'
  obtain ⟨b0, hb0⟩ : ∃ b, w.heap.size = b := ⟨_, rfl⟩
  rw [hb0] at A1 ⊢
  generalize w1.alloc (.cells #[.int .i64 3, .int .i64 ch, .int .i64 0, .int .i64 v, .slice none 0 0, .bool false] 25) = w2 at Z T1 A1 ⊢
  clear hw1 hsz hsz' hb1 hb0 c0 c1 c2
  obtain ⟨⟨c0, _, _⟩, _⟩ := A1.out.cells
  obtain ⟨⟨d0, d1, d2, d3, d4, d5⟩, f0, _⟩ := Z.out.cells
  cases s
  · go_wp2_with fail
    refine (C.out 3 (Or.inr rfl) _ (G0.out.new T1.out)).mono ?_
    rintro e w3 ⟨rfl, t3⟩
    have T3 := Lib.hid (T1.out.trans t3)
    clear t3
    go_wp2_with fail
    go_ret
    exact ⟨rfl, T3.out⟩
  · go_upto_region 4 with fail
    have Z3 : Hid (Six (w2.setCell ⟨b1, 0, none⟩ (.int .i64 2)) b1 2 ch 0 v (.slice none 0 0) false) := Lib.hid (Blk.set Z.out 0 _)
    have T2 := Lib.hid (T1.out.setCell (p := ⟨b1, 0, none⟩) (Or.inr SZ.out) (.int .i64 2))
    generalize w2.setCell ⟨b1, 0, none⟩ (.int .i64 2) = w3 at Z3 T2 ⊢
    clear d0 d1 d2 d3 d4 d5 f0 c0
    obtain ⟨⟨d0, d1, d2, d3, d4, d5⟩, _⟩ := Z3.out.cells
    go_wp2_with fail
    refine (C.out 2 (Or.inl rfl) _ (G0.out.new T2.out)).mono ?_
    rintro e w4 ⟨rfl, t4⟩
    have T4 := Lib.hid (T2.out.trans t4)
    clear t4
    go_wp2_with fail
    go_ret
    exact ⟨rfl, T4.out⟩
end Go.Proofs.YtfghabjpcjcllaaDoor
