/- The document's words of an op. -/
import Derived.Test.YtfghabjpcjcllaaDoorMPure
import Derived.Test.YtfghabjpcjcllaaDoorDRightOp
import Derived.Test.YtfghabjpcjcllaaDoorMWords
import Derived.Test.YtfghabjpcjcllaaDoorDBlk
import Derived.Test.YtfghabjpcjcllaaDoorMGen
namespace Go.Proofs.YtfghabjpcjcllaaDoor
open Go.RowKit
set_option linter.unusedVariables false

/-- The table of the kinds' words. -/
abbrev tabC : Array Value := #[.string ⟨#[]⟩, .string ⟨#[109, 97, 107, 101]⟩, .string ⟨#[115, 101, 110, 100]⟩, .string ⟨#[114, 101, 99, 118]⟩, .string ⟨#[116, 114, 121, 32, 115, 101, 110, 100]⟩, .string ⟨#[116, 114, 121, 32, 114, 101, 99, 118]⟩, .string ⟨#[99, 108, 111, 115, 101]⟩, .string ⟨#[108, 101, 110]⟩, .string ⟨#[99, 97, 112]⟩, .string ⟨#[115, 101, 108, 101, 99, 116]⟩]
/-- What a function that answers a text gives. -/
def GivesS (w : World) (t : Tx) (e : Ending) (w' : World) : Prop := e = .returned (.string (bs t)) ∧ Turn (fun _ => False) w w'
theorem In3.wide {n : Int} (h : 0 ≤ n ∧ n ≤ 255) : -9223372036854775808 ≤ n ∧ n ≤ 9223372036854775807 := by omega

set_option maxRecDepth 100000 in
set_option maxHeartbeats 2000000 in
theorem ropt_any (r : OpV) (o : Opr) (w : World) (ho : ROp w r o) (hm : o.cases.length ≤ 1000000) : Calls Tryd.prog 11 #[r.val] w (GivesS w (opS o)) := by
  have HO := Lib.hid ho
  obtain ⟨b, hb⟩ : ∃ b, rightO o = b := ⟨_, rfl⟩
  have CR := Lib.hid (fun w (ho : ROp w r o) => rrightop_any r o b w ho hm hb)
  have hop : opS o = if b = true then opT o else [] := by unfold opS; rw [hb]
  rw [hop]
  have HB := Lib.hid hb
  obtain ⟨kind, ch, n, v, ⟨ao, len, cap⟩, els⟩ := r
  obtain ⟨kind', ch', n', v', L, els'⟩ := o
  obtain ⟨e1, e2, e3, e4, e5, hcs⟩ := ho
  dsimp only at e1 e2 e3 e4 e5 hcs hb hm
  subst e1 e2 e3 e4 e5
  have hlen : L.length = len := hcs.ok.len.symm
  have HL := Lib.hid hcs.has
  have HN := Lib.hid hlen
  dsimp only at HL
  rw [hlen] at hm
  clear hcs hop
  have B0 : Hid (At6 (w.alloc (.cells #[.int .i64 kind, .int .i64 ch, .int .i64 n, .int .i64 v, .slice ao len cap, .bool els] 25)) w.heap.size kind ch n v (.slice ao len cap) els) := Lib.hid (at6_new w kind ch n v _ els 25)
  have T0 := Lib.hid ((Turn.refl (fun _ => False) w).alloc (.cells #[.int .i64 kind, .int .i64 ch, .int .i64 n, .int .i64 v, .slice ao len cap, .bool els] 25))
  cases b
  · rw [if_neg (by decide)]
    unfold GivesS OpV.val Sl.val
    dsimp only
    clear hlen hb
    go_enter Tryd.func11, Tryd.ntmps11
    obtain ⟨c0, c1, c2, c3, c4, c5⟩ := B0.out
    go_upto_region 1 with fail
    go_wp2_with fail
    refine (CR.out _ (HO.out.new T0.out)).mono ?_
    rintro e w1 ⟨rfl, t1⟩
    have T1 := Lib.hid (T0.out.trans t1)
    clear t1 c0 c1 c2 c3 c4 c5
    go_wp2_with fail
    go_ret
    exact ⟨rfl, T1.out⟩
  · rw [if_pos rfl, opT_is]
    dsimp only
    have hf := rightO_has hb
    dsimp only at hf
    have HAL := Lib.hid (show L.all rightC = true from hf.2.2.2.2.2.2.2.2.2.2.2.2.2)
    rcases (show kind = 1 ∨ kind = 2 ∨ kind = 3 ∨ kind = 4 ∨ kind = 5 ∨ kind = 6 ∨ kind = 7 ∨ kind = 8 ∨ kind = 9 by omega) with rfl | rfl | rfl | rfl | rfl | rfl | rfl | rfl | rfl
    · have _u := True.intro
      have hno := hf.2.2.2.2.2.2.2.2.2.2.2.2.1.resolve_left (by decide)
      have hels : els = false := hno.1
      have hnil : L = [] := List.eq_nil_of_length_eq_zero hno.2
      clear hno
      have HELS := Lib.hid hels
      have HNIL := Lib.hid hnil
      clear hels hnil
      unfold GivesS OpV.val Sl.val
      dsimp only
      clear hlen hb
      go_enter Tryd.func11, Tryd.ntmps11
      obtain ⟨c0, c1, c2, c3, c4, c5⟩ := B0.out
      go_upto_region 1 with fail
      go_wp2_with fail
      refine (CR.out _ (HO.out.new T0.out)).mono ?_
      rintro e w1 ⟨rfl, t1⟩
      have T1 := Lib.hid (T0.out.trans t1)
      have B1 := Lib.hid (B0.out.turn t1 id)
      clear t1 c0 c1 c2 c3 c4 c5
      obtain ⟨bx, hbx⟩ : ∃ b, w.heap.size = b := ⟨_, rfl⟩
      rw [hbx] at B1 ⊢
      obtain ⟨c0, c1, c2, c3, c4, c5⟩ := B1.out
      have q0 : ∀ o, (w1.alloc o).cell? ⟨bx, 0, none⟩ = some (.int .i64 1) := fun o => ((Turn.refl (fun _ => False) w1).alloc o).cell id c0
      go_upto_region 4 with fail
      generalize hw2 : w1.alloc (.cells tabC 9) = w2 at ⊢
      have B2 : Hid (At6 w2 bx 1 ch n v (.slice ao len cap) els) := Lib.hid (hw2 ▸ B1.out.turn ((Turn.refl (fun _ => False) w1).alloc _) id)
      have T2 : Hid (Turn (fun _ => False) w w2) := Lib.hid (hw2 ▸ T1.out.alloc _)
      clear q0 c0 c1 c2 c3 c4 c5 hw2
      obtain ⟨c0, c1, c2, c3, c4, c5⟩ := B2.out
      have hl1 := numT_len (n := n) (by omega)
      obtain ⟨N1, h_N1⟩ : ∃ S, bs (numT n) = S := ⟨_, rfl⟩
      have CN := Lib.hid (fun w => rnum1_any w (n) (In3.wide (by omega)))
      rw [h_N1] at CN
      obtain ⟨S1, h_S1⟩ : ∃ S, bs ([109, 97, 107, 101] ++ [32]) = S := ⟨_, rfl⟩
      have f1 : ∀ w, (Op.stringOp BinOp.add ⟨#[109, 97, 107, 101]⟩ ⟨#[32]⟩).run Tryd.prog w = .ok (.string S1) w := fun w => by
        skip
        subst h_S1
        exact add_text ([109, 97, 107, 101]) ([32]) (by first | (simp; done) | (simp; omega)) w
      obtain ⟨S2, h_S2⟩ : ∃ S, bs (([109, 97, 107, 101] ++ [32]) ++ numT n) = S := ⟨_, rfl⟩
      have f2 : ∀ w, (Op.stringOp BinOp.add S1 N1).run Tryd.prog w = .ok (.string S2) w := fun w => by
        subst h_S1 h_N1
        subst h_S2
        exact add_text (([109, 97, 107, 101] ++ [32])) (numT n) (by first | (simp; done) | (simp; omega)) w
      have HS2 := Lib.hid h_S2
      clear h_S1 h_N1 h_S2 hl1
      go_upto_region 5 with fail
      go_wp2_with fail
      refine (CN.out _).mono ?_
      rintro e w3 ⟨rfl, t3⟩
      have T3 := Lib.hid (T2.out.trans t3)
      clear t3 c0 c1 c2 c3 c4 c5
      go_wp2_with fail
      go_ret
      refine ⟨?_, T3.out⟩
      rw [← HS2.out, HNIL.out, HELS.out]
      simp [headT, headW, chT, vT, elseT, joinT, wMake, hasV]
    · have _u := True.intro
      have hno := hf.2.2.2.2.2.2.2.2.2.2.2.2.1.resolve_left (by decide)
      have hels : els = false := hno.1
      have hnil : L = [] := List.eq_nil_of_length_eq_zero hno.2
      clear hno
      have HELS := Lib.hid hels
      have HNIL := Lib.hid hnil
      clear hels hnil
      obtain rfl : len = 0 := by rw [← hlen, HNIL.out]; rfl
      obtain rfl : els = false := HELS.out
      unfold GivesS OpV.val Sl.val
      dsimp only
      clear hlen hb
      go_enter Tryd.func11, Tryd.ntmps11
      obtain ⟨c0, c1, c2, c3, c4, c5⟩ := B0.out
      go_upto_region 1 with fail
      go_wp2_with fail
      refine (CR.out _ (HO.out.new T0.out)).mono ?_
      rintro e w1 ⟨rfl, t1⟩
      have T1 := Lib.hid (T0.out.trans t1)
      have B1 := Lib.hid (B0.out.turn t1 id)
      clear t1 c0 c1 c2 c3 c4 c5
      obtain ⟨bx, hbx⟩ : ∃ b, w.heap.size = b := ⟨_, rfl⟩
      rw [hbx] at B1 ⊢
      obtain ⟨c0, c1, c2, c3, c4, c5⟩ := B1.out
      have q0 : ∀ o, (w1.alloc o).cell? ⟨bx, 0, none⟩ = some (.int .i64 2) := fun o => ((Turn.refl (fun _ => False) w1).alloc o).cell id c0
      go_upto_region 4 with fail
      generalize hw2 : w1.alloc (.cells tabC 9) = w2 at ⊢
      have B2 : Hid (At6 w2 bx 2 ch n v (.slice ao 0 cap) false) := Lib.hid (hw2 ▸ B1.out.turn ((Turn.refl (fun _ => False) w1).alloc _) id)
      have T2 : Hid (Turn (fun _ => False) w w2) := Lib.hid (hw2 ▸ T1.out.alloc _)
      clear q0 c0 c1 c2 c3 c4 c5 hw2
      obtain ⟨c0, c1, c2, c3, c4, c5⟩ := B2.out
      have hl1 := numT_len (n := ch) (by omega)
      have hl2 := numT_len (n := v) (by omega)
      obtain ⟨N1, h_N1⟩ : ∃ S, bs (numT ch) = S := ⟨_, rfl⟩
      have CN := Lib.hid (fun w => rnum1_any w (ch) (In3.wide (by omega)))
      rw [h_N1] at CN
      obtain ⟨S1, h_S1⟩ : ∃ S, bs ([32] ++ numT ch) = S := ⟨_, rfl⟩
      have f1 : ∀ w, (Op.stringOp BinOp.add ⟨#[32]⟩ N1).run Tryd.prog w = .ok (.string S1) w := fun w => by
        subst h_N1
        subst h_S1
        exact add_text ([32]) (numT ch) (by first | (simp; done) | (simp; omega)) w
      obtain ⟨S2, h_S2⟩ : ∃ S, bs ([115,101,110,100] ++ ([32] ++ numT ch)) = S := ⟨_, rfl⟩
      have f2 : ∀ w, (Op.stringOp BinOp.add ⟨#[115,101,110,100]⟩ S1).run Tryd.prog w = .ok (.string S2) w := fun w => by
        subst h_S1
        subst h_S2
        exact add_text ([115,101,110,100]) (([32] ++ numT ch)) (by first | (simp; done) | (simp; omega)) w
      have HS2 := Lib.hid h_S2
      have bv := rhasv_any 2 true
      go_wp2_with fail
      refine (CN.out _).mono ?_
      rintro e w3 ⟨rfl, t3⟩
      have T3 := Lib.hid (T2.out.trans t3)
      have B3 := Lib.hid (B2.out.turn t3 id)
      clear t3 c0 c1 c2 c3 c4 c5
      obtain ⟨c0, c1, c2, c3, c4, c5⟩ := B3.out
      go_wp2_with fail
      refine (bv _ rfl).mono ?_
      rintro e w4 ⟨rfl, rfl⟩
      obtain ⟨N2, h_N2⟩ : ∃ S, bs (numT v) = S := ⟨_, rfl⟩
      have CV := Lib.hid (fun w => rnum_any w (v) (In3.wide (by omega)))
      rw [h_N2] at CV
      obtain ⟨S3, h_S3⟩ : ∃ S, bs ([32] ++ numT v) = S := ⟨_, rfl⟩
      have f3 : ∀ w, (Op.stringOp BinOp.add ⟨#[32]⟩ N2).run Tryd.prog w = .ok (.string S3) w := fun w => by
        subst h_N2
        subst h_S3
        exact add_text ([32]) (numT v) (by first | (simp; done) | (simp; omega)) w
      obtain ⟨S4, h_S4⟩ : ∃ S, bs (([115,101,110,100] ++ ([32] ++ numT ch)) ++ ([32] ++ numT v)) = S := ⟨_, rfl⟩
      have f4 : ∀ w, (Op.stringOp BinOp.add S2 S3).run Tryd.prog w = .ok (.string S4) w := fun w => by
        subst h_S3 h_S2
        subst h_S4
        exact add_text (([115,101,110,100] ++ ([32] ++ numT ch))) (([32] ++ numT v)) (by first | (simp; done) | (simp; omega)) w
      have HX := Lib.hid h_S4
      clear h_S1 h_S2 h_S3 h_S4 h_N1 h_N2 hl1 hl2
      go_wp2_with fail
      refine (CV.out _).mono ?_
      rintro e w5 ⟨rfl, t5⟩
      have T5 := Lib.hid (T3.out.trans t5)
      have B5 := Lib.hid (B3.out.turn t5 id)
      clear t5 c0 c1 c2 c3 c4 c5 f1 f2
      obtain ⟨c0, c1, c2, c3, c4, c5⟩ := B5.out
      have TT := T5
      obtain ⟨WW, hWW⟩ : ∃ x, x = w5 := ⟨_, rfl⟩
      rw [← hWW] at TT c0 c1 c2 c3 c4 c5 ⊢
      clear hWW
      go_upto_region 11 with fail
      go_loopw [3, 44] (fun s3 s44 wr => s44 = .int .i64 0 ∧ s3 = .string S4 ∧ wr = WW) (fun _ _ _ => 0)
      case atStart => exact ⟨rfl, rfl, rfl⟩
      case round =>
        obtain ⟨rfl, rfl, rfl⟩ := hrel
        go_wp2_with fail
        go_ret
        refine ⟨?_, TT.out⟩
        rw [← HX.out, HNIL.out]
        simp [headT, headW, chT, vT, elseT, joinT, wSend, hasV]
    · have _u := True.intro
      have hno := hf.2.2.2.2.2.2.2.2.2.2.2.2.1.resolve_left (by decide)
      have hels : els = false := hno.1
      have hnil : L = [] := List.eq_nil_of_length_eq_zero hno.2
      clear hno
      have HELS := Lib.hid hels
      have HNIL := Lib.hid hnil
      clear hels hnil
      obtain rfl : len = 0 := by rw [← hlen, HNIL.out]; rfl
      obtain rfl : els = false := HELS.out
      unfold GivesS OpV.val Sl.val
      dsimp only
      clear hlen hb
      go_enter Tryd.func11, Tryd.ntmps11
      obtain ⟨c0, c1, c2, c3, c4, c5⟩ := B0.out
      go_upto_region 1 with fail
      go_wp2_with fail
      refine (CR.out _ (HO.out.new T0.out)).mono ?_
      rintro e w1 ⟨rfl, t1⟩
      have T1 := Lib.hid (T0.out.trans t1)
      have B1 := Lib.hid (B0.out.turn t1 id)
      clear t1 c0 c1 c2 c3 c4 c5
      obtain ⟨bx, hbx⟩ : ∃ b, w.heap.size = b := ⟨_, rfl⟩
      rw [hbx] at B1 ⊢
      obtain ⟨c0, c1, c2, c3, c4, c5⟩ := B1.out
      have q0 : ∀ o, (w1.alloc o).cell? ⟨bx, 0, none⟩ = some (.int .i64 3) := fun o => ((Turn.refl (fun _ => False) w1).alloc o).cell id c0
      go_upto_region 4 with fail
      generalize hw2 : w1.alloc (.cells tabC 9) = w2 at ⊢
      have B2 : Hid (At6 w2 bx 3 ch n v (.slice ao 0 cap) false) := Lib.hid (hw2 ▸ B1.out.turn ((Turn.refl (fun _ => False) w1).alloc _) id)
      have T2 : Hid (Turn (fun _ => False) w w2) := Lib.hid (hw2 ▸ T1.out.alloc _)
      clear q0 c0 c1 c2 c3 c4 c5 hw2
      obtain ⟨c0, c1, c2, c3, c4, c5⟩ := B2.out
      have hl1 := numT_len (n := ch) (by omega)
      have hl2 := numT_len (n := v) (by omega)
      obtain ⟨N1, h_N1⟩ : ∃ S, bs (numT ch) = S := ⟨_, rfl⟩
      have CN := Lib.hid (fun w => rnum1_any w (ch) (In3.wide (by omega)))
      rw [h_N1] at CN
      obtain ⟨S1, h_S1⟩ : ∃ S, bs ([32] ++ numT ch) = S := ⟨_, rfl⟩
      have f1 : ∀ w, (Op.stringOp BinOp.add ⟨#[32]⟩ N1).run Tryd.prog w = .ok (.string S1) w := fun w => by
        subst h_N1
        subst h_S1
        exact add_text ([32]) (numT ch) (by first | (simp; done) | (simp; omega)) w
      obtain ⟨S2, h_S2⟩ : ∃ S, bs ([114,101,99,118] ++ ([32] ++ numT ch)) = S := ⟨_, rfl⟩
      have f2 : ∀ w, (Op.stringOp BinOp.add ⟨#[114,101,99,118]⟩ S1).run Tryd.prog w = .ok (.string S2) w := fun w => by
        subst h_S1
        subst h_S2
        exact add_text ([114,101,99,118]) (([32] ++ numT ch)) (by first | (simp; done) | (simp; omega)) w
      have HS2 := Lib.hid h_S2
      have bv := rhasv_any 3 false
      go_wp2_with fail
      refine (CN.out _).mono ?_
      rintro e w3 ⟨rfl, t3⟩
      have T3 := Lib.hid (T2.out.trans t3)
      have B3 := Lib.hid (B2.out.turn t3 id)
      clear t3 c0 c1 c2 c3 c4 c5
      obtain ⟨c0, c1, c2, c3, c4, c5⟩ := B3.out
      go_wp2_with fail
      refine (bv _ rfl).mono ?_
      rintro e w4 ⟨rfl, rfl⟩
      have HX := HS2
      clear h_S1 h_S2 h_N1 hl1 hl2
      have TT := T3
      obtain ⟨WW, hWW⟩ : ∃ x, x = w3 := ⟨_, rfl⟩
      rw [← hWW] at TT c0 c1 c2 c3 c4 c5 ⊢
      clear hWW
      go_upto_region 11 with fail
      go_loopw [3, 44] (fun s3 s44 wr => s44 = .int .i64 0 ∧ s3 = .string S2 ∧ wr = WW) (fun _ _ _ => 0)
      case atStart => exact ⟨rfl, rfl, rfl⟩
      case round =>
        obtain ⟨rfl, rfl, rfl⟩ := hrel
        go_wp2_with fail
        go_ret
        refine ⟨?_, TT.out⟩
        rw [← HX.out, HNIL.out]
        simp [headT, headW, chT, vT, elseT, joinT, wRecv, hasV]
    · have _u := True.intro
      have hno := hf.2.2.2.2.2.2.2.2.2.2.2.2.1.resolve_left (by decide)
      have hels : els = false := hno.1
      have hnil : L = [] := List.eq_nil_of_length_eq_zero hno.2
      clear hno
      have HELS := Lib.hid hels
      have HNIL := Lib.hid hnil
      clear hels hnil
      obtain rfl : len = 0 := by rw [← hlen, HNIL.out]; rfl
      obtain rfl : els = false := HELS.out
      unfold GivesS OpV.val Sl.val
      dsimp only
      clear hlen hb
      go_enter Tryd.func11, Tryd.ntmps11
      obtain ⟨c0, c1, c2, c3, c4, c5⟩ := B0.out
      go_upto_region 1 with fail
      go_wp2_with fail
      refine (CR.out _ (HO.out.new T0.out)).mono ?_
      rintro e w1 ⟨rfl, t1⟩
      have T1 := Lib.hid (T0.out.trans t1)
      have B1 := Lib.hid (B0.out.turn t1 id)
      clear t1 c0 c1 c2 c3 c4 c5
      obtain ⟨bx, hbx⟩ : ∃ b, w.heap.size = b := ⟨_, rfl⟩
      rw [hbx] at B1 ⊢
      obtain ⟨c0, c1, c2, c3, c4, c5⟩ := B1.out
      have q0 : ∀ o, (w1.alloc o).cell? ⟨bx, 0, none⟩ = some (.int .i64 4) := fun o => ((Turn.refl (fun _ => False) w1).alloc o).cell id c0
      go_upto_region 4 with fail
      generalize hw2 : w1.alloc (.cells tabC 9) = w2 at ⊢
      have B2 : Hid (At6 w2 bx 4 ch n v (.slice ao 0 cap) false) := Lib.hid (hw2 ▸ B1.out.turn ((Turn.refl (fun _ => False) w1).alloc _) id)
      have T2 : Hid (Turn (fun _ => False) w w2) := Lib.hid (hw2 ▸ T1.out.alloc _)
      clear q0 c0 c1 c2 c3 c4 c5 hw2
      obtain ⟨c0, c1, c2, c3, c4, c5⟩ := B2.out
      have hl1 := numT_len (n := ch) (by omega)
      have hl2 := numT_len (n := v) (by omega)
      obtain ⟨N1, h_N1⟩ : ∃ S, bs (numT ch) = S := ⟨_, rfl⟩
      have CN := Lib.hid (fun w => rnum1_any w (ch) (In3.wide (by omega)))
      rw [h_N1] at CN
      obtain ⟨S1, h_S1⟩ : ∃ S, bs ([32] ++ numT ch) = S := ⟨_, rfl⟩
      have f1 : ∀ w, (Op.stringOp BinOp.add ⟨#[32]⟩ N1).run Tryd.prog w = .ok (.string S1) w := fun w => by
        subst h_N1
        subst h_S1
        exact add_text ([32]) (numT ch) (by first | (simp; done) | (simp; omega)) w
      obtain ⟨S2, h_S2⟩ : ∃ S, bs ([116,114,121,32,115,101,110,100] ++ ([32] ++ numT ch)) = S := ⟨_, rfl⟩
      have f2 : ∀ w, (Op.stringOp BinOp.add ⟨#[116,114,121,32,115,101,110,100]⟩ S1).run Tryd.prog w = .ok (.string S2) w := fun w => by
        subst h_S1
        subst h_S2
        exact add_text ([116,114,121,32,115,101,110,100]) (([32] ++ numT ch)) (by first | (simp; done) | (simp; omega)) w
      have HS2 := Lib.hid h_S2
      have bv := rhasv_any 4 true
      go_wp2_with fail
      refine (CN.out _).mono ?_
      rintro e w3 ⟨rfl, t3⟩
      have T3 := Lib.hid (T2.out.trans t3)
      have B3 := Lib.hid (B2.out.turn t3 id)
      clear t3 c0 c1 c2 c3 c4 c5
      obtain ⟨c0, c1, c2, c3, c4, c5⟩ := B3.out
      go_wp2_with fail
      refine (bv _ rfl).mono ?_
      rintro e w4 ⟨rfl, rfl⟩
      obtain ⟨N2, h_N2⟩ : ∃ S, bs (numT v) = S := ⟨_, rfl⟩
      have CV := Lib.hid (fun w => rnum_any w (v) (In3.wide (by omega)))
      rw [h_N2] at CV
      obtain ⟨S3, h_S3⟩ : ∃ S, bs ([32] ++ numT v) = S := ⟨_, rfl⟩
      have f3 : ∀ w, (Op.stringOp BinOp.add ⟨#[32]⟩ N2).run Tryd.prog w = .ok (.string S3) w := fun w => by
        subst h_N2
        subst h_S3
        exact add_text ([32]) (numT v) (by first | (simp; done) | (simp; omega)) w
      obtain ⟨S4, h_S4⟩ : ∃ S, bs (([116,114,121,32,115,101,110,100] ++ ([32] ++ numT ch)) ++ ([32] ++ numT v)) = S := ⟨_, rfl⟩
      have f4 : ∀ w, (Op.stringOp BinOp.add S2 S3).run Tryd.prog w = .ok (.string S4) w := fun w => by
        subst h_S3 h_S2
        subst h_S4
        exact add_text (([116,114,121,32,115,101,110,100] ++ ([32] ++ numT ch))) (([32] ++ numT v)) (by first | (simp; done) | (simp; omega)) w
      have HX := Lib.hid h_S4
      clear h_S1 h_S2 h_S3 h_S4 h_N1 h_N2 hl1 hl2
      go_wp2_with fail
      refine (CV.out _).mono ?_
      rintro e w5 ⟨rfl, t5⟩
      have T5 := Lib.hid (T3.out.trans t5)
      have B5 := Lib.hid (B3.out.turn t5 id)
      clear t5 c0 c1 c2 c3 c4 c5 f1 f2
      obtain ⟨c0, c1, c2, c3, c4, c5⟩ := B5.out
      have TT := T5
      obtain ⟨WW, hWW⟩ : ∃ x, x = w5 := ⟨_, rfl⟩
      rw [← hWW] at TT c0 c1 c2 c3 c4 c5 ⊢
      clear hWW
      go_upto_region 11 with fail
      go_loopw [3, 44] (fun s3 s44 wr => s44 = .int .i64 0 ∧ s3 = .string S4 ∧ wr = WW) (fun _ _ _ => 0)
      case atStart => exact ⟨rfl, rfl, rfl⟩
      case round =>
        obtain ⟨rfl, rfl, rfl⟩ := hrel
        go_wp2_with fail
        go_ret
        refine ⟨?_, TT.out⟩
        rw [← HX.out, HNIL.out]
        simp [headT, headW, chT, vT, elseT, joinT, wTry,wSend, hasV]
    · have _u := True.intro
      have hno := hf.2.2.2.2.2.2.2.2.2.2.2.2.1.resolve_left (by decide)
      have hels : els = false := hno.1
      have hnil : L = [] := List.eq_nil_of_length_eq_zero hno.2
      clear hno
      have HELS := Lib.hid hels
      have HNIL := Lib.hid hnil
      clear hels hnil
      obtain rfl : len = 0 := by rw [← hlen, HNIL.out]; rfl
      obtain rfl : els = false := HELS.out
      unfold GivesS OpV.val Sl.val
      dsimp only
      clear hlen hb
      go_enter Tryd.func11, Tryd.ntmps11
      obtain ⟨c0, c1, c2, c3, c4, c5⟩ := B0.out
      go_upto_region 1 with fail
      go_wp2_with fail
      refine (CR.out _ (HO.out.new T0.out)).mono ?_
      rintro e w1 ⟨rfl, t1⟩
      have T1 := Lib.hid (T0.out.trans t1)
      have B1 := Lib.hid (B0.out.turn t1 id)
      clear t1 c0 c1 c2 c3 c4 c5
      obtain ⟨bx, hbx⟩ : ∃ b, w.heap.size = b := ⟨_, rfl⟩
      rw [hbx] at B1 ⊢
      obtain ⟨c0, c1, c2, c3, c4, c5⟩ := B1.out
      have q0 : ∀ o, (w1.alloc o).cell? ⟨bx, 0, none⟩ = some (.int .i64 5) := fun o => ((Turn.refl (fun _ => False) w1).alloc o).cell id c0
      go_upto_region 4 with fail
      generalize hw2 : w1.alloc (.cells tabC 9) = w2 at ⊢
      have B2 : Hid (At6 w2 bx 5 ch n v (.slice ao 0 cap) false) := Lib.hid (hw2 ▸ B1.out.turn ((Turn.refl (fun _ => False) w1).alloc _) id)
      have T2 : Hid (Turn (fun _ => False) w w2) := Lib.hid (hw2 ▸ T1.out.alloc _)
      clear q0 c0 c1 c2 c3 c4 c5 hw2
      obtain ⟨c0, c1, c2, c3, c4, c5⟩ := B2.out
      have hl1 := numT_len (n := ch) (by omega)
      have hl2 := numT_len (n := v) (by omega)
      obtain ⟨N1, h_N1⟩ : ∃ S, bs (numT ch) = S := ⟨_, rfl⟩
      have CN := Lib.hid (fun w => rnum1_any w (ch) (In3.wide (by omega)))
      rw [h_N1] at CN
      obtain ⟨S1, h_S1⟩ : ∃ S, bs ([32] ++ numT ch) = S := ⟨_, rfl⟩
      have f1 : ∀ w, (Op.stringOp BinOp.add ⟨#[32]⟩ N1).run Tryd.prog w = .ok (.string S1) w := fun w => by
        subst h_N1
        subst h_S1
        exact add_text ([32]) (numT ch) (by first | (simp; done) | (simp; omega)) w
      obtain ⟨S2, h_S2⟩ : ∃ S, bs ([116,114,121,32,114,101,99,118] ++ ([32] ++ numT ch)) = S := ⟨_, rfl⟩
      have f2 : ∀ w, (Op.stringOp BinOp.add ⟨#[116,114,121,32,114,101,99,118]⟩ S1).run Tryd.prog w = .ok (.string S2) w := fun w => by
        subst h_S1
        subst h_S2
        exact add_text ([116,114,121,32,114,101,99,118]) (([32] ++ numT ch)) (by first | (simp; done) | (simp; omega)) w
      have HS2 := Lib.hid h_S2
      have bv := rhasv_any 5 false
      go_wp2_with fail
      refine (CN.out _).mono ?_
      rintro e w3 ⟨rfl, t3⟩
      have T3 := Lib.hid (T2.out.trans t3)
      have B3 := Lib.hid (B2.out.turn t3 id)
      clear t3 c0 c1 c2 c3 c4 c5
      obtain ⟨c0, c1, c2, c3, c4, c5⟩ := B3.out
      go_wp2_with fail
      refine (bv _ rfl).mono ?_
      rintro e w4 ⟨rfl, rfl⟩
      have HX := HS2
      clear h_S1 h_S2 h_N1 hl1 hl2
      have TT := T3
      obtain ⟨WW, hWW⟩ : ∃ x, x = w3 := ⟨_, rfl⟩
      rw [← hWW] at TT c0 c1 c2 c3 c4 c5 ⊢
      clear hWW
      go_upto_region 11 with fail
      go_loopw [3, 44] (fun s3 s44 wr => s44 = .int .i64 0 ∧ s3 = .string S2 ∧ wr = WW) (fun _ _ _ => 0)
      case atStart => exact ⟨rfl, rfl, rfl⟩
      case round =>
        obtain ⟨rfl, rfl, rfl⟩ := hrel
        go_wp2_with fail
        go_ret
        refine ⟨?_, TT.out⟩
        rw [← HX.out, HNIL.out]
        simp [headT, headW, chT, vT, elseT, joinT, wTry,wRecv, hasV]
    · have _u := True.intro
      have hno := hf.2.2.2.2.2.2.2.2.2.2.2.2.1.resolve_left (by decide)
      have hels : els = false := hno.1
      have hnil : L = [] := List.eq_nil_of_length_eq_zero hno.2
      clear hno
      have HELS := Lib.hid hels
      have HNIL := Lib.hid hnil
      clear hels hnil
      obtain rfl : len = 0 := by rw [← hlen, HNIL.out]; rfl
      obtain rfl : els = false := HELS.out
      unfold GivesS OpV.val Sl.val
      dsimp only
      clear hlen hb
      go_enter Tryd.func11, Tryd.ntmps11
      obtain ⟨c0, c1, c2, c3, c4, c5⟩ := B0.out
      go_upto_region 1 with fail
      go_wp2_with fail
      refine (CR.out _ (HO.out.new T0.out)).mono ?_
      rintro e w1 ⟨rfl, t1⟩
      have T1 := Lib.hid (T0.out.trans t1)
      have B1 := Lib.hid (B0.out.turn t1 id)
      clear t1 c0 c1 c2 c3 c4 c5
      obtain ⟨bx, hbx⟩ : ∃ b, w.heap.size = b := ⟨_, rfl⟩
      rw [hbx] at B1 ⊢
      obtain ⟨c0, c1, c2, c3, c4, c5⟩ := B1.out
      have q0 : ∀ o, (w1.alloc o).cell? ⟨bx, 0, none⟩ = some (.int .i64 6) := fun o => ((Turn.refl (fun _ => False) w1).alloc o).cell id c0
      go_upto_region 4 with fail
      generalize hw2 : w1.alloc (.cells tabC 9) = w2 at ⊢
      have B2 : Hid (At6 w2 bx 6 ch n v (.slice ao 0 cap) false) := Lib.hid (hw2 ▸ B1.out.turn ((Turn.refl (fun _ => False) w1).alloc _) id)
      have T2 : Hid (Turn (fun _ => False) w w2) := Lib.hid (hw2 ▸ T1.out.alloc _)
      clear q0 c0 c1 c2 c3 c4 c5 hw2
      obtain ⟨c0, c1, c2, c3, c4, c5⟩ := B2.out
      have hl1 := numT_len (n := ch) (by omega)
      have hl2 := numT_len (n := v) (by omega)
      obtain ⟨N1, h_N1⟩ : ∃ S, bs (numT ch) = S := ⟨_, rfl⟩
      have CN := Lib.hid (fun w => rnum1_any w (ch) (In3.wide (by omega)))
      rw [h_N1] at CN
      obtain ⟨S1, h_S1⟩ : ∃ S, bs ([32] ++ numT ch) = S := ⟨_, rfl⟩
      have f1 : ∀ w, (Op.stringOp BinOp.add ⟨#[32]⟩ N1).run Tryd.prog w = .ok (.string S1) w := fun w => by
        subst h_N1
        subst h_S1
        exact add_text ([32]) (numT ch) (by first | (simp; done) | (simp; omega)) w
      obtain ⟨S2, h_S2⟩ : ∃ S, bs ([99,108,111,115,101] ++ ([32] ++ numT ch)) = S := ⟨_, rfl⟩
      have f2 : ∀ w, (Op.stringOp BinOp.add ⟨#[99,108,111,115,101]⟩ S1).run Tryd.prog w = .ok (.string S2) w := fun w => by
        subst h_S1
        subst h_S2
        exact add_text ([99,108,111,115,101]) (([32] ++ numT ch)) (by first | (simp; done) | (simp; omega)) w
      have HS2 := Lib.hid h_S2
      have bv := rhasv_any 6 false
      go_wp2_with fail
      refine (CN.out _).mono ?_
      rintro e w3 ⟨rfl, t3⟩
      have T3 := Lib.hid (T2.out.trans t3)
      have B3 := Lib.hid (B2.out.turn t3 id)
      clear t3 c0 c1 c2 c3 c4 c5
      obtain ⟨c0, c1, c2, c3, c4, c5⟩ := B3.out
      go_wp2_with fail
      refine (bv _ rfl).mono ?_
      rintro e w4 ⟨rfl, rfl⟩
      have HX := HS2
      clear h_S1 h_S2 h_N1 hl1 hl2
      have TT := T3
      obtain ⟨WW, hWW⟩ : ∃ x, x = w3 := ⟨_, rfl⟩
      rw [← hWW] at TT c0 c1 c2 c3 c4 c5 ⊢
      clear hWW
      go_upto_region 11 with fail
      go_loopw [3, 44] (fun s3 s44 wr => s44 = .int .i64 0 ∧ s3 = .string S2 ∧ wr = WW) (fun _ _ _ => 0)
      case atStart => exact ⟨rfl, rfl, rfl⟩
      case round =>
        obtain ⟨rfl, rfl, rfl⟩ := hrel
        go_wp2_with fail
        go_ret
        refine ⟨?_, TT.out⟩
        rw [← HX.out, HNIL.out]
        simp [headT, headW, chT, vT, elseT, joinT, wClose, hasV]
    · have _u := True.intro
      have hno := hf.2.2.2.2.2.2.2.2.2.2.2.2.1.resolve_left (by decide)
      have hels : els = false := hno.1
      have hnil : L = [] := List.eq_nil_of_length_eq_zero hno.2
      clear hno
      have HELS := Lib.hid hels
      have HNIL := Lib.hid hnil
      clear hels hnil
      obtain rfl : len = 0 := by rw [← hlen, HNIL.out]; rfl
      obtain rfl : els = false := HELS.out
      unfold GivesS OpV.val Sl.val
      dsimp only
      clear hlen hb
      go_enter Tryd.func11, Tryd.ntmps11
      obtain ⟨c0, c1, c2, c3, c4, c5⟩ := B0.out
      go_upto_region 1 with fail
      go_wp2_with fail
      refine (CR.out _ (HO.out.new T0.out)).mono ?_
      rintro e w1 ⟨rfl, t1⟩
      have T1 := Lib.hid (T0.out.trans t1)
      have B1 := Lib.hid (B0.out.turn t1 id)
      clear t1 c0 c1 c2 c3 c4 c5
      obtain ⟨bx, hbx⟩ : ∃ b, w.heap.size = b := ⟨_, rfl⟩
      rw [hbx] at B1 ⊢
      obtain ⟨c0, c1, c2, c3, c4, c5⟩ := B1.out
      have q0 : ∀ o, (w1.alloc o).cell? ⟨bx, 0, none⟩ = some (.int .i64 7) := fun o => ((Turn.refl (fun _ => False) w1).alloc o).cell id c0
      go_upto_region 4 with fail
      generalize hw2 : w1.alloc (.cells tabC 9) = w2 at ⊢
      have B2 : Hid (At6 w2 bx 7 ch n v (.slice ao 0 cap) false) := Lib.hid (hw2 ▸ B1.out.turn ((Turn.refl (fun _ => False) w1).alloc _) id)
      have T2 : Hid (Turn (fun _ => False) w w2) := Lib.hid (hw2 ▸ T1.out.alloc _)
      clear q0 c0 c1 c2 c3 c4 c5 hw2
      obtain ⟨c0, c1, c2, c3, c4, c5⟩ := B2.out
      have hl1 := numT_len (n := ch) (by omega)
      have hl2 := numT_len (n := v) (by omega)
      obtain ⟨N1, h_N1⟩ : ∃ S, bs (numT ch) = S := ⟨_, rfl⟩
      have CN := Lib.hid (fun w => rnum1_any w (ch) (In3.wide (by omega)))
      rw [h_N1] at CN
      obtain ⟨S1, h_S1⟩ : ∃ S, bs ([32] ++ numT ch) = S := ⟨_, rfl⟩
      have f1 : ∀ w, (Op.stringOp BinOp.add ⟨#[32]⟩ N1).run Tryd.prog w = .ok (.string S1) w := fun w => by
        subst h_N1
        subst h_S1
        exact add_text ([32]) (numT ch) (by first | (simp; done) | (simp; omega)) w
      obtain ⟨S2, h_S2⟩ : ∃ S, bs ([108,101,110] ++ ([32] ++ numT ch)) = S := ⟨_, rfl⟩
      have f2 : ∀ w, (Op.stringOp BinOp.add ⟨#[108,101,110]⟩ S1).run Tryd.prog w = .ok (.string S2) w := fun w => by
        subst h_S1
        subst h_S2
        exact add_text ([108,101,110]) (([32] ++ numT ch)) (by first | (simp; done) | (simp; omega)) w
      have HS2 := Lib.hid h_S2
      have bv := rhasv_any 7 false
      go_wp2_with fail
      refine (CN.out _).mono ?_
      rintro e w3 ⟨rfl, t3⟩
      have T3 := Lib.hid (T2.out.trans t3)
      have B3 := Lib.hid (B2.out.turn t3 id)
      clear t3 c0 c1 c2 c3 c4 c5
      obtain ⟨c0, c1, c2, c3, c4, c5⟩ := B3.out
      go_wp2_with fail
      refine (bv _ rfl).mono ?_
      rintro e w4 ⟨rfl, rfl⟩
      have HX := HS2
      clear h_S1 h_S2 h_N1 hl1 hl2
      have TT := T3
      obtain ⟨WW, hWW⟩ : ∃ x, x = w3 := ⟨_, rfl⟩
      rw [← hWW] at TT c0 c1 c2 c3 c4 c5 ⊢
      clear hWW
      go_upto_region 11 with fail
      go_loopw [3, 44] (fun s3 s44 wr => s44 = .int .i64 0 ∧ s3 = .string S2 ∧ wr = WW) (fun _ _ _ => 0)
      case atStart => exact ⟨rfl, rfl, rfl⟩
      case round =>
        obtain ⟨rfl, rfl, rfl⟩ := hrel
        go_wp2_with fail
        go_ret
        refine ⟨?_, TT.out⟩
        rw [← HX.out, HNIL.out]
        simp [headT, headW, chT, vT, elseT, joinT, wLen, hasV]
    · have _u := True.intro
      have hno := hf.2.2.2.2.2.2.2.2.2.2.2.2.1.resolve_left (by decide)
      have hels : els = false := hno.1
      have hnil : L = [] := List.eq_nil_of_length_eq_zero hno.2
      clear hno
      have HELS := Lib.hid hels
      have HNIL := Lib.hid hnil
      clear hels hnil
      obtain rfl : len = 0 := by rw [← hlen, HNIL.out]; rfl
      obtain rfl : els = false := HELS.out
      unfold GivesS OpV.val Sl.val
      dsimp only
      clear hlen hb
      go_enter Tryd.func11, Tryd.ntmps11
      obtain ⟨c0, c1, c2, c3, c4, c5⟩ := B0.out
      go_upto_region 1 with fail
      go_wp2_with fail
      refine (CR.out _ (HO.out.new T0.out)).mono ?_
      rintro e w1 ⟨rfl, t1⟩
      have T1 := Lib.hid (T0.out.trans t1)
      have B1 := Lib.hid (B0.out.turn t1 id)
      clear t1 c0 c1 c2 c3 c4 c5
      obtain ⟨bx, hbx⟩ : ∃ b, w.heap.size = b := ⟨_, rfl⟩
      rw [hbx] at B1 ⊢
      obtain ⟨c0, c1, c2, c3, c4, c5⟩ := B1.out
      have q0 : ∀ o, (w1.alloc o).cell? ⟨bx, 0, none⟩ = some (.int .i64 8) := fun o => ((Turn.refl (fun _ => False) w1).alloc o).cell id c0
      go_upto_region 4 with fail
      generalize hw2 : w1.alloc (.cells tabC 9) = w2 at ⊢
      have B2 : Hid (At6 w2 bx 8 ch n v (.slice ao 0 cap) false) := Lib.hid (hw2 ▸ B1.out.turn ((Turn.refl (fun _ => False) w1).alloc _) id)
      have T2 : Hid (Turn (fun _ => False) w w2) := Lib.hid (hw2 ▸ T1.out.alloc _)
      clear q0 c0 c1 c2 c3 c4 c5 hw2
      obtain ⟨c0, c1, c2, c3, c4, c5⟩ := B2.out
      have hl1 := numT_len (n := ch) (by omega)
      have hl2 := numT_len (n := v) (by omega)
      obtain ⟨N1, h_N1⟩ : ∃ S, bs (numT ch) = S := ⟨_, rfl⟩
      have CN := Lib.hid (fun w => rnum1_any w (ch) (In3.wide (by omega)))
      rw [h_N1] at CN
      obtain ⟨S1, h_S1⟩ : ∃ S, bs ([32] ++ numT ch) = S := ⟨_, rfl⟩
      have f1 : ∀ w, (Op.stringOp BinOp.add ⟨#[32]⟩ N1).run Tryd.prog w = .ok (.string S1) w := fun w => by
        subst h_N1
        subst h_S1
        exact add_text ([32]) (numT ch) (by first | (simp; done) | (simp; omega)) w
      obtain ⟨S2, h_S2⟩ : ∃ S, bs ([99,97,112] ++ ([32] ++ numT ch)) = S := ⟨_, rfl⟩
      have f2 : ∀ w, (Op.stringOp BinOp.add ⟨#[99,97,112]⟩ S1).run Tryd.prog w = .ok (.string S2) w := fun w => by
        subst h_S1
        subst h_S2
        exact add_text ([99,97,112]) (([32] ++ numT ch)) (by first | (simp; done) | (simp; omega)) w
      have HS2 := Lib.hid h_S2
      have bv := rhasv_any 8 false
      go_wp2_with fail
      refine (CN.out _).mono ?_
      rintro e w3 ⟨rfl, t3⟩
      have T3 := Lib.hid (T2.out.trans t3)
      have B3 := Lib.hid (B2.out.turn t3 id)
      clear t3 c0 c1 c2 c3 c4 c5
      obtain ⟨c0, c1, c2, c3, c4, c5⟩ := B3.out
      go_wp2_with fail
      refine (bv _ rfl).mono ?_
      rintro e w4 ⟨rfl, rfl⟩
      have HX := HS2
      clear h_S1 h_S2 h_N1 hl1 hl2
      have TT := T3
      obtain ⟨WW, hWW⟩ : ∃ x, x = w3 := ⟨_, rfl⟩
      rw [← hWW] at TT c0 c1 c2 c3 c4 c5 ⊢
      clear hWW
      go_upto_region 11 with fail
      go_loopw [3, 44] (fun s3 s44 wr => s44 = .int .i64 0 ∧ s3 = .string S2 ∧ wr = WW) (fun _ _ _ => 0)
      case atStart => exact ⟨rfl, rfl, rfl⟩
      case round =>
        obtain ⟨rfl, rfl, rfl⟩ := hrel
        go_wp2_with fail
        go_ret
        refine ⟨?_, TT.out⟩
        rw [← HX.out, HNIL.out]
        simp [headT, headW, chT, vT, elseT, joinT, wCap, hasV]
    · have _u := True.intro
      unfold GivesS OpV.val Sl.val
      dsimp only
      clear hlen hb
      go_enter Tryd.func11, Tryd.ntmps11
      obtain ⟨c0, c1, c2, c3, c4, c5⟩ := B0.out
      go_upto_region 1 with fail
      go_wp2_with fail
      refine (CR.out _ (HO.out.new T0.out)).mono ?_
      rintro e w1 ⟨rfl, t1⟩
      have T1 := Lib.hid (T0.out.trans t1)
      have B1 := Lib.hid (B0.out.turn t1 id)
      clear t1 c0 c1 c2 c3 c4 c5
      obtain ⟨bx, hbx⟩ : ∃ b, w.heap.size = b := ⟨_, rfl⟩
      rw [hbx] at B1 ⊢
      obtain ⟨c0, c1, c2, c3, c4, c5⟩ := B1.out
      have q0 : ∀ o, (w1.alloc o).cell? ⟨bx, 0, none⟩ = some (.int .i64 9) := fun o => ((Turn.refl (fun _ => False) w1).alloc o).cell id c0
      go_upto_region 4 with fail
      generalize hw2 : w1.alloc (.cells tabC 9) = w2 at ⊢
      have B2 : Hid (At6 w2 bx 9 ch n v (.slice ao len cap) els) := Lib.hid (hw2 ▸ B1.out.turn ((Turn.refl (fun _ => False) w1).alloc _) id)
      have T2 : Hid (Turn (fun _ => False) w w2) := Lib.hid (hw2 ▸ T1.out.alloc _)
      clear q0 c0 c1 c2 c3 c4 c5 hw2
      obtain ⟨c0, c1, c2, c3, c4, c5⟩ := B2.out
      have hlen6 : len ≤ 6 := by rw [← HN.out]; exact hf.2.2.2.2.2.2.2.2.1
      obtain ⟨S0, h_S0⟩ : ∃ S, bs [115,101,108,101,99,116] = S := ⟨_, rfl⟩
      have HX := Lib.hid h_S0
      have bv := rhasv_any 9 false
      have hlit : (⟨#[115,101,108,101,99,116]⟩ : ByteArray) = S0 := h_S0
      clear h_S0
      go_upto_region 8 with fail
      go_wp2_with fail
      refine (bv _ rfl).mono ?_
      rintro e w4 ⟨rfl, rfl⟩
      go_upto_region 11 with fail
      go_loopw [3, 44] (fun s3 s44 wr => ∃ (i : Nat) (S : ByteArray), s44 = .int .i64 i ∧ s3 = .string S ∧ i ≤ len ∧ Hid (bs ([115,101,108,101,99,116] ++ (L.take i).flatMap caseT) = S) ∧ Hid (Turn (fun _ => False) w2 wr)) (fun _ s44 _ => len - (intOf s44).toNat)
      case atStart => exact ⟨0, S0, rfl, rfl, Nat.zero_le _, Lib.hid (by rw [← HX.out]; simp), Lib.hid (Turn.refl _ _)⟩
      case round =>
        obtain ⟨i, S, rfl, rfl, hi, HS, HTR⟩ := hrel
        by_cases hlt : i < len
        · obtain ⟨x, hx⟩ : ∃ x, L[i]? = some x := ⟨_, List.getElem?_eq_getElem (by rw [HN.out]; exact hlt)⟩
          obtain ⟨a, rfl, hc⟩ := (HL.out.new (T2.out.trans HTR.out)) i x hx
          obtain ⟨c0, c1, c2⟩ := cells3 hc
          have HCX := Lib.hid hx
          have hrc : rightC x = true := (List.all_eq_true.1 HAL.out) x (List.mem_of_getElem? hx)
          have hin := rightC_in hrc
          have hcl := cases_len (L := L.take i) (by rw [List.all_eq_true]; exact fun y hy => (List.all_eq_true.1 HAL.out) y (List.mem_of_mem_take hy))
          rw [List.length_take] at hcl
          obtain ⟨Y, hY⟩ : ∃ Y, (L.take i).flatMap caseT = Y := ⟨_, rfl⟩
          have hS := HS.out
          rw [hY] at hcl hS
          have HS := Lib.hid hS
          have HY := Lib.hid hY
          clear hY hS
          obtain ⟨s, ch', v'⟩ := x
          dsimp only at c0 c1 c2 hin
          clear hx hc hrc
          cases s
          · have hn1 := numT_len (n := ch') (by omega)
            obtain ⟨N1, h_N1⟩ : ∃ S, bs (numT ch') = S := ⟨_, rfl⟩
            have CN := Lib.hid (fun w => rnum1_any w (ch') (In3.wide (by omega)))
            rw [h_N1] at CN
            obtain ⟨S1, h_S1⟩ : ∃ S, bs ([32,124,32,114,101,99,118,32] ++ numT ch') = S := ⟨_, rfl⟩
            have f1 : ∀ w, (Op.stringOp BinOp.add ⟨#[32,124,32,114,101,99,118,32]⟩ N1).run Tryd.prog w = .ok (.string S1) w := fun w => by
              subst h_N1
              subst h_S1
              exact add_text ([32,124,32,114,101,99,118,32]) (numT ch') (by first | (simp; done) | (simp; omega)) w
            obtain ⟨S2, h_S2⟩ : ∃ S, bs (([115,101,108,101,99,116] ++ Y) ++ ([32,124,32,114,101,99,118,32] ++ numT ch')) = S := ⟨_, rfl⟩
            have f2 : ∀ w, (Op.stringOp BinOp.add S S1).run Tryd.prog w = .ok (.string S2) w := fun w => by
              have hE := HS.out; subst hE h_S1
              subst h_S2
              exact add_text (([115,101,108,101,99,116] ++ Y)) (([32,124,32,114,101,99,118,32] ++ numT ch')) (by first | (simp; done) | (simp; omega)) w
            have HS2 := Lib.hid h_S2
            clear h_S1 h_S2 h_N1 hn1 hcl
            go_wp2_with fail
            refine (CN.out _).mono ?_
            rintro e w5 ⟨rfl, t5⟩
            have T5 := Lib.hid (((Turn.refl (fun _ => False) wr).alloc _).trans t5)
            clear t5
            go_wp2_with fail
            go_roundw
            case rel => exact ⟨i + 1, S2, by go_num, rfl, by omega, Lib.hid (by rw [take_snoc HCX.out, List.flatMap_append, HY.out, ← HS2.out]; simp [caseT]), Lib.hid (HTR.out.trans T5.out)⟩
            case measure => simp [intOf]; omega
          · have hn1 := numT_len (n := ch') (by omega)
            have hn2 := numT_len (n := v') (by omega)
            obtain ⟨N1, h_N1⟩ : ∃ S, bs (numT ch') = S := ⟨_, rfl⟩
            have CN := Lib.hid (fun w => rnum1_any w (ch') (In3.wide (by omega)))
            rw [h_N1] at CN
            obtain ⟨N2, h_N2⟩ : ∃ S, bs (numT v') = S := ⟨_, rfl⟩
            have CV := Lib.hid (fun w => rnum_any w (v') (In3.wide (by omega)))
            rw [h_N2] at CV
            obtain ⟨S1, h_S1⟩ : ∃ S, bs ([32,124,32,115,101,110,100,32] ++ numT ch') = S := ⟨_, rfl⟩
            have f1 : ∀ w, (Op.stringOp BinOp.add ⟨#[32,124,32,115,101,110,100,32]⟩ N1).run Tryd.prog w = .ok (.string S1) w := fun w => by
              subst h_N1
              subst h_S1
              exact add_text ([32,124,32,115,101,110,100,32]) (numT ch') (by first | (simp; done) | (simp; omega)) w
            obtain ⟨S2, h_S2⟩ : ∃ S, bs (([32,124,32,115,101,110,100,32] ++ numT ch') ++ [32]) = S := ⟨_, rfl⟩
            have f2 : ∀ w, (Op.stringOp BinOp.add S1 ⟨#[32]⟩).run Tryd.prog w = .ok (.string S2) w := fun w => by
              subst h_S1
              subst h_S2
              exact add_text (([32,124,32,115,101,110,100,32] ++ numT ch')) ([32]) (by first | (simp; done) | (simp; omega)) w
            obtain ⟨S3, h_S3⟩ : ∃ S, bs ((([32,124,32,115,101,110,100,32] ++ numT ch') ++ [32]) ++ numT v') = S := ⟨_, rfl⟩
            have f3 : ∀ w, (Op.stringOp BinOp.add S2 N2).run Tryd.prog w = .ok (.string S3) w := fun w => by
              subst h_S2 h_N2
              subst h_S3
              exact add_text ((([32,124,32,115,101,110,100,32] ++ numT ch') ++ [32])) (numT v') (by first | (simp; done) | (simp; omega)) w
            obtain ⟨S4, h_S4⟩ : ∃ S, bs (([115,101,108,101,99,116] ++ Y) ++ ((([32,124,32,115,101,110,100,32] ++ numT ch') ++ [32]) ++ numT v')) = S := ⟨_, rfl⟩
            have f4 : ∀ w, (Op.stringOp BinOp.add S S3).run Tryd.prog w = .ok (.string S4) w := fun w => by
              have hE := HS.out; subst hE h_S3
              subst h_S4
              exact add_text (([115,101,108,101,99,116] ++ Y)) (((([32,124,32,115,101,110,100,32] ++ numT ch') ++ [32]) ++ numT v')) (by first | (simp; done) | (simp; omega)) w
            have HS4 := Lib.hid h_S4
            clear h_S1 h_S2 h_S3 h_S4 h_N1 h_N2 hn1 hn2 hcl
            go_upto_region 14 with fail
            have A : Hid (Three (wr.alloc (.cells #[.bool true, .int .i64 ch', .int .i64 v'] 40)) wr.heap.size true ch' v') := Lib.hid (blk_new wr _ 40)
            have TA := Lib.hid ((Turn.refl (fun _ => False) wr).alloc (.cells #[.bool true, .int .i64 ch', .int .i64 v'] 40))
            obtain ⟨gb, hgb⟩ : ∃ b, wr.heap.size = b := ⟨_, rfl⟩
            rw [hgb] at A ⊢
            generalize wr.alloc (.cells #[.bool true, .int .i64 ch', .int .i64 v'] 40) = wa at A TA ⊢
            clear hgb c0 c1 c2
            have KEEP : Hid (∀ w', Turn (fun _ => False) wa w' → w'.cell? ⟨gb, 1, none⟩ = some (.int .i64 ch') ∧ w'.cell? ⟨gb, 2, none⟩ = some (.int .i64 v')) := Lib.hid fun w' t => ⟨(A.out.new t).cells.1.2.1, (A.out.new t).cells.1.2.2⟩
            refine stand_start (by kernel_rfl) 99 (fun w' => w'.cell? ⟨gb, 1, none⟩ = some (.int .i64 ch') ∧ w'.cell? ⟨gb, 2, none⟩ = some (.int .i64 v')) 99 (fun w' => True) (KEEP.out _ (Turn.refl _ _).drew) trivial ?_
            refine stand_take (i := 0) (v := ?_) rfl (by kernel_rfl) (by kernel_rfl) (by kernel_rfl) (by rfl) (fun _ _ _ h => h) (by decide) (by decide) (by rfl) ?_ ?_
            rotate_left
            · (intro w; go_simp; try with_reducible rfl)
            dsimp only [List.set_cons_zero, List.set_cons_succ]
            refine stand_take (i := 1) (v := ?_) rfl (by kernel_rfl) (by kernel_rfl) (by kernel_rfl) (by rfl) (fun _ _ _ h => h) (by decide) (by decide) (by rfl) ?_ ?_
            rotate_left
            · (intro w; go_simp; try with_reducible rfl)
            dsimp only [List.set_cons_zero, List.set_cons_succ]
            refine stand_take (i := 6) (v := ?_) rfl (by kernel_rfl) (by kernel_rfl) (by kernel_rfl) (by rfl) (fun _ _ _ h => h) (by decide) (by decide) (by rfl) ?_ ?_
            rotate_left
            · (intro w; go_simp; try with_reducible rfl)
            dsimp only [List.set_cons_zero, List.set_cons_succ]
            refine stand_load3 (i := 2) (v := ?_) rfl (by kernel_rfl) (by kernel_rfl) (by kernel_rfl) (by rfl) (fun _ _ _ h => h) (by decide) (by decide) (by kernel_rfl) (by rfl) ?_ ?_
            rotate_left
            · (intro w hA; (try dsimp only at hA); go_simp; try with_reducible rfl)
            dsimp only [List.set_cons_zero, List.set_cons_succ]
            refine stand_load3 (i := 7) (v := ?_) rfl (by kernel_rfl) (by kernel_rfl) (by kernel_rfl) (by rfl) (fun _ _ _ h => h) (by decide) (by decide) (by kernel_rfl) (by rfl) ?_ ?_
            rotate_left
            · (intro w hA; (try dsimp only at hA); go_simp; try with_reducible rfl)
            dsimp only [List.set_cons_zero, List.set_cons_succ]
            refine stand_step (i := 3) (by kernel_rfl) rfl (fun K hK => ?_)
            go_simp
            refine (CN.out _).mono ?_
            rintro e w4 ⟨rfl, t4⟩
            have T4 := Lib.hid ((Turn.refl (fun _ => False) wa).drew.trans t4)
            clear t4
            refine hK.out _ _ (fun _ => KEEP.out _ T4.out) (fun _ => trivial) ?_
            clear hK K
            try simp only [put_laid, List.set_cons_zero, List.set_cons_succ]
            refine stand_take (i := 4) (v := ?_) rfl (by kernel_rfl) (by kernel_rfl) (by kernel_rfl) (by rfl) (fun _ _ _ h => h) (by decide) (by decide) (by rfl) ?_ ?_
            rotate_left
            · (intro w; go_simp; try with_reducible rfl)
            dsimp only [List.set_cons_zero, List.set_cons_succ]
            refine stand_take (i := 5) (v := ?_) rfl (by kernel_rfl) (by kernel_rfl) (by kernel_rfl) (by rfl) (fun _ _ _ h => h) (by decide) (by decide) (by rfl) ?_ ?_
            rotate_left
            · (intro w; go_simp; try with_reducible rfl)
            dsimp only [List.set_cons_zero, List.set_cons_succ]
            refine stand_step (i := 8) (by kernel_rfl) rfl (fun K hK => ?_)
            go_simp
            refine (CV.out _).mono ?_
            rintro e w5 ⟨rfl, t5⟩
            have T5 := Lib.hid (T4.out.trans t5)
            clear t5
            refine hK.out _ _ (fun _ => KEEP.out _ T5.out) (fun _ => trivial) ?_
            clear hK K
            try simp only [put_laid, List.set_cons_zero, List.set_cons_succ]
            refine stand_take (i := 9) (v := ?_) rfl (by kernel_rfl) (by kernel_rfl) (by kernel_rfl) (by rfl) (fun _ _ _ h => h) (by decide) (by decide) (by rfl) ?_ ?_
            rotate_left
            · (intro w; go_simp; try with_reducible rfl)
            dsimp only [List.set_cons_zero, List.set_cons_succ]
            refine stand_take (i := 10) (v := ?_) rfl (by kernel_rfl) (by kernel_rfl) (by kernel_rfl) (by rfl) (fun _ _ _ h => h) (by decide) (by decide) (by rfl) ?_ ?_
            rotate_left
            · (intro w; go_simp; try with_reducible rfl)
            dsimp only [List.set_cons_zero, List.set_cons_succ]
            refine stand_take (i := 11) (v := ?_) rfl (by kernel_rfl) (by kernel_rfl) (by kernel_rfl) (by rfl) (fun _ _ _ h => h) (by decide) (by decide) (by rfl) ?_ ?_
            rotate_left
            · (intro w; go_simp; try with_reducible rfl)
            dsimp only [List.set_cons_zero, List.set_cons_succ]
            refine stand_done (by kernel_rfl) ?_
            go_wp2_with fail
            go_roundw
            case rel => exact ⟨i + 1, S4, by go_num, rfl, by omega, Lib.hid (by rw [take_snoc HCX.out, List.flatMap_append, HY.out, ← HS4.out]; simp [caseT]), Lib.hid (HTR.out.trans (TA.out.trans T5.out))⟩
            case measure => simp [intOf]; omega
        · obtain rfl : i = len := by omega
          clear c0 c1 c2 c3 c4 c5
          obtain ⟨c0, c1, c2, c3, c4, c5⟩ := B2.out.turn HTR.out id
          have htk : L.take i = L := List.take_of_length_le (by rw [HN.out]; exact Nat.le_refl _)
          have HE := Lib.hid (show bs ([115,101,108,101,99,116] ++ L.flatMap caseT) = S by rw [← HS.out, htk])
          have hcl := cases_len HAL.out
          rw [HN.out] at hcl
          obtain ⟨Y, hY⟩ : ∃ Y, L.flatMap caseT = Y := ⟨_, rfl⟩
          have hE := HE.out
          rw [hY] at hcl hE
          have HE := Lib.hid hE
          have HY := Lib.hid hY
          clear htk hY hE
          cases els
          · go_wp2_with fail
            go_ret
            refine ⟨?_, T2.out.trans HTR.out⟩
            rw [← HE.out, HY.out]
            simp [headT, headW, chT, vT, elseT, joinT, wSelect, hasV]
          · obtain ⟨SE, h_SE⟩ : ∃ S, bs (([115,101,108,101,99,116] ++ Y) ++ [32,124,32,101,108,115,101]) = S := ⟨_, rfl⟩
            have fe : ∀ w, (Op.stringOp BinOp.add S ⟨#[32,124,32,101,108,115,101]⟩).run Tryd.prog w = .ok (.string SE) w := fun w => by
              have hE := HE.out; subst hE
              subst h_SE
              exact add_text (([115,101,108,101,99,116] ++ Y)) ([32,124,32,101,108,115,101]) (by first | (simp; done) | (simp; omega)) w
            have HSE := Lib.hid h_SE
            clear h_SE hcl
            go_wp2_with fail
            go_ret
            refine ⟨?_, T2.out.trans HTR.out⟩
            rw [← HSE.out, HY.out]
            simp [headT, headW, chT, vT, elseT, joinT, wSelect, hasV]
end Go.Proofs.YtfghabjpcjcllaaDoor
