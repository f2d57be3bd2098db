/- The code's words of an op. -/
import Derived.Test.YtfghabjpcjcllaaDoorMNum
import Derived.Test.YtfghabjpcjcllaaDoorMRight
namespace Go.Proofs.YtfghabjpcjcllaaDoor
open Go.RowKit
set_option linter.unusedVariables false

theorem caseP_len {c : Cas} (h : rightC c = true) : (caseP c).length ≤ 40 := by
  have := caseT_len h
  rw [caseT_is] at this
  simp at this
  omega
theorem plainT_len {o : Opr} (h : rightO o = true) : (plainT o).length ≤ 40 := by
  have hf := rightO_has h
  unfold plainT chT vT
  have h1 := numT_len (n := o.n) (by omega)
  have h2 := numT_len (n := o.ch) (by omega)
  have h3 := numT_len (n := o.v) (by omega)
  have h4 : (headT o.kind).length ≤ 8 := by
    rcases (show o.kind = 1 ∨ o.kind = 2 ∨ o.kind = 3 ∨ o.kind = 4 ∨ o.kind = 5 ∨ o.kind = 6 ∨ o.kind = 7 ∨ o.kind = 8 ∨ o.kind = 9 by omega) with e | e | e | e | e | e | e | e | e <;> rw [e] <;> decide
  simp only [List.length_append]
  split <;> split <;> (try split) <;> simp only [List.length_cons, List.length_nil] <;> omega

set_option maxRecDepth 100000 in
set_option maxHeartbeats 2000000 in
theorem op_any (r : OpV) (o : Opr) (w : World) (ho : ROp w r o) (hm : o.cases.length ≤ 1000000) (hG : Gl0 w) : Calls Tryd.prog 10 #[r.val] w (GivesS w (opS o)) := by
  have HO := Lib.hid ho
  obtain ⟨b, hb⟩ : ∃ b, rightO o = b := ⟨_, rfl⟩
  have CR := Lib.hid (fun w (ho : ROp w r o) => rightop_any r o b w ho hm hb)
  have hop : opS o = if b = true then opT o else [] := by unfold opS; rw [hb]
  rw [hop]
  have HB := Lib.hid hb
  obtain ⟨P, hP⟩ : ∃ t, plainT o = t := ⟨_, rfl⟩
  have hplen : b = true → P.length ≤ 40 := fun e => hP ▸ plainT_len (hb.trans e)
  have hopt : opT o = P ++ o.cases.flatMap caseT ++ elseT o.els := by rw [← hP, opT_is]; simp [plainT]
  obtain ⟨kind, ch, n, v, ⟨ao, len, cap⟩, els⟩ := r
  obtain ⟨kind', ch', n', v', L, els'⟩ := o
  obtain ⟨e1, e2, e3, e4, e5, hcs⟩ := ho
  dsimp only at e1 e2 e3 e4 e5 hcs hb hm
  subst e1 e2 e3 e4 e5
  have CP : Hid (b = true → ∀ w, Gl0 w → Calls Tryd.prog 22 #[.agg #[.int .i64 kind, .int .i64 ch, .int .i64 n, .int .i64 v, .slice ao len cap, .bool els]] w (GivesS w P)) := Lib.hid (fun e w hG => by
    have hf := rightO_has (hb.trans e)
    dsimp only at hf
    rw [← hP]
    exact plain_any kind ch n v L els els (.slice ao len cap) w ⟨hf.1, hf.2.1⟩ (by unfold In8; omega) (by unfold In8; omega) (by unfold In8; omega) hG)
  have hlen : L.length = len := hcs.ok.len.symm
  have HL := Lib.hid hcs.has
  have HN := Lib.hid hlen
  dsimp only at HL
  rw [hlen] at hm
  clear hcs hop hP
  have B0 : Hid (At6 (w.alloc (.cells #[.int .i64 kind, .int .i64 ch, .int .i64 n, .int .i64 v, .slice ao len cap, .bool els] 25)) w.heap.size kind ch n v (.slice ao len cap) els) := Lib.hid (at6_new w kind ch n v _ els 25)
  have T0 := Lib.hid ((Turn.refl (fun _ => False) w).alloc (.cells #[.int .i64 kind, .int .i64 ch, .int .i64 n, .int .i64 v, .slice ao len cap, .bool els] 25))
  have G0 := Lib.hid (hG.new T0.out)
  clear hG
  cases b
  · rw [if_neg (by decide)]
    unfold GivesS OpV.val Sl.val
    dsimp only
    clear hlen hb hplen hopt
    go_enter Tryd.func10, Tryd.ntmps10
    obtain ⟨c0, c1, c2, c3, c4, c5⟩ := B0.out
    go_upto_region 1 with fail
    go_wp2_with fail
    refine (CR.out _ (HO.out.new T0.out)).mono ?_
    rintro e w1 ⟨rfl, t1⟩
    have T1 := Lib.hid (T0.out.trans t1)
    clear t1 c0 c1 c2 c3 c4 c5
    go_wp2_with fail
    go_ret
    exact ⟨rfl, T1.out⟩
  · rw [if_pos rfl, hopt]
    have hf := rightO_has hb
    dsimp only at hf hplen ⊢
    have hpl := hplen rfl
    have HAL := Lib.hid (show L.all rightC = true from hf.2.2.2.2.2.2.2.2.2.2.2.2.2)
    have hlen6 : len ≤ 6 := by rw [← HN.out]; exact hf.2.2.2.2.2.2.2.2.1
    obtain ⟨S0, h_S0⟩ : ∃ S, bs P = S := ⟨_, rfl⟩
    have CQ := Lib.hid (fun w hG => CP.out rfl w hG)
    unfold GivesS at CQ ⊢
    rw [h_S0] at CQ
    have HX := Lib.hid h_S0
    unfold OpV.val Sl.val
    dsimp only
    clear hlen hb hplen hopt hf h_S0
    go_enter Tryd.func10, Tryd.ntmps10
    obtain ⟨c0, c1, c2, c3, c4, c5⟩ := B0.out
    go_upto_region 1 with fail
    go_wp2_with fail
    refine (CR.out _ (HO.out.new T0.out)).mono ?_
    rintro e w1 ⟨rfl, t1⟩
    have T1 := Lib.hid (T0.out.trans t1)
    have G1 := Lib.hid (G0.out.new t1)
    have B1 := Lib.hid (B0.out.turn t1 id)
    clear t1 c0 c1 c2 c3 c4 c5
    obtain ⟨bx, hbx⟩ : ∃ b, w.heap.size = b := ⟨_, rfl⟩
    rw [hbx] at B1 ⊢
    obtain ⟨c0, c1, c2, c3, c4, c5⟩ := B1.out
    go_wp2_with fail
    refine (CQ.out _ G1.out).mono ?_
    rintro e w2 ⟨rfl, t2⟩
    have T2 := Lib.hid (T1.out.trans t2)
    have G2 := Lib.hid (G1.out.new t2)
    have B2 := Lib.hid (B1.out.turn t2 id)
    clear t2 c0 c1 c2 c3 c4 c5
    obtain ⟨c0, c1, c2, c3, c4, c5⟩ := B2.out
    go_wp2_with fail
    go_loopw [3, 14] (fun s3 s14 wr => ∃ (i : Nat) (S : ByteArray), s14 = .int .i64 i ∧ s3 = .string S ∧ i ≤ len ∧ Hid (bs (P ++ (L.take i).flatMap caseT) = S) ∧ Hid (Turn (fun _ => False) w2 wr)) (fun _ s14 _ => len - (intOf s14).toNat)
    case atStart => exact ⟨0, S0, rfl, rfl, Nat.zero_le _, Lib.hid (by rw [← HX.out]; simp), Lib.hid (Turn.refl _ _)⟩
    case round =>
      obtain ⟨i, S, rfl, rfl, hi, HS, HTR⟩ := hrel
      by_cases hlt : i < len
      · obtain ⟨x, hx⟩ : ∃ x, L[i]? = some x := ⟨_, List.getElem?_eq_getElem (by rw [HN.out]; exact hlt)⟩
        obtain ⟨a, rfl, hc⟩ := (HL.out.new (T2.out.trans HTR.out)) i x hx
        clear c0 c1 c2 c3 c4 c5
        obtain ⟨c0, c1, c2⟩ := cells3 hc
        have HCX := Lib.hid hx
        have hrc : rightC x = true := (List.all_eq_true.1 HAL.out) x (List.mem_of_getElem? hx)
        have hin := rightC_in hrc
        have CC := Lib.hid (fun w hG => case_any x w (by unfold In8; omega) (by unfold In8; omega) hG)
        have hcl := cases_len (L := L.take i) (by rw [List.all_eq_true]; exact fun y hy => (List.all_eq_true.1 HAL.out) y (List.mem_of_mem_take hy))
        rw [List.length_take] at hcl
        have hpx := caseP_len hrc
        obtain ⟨Y, hY⟩ : ∃ Y, (L.take i).flatMap caseT = Y := ⟨_, rfl⟩
        obtain ⟨X, hX⟩ : ∃ X, caseP x = X := ⟨_, rfl⟩
        obtain ⟨SX, hSX⟩ : ∃ S, bs X = S := ⟨_, rfl⟩
        have hS := HS.out
        have hnew : (L.take (i + 1)).flatMap caseT = Y ++ ([32, 124, 32] ++ X) := by rw [take_snoc hx, List.flatMap_append, hY, ← hX, ← caseT_is]; simp
        rw [hY] at hcl hS
        unfold GivesS at CC
        rw [hX] at hpx CC
        rw [hSX] at CC
        obtain ⟨S1, h_S1⟩ : ∃ S, bs ([32,124,32] ++ X) = S := ⟨_, rfl⟩
        have f1 : ∀ w, (Op.stringOp BinOp.add ⟨#[32,124,32]⟩ SX).run Tryd.prog w = .ok (.string S1) w := fun w => by
          subst hSX
          subst h_S1
          exact add_text ([32,124,32]) (X) (by first | (simp; done) | (simp; omega)) w
        obtain ⟨S2, h_S2⟩ : ∃ S, bs ((P ++ Y) ++ ([32,124,32] ++ X)) = S := ⟨_, rfl⟩
        have f2 : ∀ w, (Op.stringOp BinOp.add S S1).run Tryd.prog w = .ok (.string S2) w := fun w => by
          subst hS h_S1
          subst h_S2
          exact add_text ((P ++ Y)) (([32,124,32] ++ X)) (by first | (simp; done) | (simp; omega)) w
        have HS2 := Lib.hid h_S2
        have HNEW := Lib.hid hnew
        clear hY hS hX hSX h_S1 h_S2 hcl hpx hnew
        obtain ⟨s, ch', v'⟩ := x
        unfold Cas.val at CC
        dsimp only at c0 c1 c2 hin CC
        clear hx hc hrc hin
        have TB := Lib.hid ((Turn.refl (fun _ => False) wr).alloc (.cells #[.bool s, .int .i64 ch', .int .i64 v'] 40))
        have GR := Lib.hid (G2.out.new (HTR.out.trans TB.out))
        go_wp2_with fail
        refine (CC.out _ GR.out).mono ?_
        rintro e w5 ⟨rfl, t5⟩
        have T5 := Lib.hid (TB.out.trans t5)
        clear t5
        go_wp2_with fail
        go_roundw
        case rel => exact ⟨i + 1, S2, by go_num, rfl, by omega, Lib.hid (by rw [HNEW.out, ← HS2.out]; simp), Lib.hid (HTR.out.trans T5.out)⟩
        case measure => simp [intOf]; omega
      · obtain rfl : i = len := by omega
        clear c0 c1 c2 c3 c4 c5
        obtain ⟨c0, c1, c2, c3, c4, c5⟩ := B2.out.turn HTR.out id
        have htk : L.take i = L := List.take_of_length_le (by rw [HN.out]; exact Nat.le_refl _)
        have HE := Lib.hid (show bs (P ++ L.flatMap caseT) = S by rw [← HS.out, htk])
        have hcl := cases_len HAL.out
        rw [HN.out] at hcl
        obtain ⟨Y, hY⟩ : ∃ Y, L.flatMap caseT = Y := ⟨_, rfl⟩
        have hE := HE.out
        rw [hY] at hcl hE
        have HE := Lib.hid hE
        have HY := Lib.hid hY
        clear htk hY hE
        cases els
        · go_wp2_with fail
          go_ret
          refine ⟨?_, T2.out.trans HTR.out⟩
          rw [← HE.out, HY.out]
          simp [elseT]
        · obtain ⟨SE, h_SE⟩ : ∃ S, bs ((P ++ Y) ++ [32,124,32,101,108,115,101]) = S := ⟨_, rfl⟩
          have fe : ∀ w, (Op.stringOp BinOp.add S ⟨#[32,124,32,101,108,115,101]⟩).run Tryd.prog w = .ok (.string SE) w := fun w => by
            have hE := HE.out; subst hE
            subst h_SE
            exact add_text ((P ++ Y)) ([32,124,32,101,108,115,101]) (by first | (simp; done) | (simp; omega)) w
          have HSE := Lib.hid h_SE
          clear h_SE hcl
          go_wp2_with fail
          go_ret
          refine ⟨?_, T2.out.trans HTR.out⟩
          rw [← HSE.out, HY.out]
          simp [elseT]
end Go.Proofs.YtfghabjpcjcllaaDoor
