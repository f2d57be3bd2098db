/- The law WordsBack. -/
import Derived.Test.YtfghabjpcjcllaaDoorCParseW
import Derived.Test.YtfghabjpcjcllaaDoorCText
import Derived.Test.YtfghabjpcjcllaaDoorCAlive
import Derived.Test.YtfghabjpcjcllaaDoorDGreat
import Derived.Test.YtfghabjpcjcllaaDoorDSame
namespace Go.Proofs.YtfghabjpcjcllaaDoor
open Go.RowKit
set_option linter.unusedVariables false

theorem right_mild {p : List (List Opr)} (h : rightP p = true) : MildP p := by
  unfold rightP at h
  simp only [Bool.and_eq_true, decide_eq_true_eq] at h
  refine ⟨by omega, fun l hl => ?_⟩
  have h1 := rightL_hasW (List.all_eq_true.1 h.1.1 l hl)
  refine ⟨by omega, fun o ho => ?_⟩
  have := (rightO_has (List.all_eq_true.1 h1.1 o ho)).2.2.2.2.2.2.2.2.1
  omega
theorem right_text {p : List (List Opr)} (h : rightP p = true) : textS p = textP p ∧ (textP p).length ≤ 40000 := by
  refine ⟨by unfold textS; rw [if_pos h], ?_⟩
  unfold rightP at h
  simp only [Bool.and_eq_true, decide_eq_true_eq] at h
  have := textP_len h.1.1
  omega

set_option maxRecDepth 100000 in
set_option maxHeartbeats 4000000 in
theorem back_any {sl : Sl} {m : Nat} {p : List (List Opr)} (s : Tx) (w : World) (hP : RPlan w sl p) (hn : p.length = m) (hmx : s.length ≤ maxLen) (hG : Gl w) :
    Calls Tryd.prog 5 #[.slice sl.ao m sl.cap, .string (bs s)] w (Says w true) := by
  unfold maxLen at hmx
  have CG := Lib.hid (fun w (h : RPlan w sl p) => great_any w h hn)
  have CT := Lib.hid (fun (hm : MildP p) w (h : RPlan w sl p) hG => text_any w h hn hm hG)
  obtain ⟨b, hb⟩ : ∃ b, rightP p = b := ⟨_, rfl⟩
  have CR := Lib.hid (fun (hm : MildP p) w (h : RPlan w sl p) => rright_any b w h hn hm hb)
  have CS := Lib.hid (fun (hm : MildP p) (t : Sl) w (h : RPlan w sl p) (h2 : RPlan w t p) => rsame_any true w h h2 hn hn hm hm (sameP_refl p))
  obtain ⟨k, hk⟩ : ∃ n, s.length = n := ⟨_, rfl⟩
  have hlen := len_text (t := s) (hn := hk)
  have CP := Lib.hid (fun (h : s.length ≤ 100000) w hG => parse_code s w h hG)
  have HBK := Lib.hid (parseT_back s)
  obtain ⟨S, hS⟩ : ∃ x, bs s = x := ⟨_, rfl⟩
  rw [hS] at hlen CP ⊢
  have HS := Lib.hid hS
  have HSMALL := Lib.hid (show k ≤ 3000 → s.length ≤ 100000 from fun h => by omega)
  rw [hk] at hmx
  have HB := Lib.hid hb
  have HP := Lib.hid hP
  have G := Lib.hid hG
  have HN := Lib.hid hn
  unfold Says GivesL GivesS at *
  obtain ⟨ao, len, cap⟩ := sl
  clear hS hk hb hP hG hn
  dsimp only at CG CT CR CS ⊢
  go_enter Tryd.func5, Tryd.ntmps5
  go_wp2_with fail
  refine (alive_any _ G.out.base).mono ?_
  rintro e w1 ⟨rfl, t1⟩
  have T1 := Lib.hid t1
  clear t1
  go_wp2_with fail
  refine (CG.out _ (HP.out.new T1.out)).mono ?_
  rintro e w2 ⟨g, rfl, hg, t2⟩
  have T2 := Lib.hid (T1.out.trans t2)
  have HGR := Lib.hid hg
  clear t2 hg
  cases g
  case true =>
    go_wp2_with fail
    go_ret
    exact ⟨rfl, T2.out⟩
  rcases Nat.lt_or_ge 3000 k with hbig | hsm
  · go_wp2_with fail
    go_ret
    exact ⟨rfl, T2.out⟩
  have HSM := Lib.hid (HSMALL.out hsm)
  have MP := Lib.hid (HGR.out rfl).mild
  go_wp2_with fail
  refine (CR.out MP.out _ (HP.out.new T2.out)).mono ?_
  rintro e w3 ⟨rfl, t3⟩
  have T3 := Lib.hid (T2.out.trans t3)
  clear t3
  cases b
  · have htx : textS p = [] := by unfold textS; rw [if_neg (by rw [HB.out]; decide)]
    have CT0 := Lib.hid (fun w h hG => CT.out MP.out w h hG)
    rw [htx] at CT0
    have hq := lit_text [] [] (b := true) (by simp)
    obtain ⟨E0, hE0⟩ : ∃ x, bs [] = x := ⟨_, rfl⟩
    rw [hE0] at CT0 hq
    clear htx hE0
    go_wp2_with fail
    refine (CT0.out _ (HP.out.new T3.out) (G.out.new T3.out).base).mono ?_
    rintro e w4 ⟨rfl, t4⟩
    have TA := Lib.hid (T3.out.trans t4)
    clear t4
    go_wp2_with fail
    refine (CP.out HSM.out _ (G.out.new TA.out)).mono ?_
    rintro e wb ⟨tb, ⟨bo, bl, bc⟩, rfl, hb⟩
    have TB := Lib.hid (TA.out.trans tb)
    have HB := Lib.hid hb
    clear tb hb
    unfold Sl.val
    dsimp only
    rcases HBK.out with ⟨h1, h2⟩ | ⟨h1, h2, h3⟩
    · have hz : bl = 0 := by have := HB.out.ok.len; rw [h2] at this; exact this
      subst hz
      obtain ⟨nn, hnn⟩ : ∃ n, (parseT s).2 = n := ⟨_, rfl⟩
      rw [hnn] at h1 ⊢
      have hI : ((nn : Int) == 0) = false := by rw [beq_eq_false_iff_ne]; omega
      clear h2 hnn
      go_wp2_with fail
      go_ret
      exact ⟨rfl, TB.out⟩
    · rw [h1]
      have HR2 := Lib.hid h2
      have ht := right_text h2
      have CT2 := Lib.hid (fun w h hG => text_any (s := ⟨bo, bl, bc⟩) (n := bl) (p := (parseT s).1) w h HB.out.ok.len.symm (right_mild h2) hG)
      unfold GivesS at CT2
      rw [ht.1, h3, HS.out] at CT2
      clear h1 h2 h3 ht
      go_wp2_with fail
      refine (CT2.out _ HB.out (G.out.new TB.out).base).mono ?_
      rintro e wc ⟨rfl, tc⟩
      have TC := Lib.hid (TB.out.trans tc)
      clear tc
      go_wp2_with fail
      go_ret
      exact ⟨rfl, TC.out⟩
  · have ht := right_text HB.out
    have CT1 := Lib.hid (fun w h hG => CT.out MP.out w h hG)
    rw [ht.1] at CT1
    have CP1 := Lib.hid (fun w hG => parse_code (textP p) w (by have := ht.2; omega) hG)
    rw [parseT_enc HB.out] at CP1
    unfold GivesL at CP1
    dsimp only at CP1
    obtain ⟨E1, hE1⟩ : ∃ x, bs (textP p) = x := ⟨_, rfl⟩
    rw [hE1] at CT1 CP1
    clear ht hE1
    go_wp2_with fail
    refine (CT1.out _ (HP.out.new T3.out) (G.out.new T3.out).base).mono ?_
    rintro e w4 ⟨rfl, t4⟩
    have T4 := Lib.hid (T3.out.trans t4)
    clear t4
    go_wp2_with fail
    refine (CP1.out _ (G.out.new T4.out)).mono ?_
    rintro e w5 ⟨t5, ⟨qo, ql, qc⟩, rfl, hq⟩
    have T5 := Lib.hid (T4.out.trans t5)
    have HQ := Lib.hid hq
    have hql : ql = m := by have := hq.ok.len; rw [HN.out] at this; exact this
    subst hql
    clear t5 hq
    unfold Sl.val
    dsimp only
    go_wp2_with fail
    refine (CS.out MP.out ⟨qo, ql, qc⟩ _ (HP.out.new T5.out) HQ.out).mono ?_
    rintro e w6 ⟨rfl, t6⟩
    have TA := Lib.hid (T5.out.trans t6)
    clear t6
    go_wp2_with fail
    refine (CP.out HSM.out _ (G.out.new TA.out)).mono ?_
    rintro e wb ⟨tb, ⟨bo, bl, bc⟩, rfl, hb⟩
    have TB := Lib.hid (TA.out.trans tb)
    have HB := Lib.hid hb
    clear tb hb
    unfold Sl.val
    dsimp only
    rcases HBK.out with ⟨h1, h2⟩ | ⟨h1, h2, h3⟩
    · have hz : bl = 0 := by have := HB.out.ok.len; rw [h2] at this; exact this
      subst hz
      obtain ⟨nn, hnn⟩ : ∃ n, (parseT s).2 = n := ⟨_, rfl⟩
      rw [hnn] at h1 ⊢
      have hI : ((nn : Int) == 0) = false := by rw [beq_eq_false_iff_ne]; omega
      clear h2 hnn
      go_wp2_with fail
      go_ret
      exact ⟨rfl, TB.out⟩
    · rw [h1]
      have HR2 := Lib.hid h2
      have ht := right_text h2
      have CT2 := Lib.hid (fun w h hG => text_any (s := ⟨bo, bl, bc⟩) (n := bl) (p := (parseT s).1) w h HB.out.ok.len.symm (right_mild h2) hG)
      unfold GivesS at CT2
      rw [ht.1, h3, HS.out] at CT2
      clear h1 h2 h3 ht
      go_wp2_with fail
      refine (CT2.out _ HB.out (G.out.new TB.out).base).mono ?_
      rintro e wc ⟨rfl, tc⟩
      have TC := Lib.hid (TB.out.trans tc)
      clear tc
      go_wp2_with fail
      go_ret
      exact ⟨rfl, TC.out⟩
end Go.Proofs.YtfghabjpcjcllaaDoor
