/- The walk of PlanBytes. -/
import Derived.Test.YtaighbofekefkaaAlive
import Derived.Test.YtaighbofekefkaaREnc
import Derived.Test.YtaighbofekefkaaRefB
import Derived.Test.YtaighbofekefkaaConv
namespace Go.Proofs.Ytaighbofekefkaa
open Go.RowKit
set_option linter.unusedVariables false


set_option maxRecDepth 100000 in
set_option maxHeartbeats 4000000 in
theorem lbytes_any {ao : Option Addr} {n c : Nat} {B : List Int} (s : Sl) (p : List (List Opr)) (w : World) (hP : RPlan w s p) (hB : Ints .u8 w ao B) (hn : B.length = n) (hb : IsBytes B) (hmx : n ≤ maxLen) : Calls Try.prog 5 #[s.val, .slice ao n c] w (Says w true) := by
  have HMP := Lib.hid (rightP_mild (planOf_right hb))
  have hpm : s.len ≤ maxLen := Nat.le_trans hP.ok.cap hP.ok.max
  obtain ⟨po, pl, pc⟩ := s
  have HPL := Lib.hid (show p.length = pl from hP.ok.len.symm)
  unfold maxLen at hmx hpm
  dsimp only at hpm
  have HP := Lib.hid hP
  have HB := Lib.hid hB
  have HN := Lib.hid hn
  have HBY := Lib.hid hb
  clear hP hB hn hb
  unfold Says Sl.val
  dsimp only
  go_enter Try.func5, Try.ntmps5
  go_wp2_with fail
  refine (alive_any _).mono ?_
  rintro e w1 ⟨rfl, t1⟩
  have TT := Lib.hid t1
  clear t1
  go_wp2_with fail
  refine (great_any (s := ⟨po, pl, pc⟩) _ (HP.out.new TT.out) HPL.out).mono ?_
  rintro e w2 ⟨g, rfl, hg, t2⟩
  have TT := Lib.hid (TT.out.trans t2)
  have HG := Lib.hid hg
  clear t2 hg
  cases g
  · have MID := Lib.hid (HG.out rfl)
    rcases Nat.lt_or_ge 2000 n with hbig | hsmall
    · go_wp2_with fail
      go_ret
      exact ⟨rfl, TT.out⟩
    obtain ⟨r, hr⟩ : ∃ r, rightP p = r := ⟨_, rfl⟩
    have HRR := Lib.hid hr
    clear hr
    cases r
    · go_wp2_with fail
      refine (encode_no (s := ⟨po, pl, pc⟩) _ (HP.out.new TT.out) HPL.out MID.out.mild HRR.out).mono ?_
      rintro e w3 ⟨rfl, t3⟩
      have TT := Lib.hid (TT.out.trans t3)
      clear t3
      go_wp2_with fail
      refine (rencode_no (s := ⟨po, pl, pc⟩) _ (HP.out.new TT.out) HPL.out MID.out.mild HRR.out).mono ?_
      rintro e w4 ⟨rfl, t4⟩
      have TT := Lib.hid (TT.out.trans t4)
      clear t4
      obtain ⟨tx, htx⟩ : ∃ t, textOf [] = t := ⟨_, rfl⟩
      have HXW := Lib.hid (show ∀ w5, Turn (fun _ => False) w4 w5 → ∀ w6, Turn (fun _ => False) w5 w6 → ((convert 22 9 (.slice none 0 0)).run Try.prog w6 = .ok (.string tx) w6) ∧ ((convert 22 9 (.slice none 0 0)).run Try.prog w6 = .ok (.string tx) w6) from fun w5 _ w6 _ => ⟨by rw [conv_nil, htx], by rw [conv_nil, htx]⟩)
      clear htx
      go_wp2_with fail
      refine (decode_any _ (HB.out.turn TT.out (fun _ _ => id)) HN.out HBY.out (by omega)).mono ?_
      rintro e w5 ⟨⟨q1o, q1l, q1c⟩, rfl, g1, t5⟩
      unfold Sl.val
      dsimp only
      have HX := Lib.hid (HXW.out w5 t5)
      have TT := Lib.hid (TT.out.trans t5)
      have G1 := Lib.hid g1.reads
      have L1 := Lib.hid g1.len
      clear g1 t5 HXW
      go_wp2_with fail
      refine (rdecode_any _ (HB.out.turn TT.out (fun _ _ => id)) HN.out HBY.out (by omega)).mono ?_
      rintro e w6 ⟨⟨q2o, q2l, q2c⟩, rfl, g2, t6⟩
      unfold Sl.val
      dsimp only
      have HX := Lib.hid (HX.out w6 t6)
      have TT := Lib.hid (TT.out.trans t6)
      have G1 := Lib.hid (G1.out.new t6)
      have G2 := Lib.hid g2.reads
      have L2 := Lib.hid g2.len
      clear g2 t6
      obtain ⟨cx, cy⟩ := HX.out
      obtain ⟨us, hus⟩ : ∃ u, usedOf B = u := ⟨_, rfl⟩
      rw [hus]
      clear hus
      go_wp2_with fail
      refine (right_any (s := ⟨po, pl, pc⟩) false _ (HP.out.new TT.out) HPL.out MID.out.mild HRR.out).mono ?_
      rintro e w7 ⟨rfl, t7⟩
      have TT := Lib.hid (TT.out.trans t7)
      have G1 := Lib.hid (G1.out.new t7)
      have G2 := Lib.hid (G2.out.new t7)
      clear t7 cx cy
      go_wp2_with fail
      refine (rright_any (s := ⟨po, pl, pc⟩) false _ (HP.out.new TT.out) HPL.out MID.out.mild HRR.out).mono ?_
      rintro e w8 ⟨rfl, t8⟩
      have TT := Lib.hid (TT.out.trans t8)
      have G1 := Lib.hid (G1.out.new t8)
      have G2 := Lib.hid (G2.out.new t8)
      clear t8
      go_wp2_with fail
      refine (rsame_any (s := ⟨q1o, q1l, q1c⟩) (t := ⟨q2o, q2l, q2c⟩) true _ G1.out G2.out L1.out.symm L2.out.symm HMP.out HMP.out (sameP_refl _)).mono ?_
      rintro e w9 ⟨rfl, t9⟩
      have TT := Lib.hid (TT.out.trans t9)
      clear t9
      go_wp2_with fail
      go_ret
      exact ⟨rfl, TT.out⟩
    · obtain ⟨m, hm⟩ : ∃ m, (encP p).length = m := ⟨_, rfl⟩
      have HM := Lib.hid hm
      have hm0 : 0 < m := by rw [← hm]; unfold encP; simp
      have HEB := Lib.hid (encP_bytes HRR.out)
      clear hm
      go_wp2_with fail
      refine (encode_yes (s := ⟨po, pl, pc⟩) _ (HP.out.new TT.out) HPL.out HRR.out).mono ?_
      rintro e w3 ⟨v1, rfl, o1, t3⟩
      have TT := Lib.hid (TT.out.trans t3)
      obtain ⟨g1, c1, rfl, _⟩ := own_form (o1.at HM.out) hm0
      have O1 := Lib.hid o1
      clear t3 o1
      go_wp2_with fail
      refine (rencode_yes (s := ⟨po, pl, pc⟩) _ (HP.out.new TT.out) HPL.out HRR.out).mono ?_
      rintro e w4 ⟨v2, rfl, o2, t4⟩
      have TT := Lib.hid (TT.out.trans t4)
      have O1 := Lib.hid (O1.out.new t4)
      obtain ⟨g2, c2, rfl, _⟩ := own_form (o2.at HM.out) hm0
      have O2 := Lib.hid o2
      clear t4 o2
      obtain ⟨tx, htx⟩ : ∃ t, textOf (encP p) = t := ⟨_, rfl⟩
      have HXW := Lib.hid (show ∀ w5, Turn (fun _ => False) w4 w5 → ∀ w6, Turn (fun _ => False) w5 w6 → ((convert 22 9 (.slice (some ⟨g1, 0, none⟩) m c1)).run Try.prog w6 = .ok (.string tx) w6) ∧ ((convert 22 9 (.slice (some ⟨g2, 0, none⟩) m c2)).run Try.prog w6 = .ok (.string tx) w6) from fun w5 t5 w6 t6 => ⟨by rw [conv_own ((O1.out.new t5).new t6) HM.out HEB.out, htx], by rw [conv_own ((O2.out.new t5).new t6) HM.out HEB.out, htx]⟩)
      clear htx
      go_wp2_with fail
      refine (decode_any _ (HB.out.turn TT.out (fun _ _ => id)) HN.out HBY.out (by omega)).mono ?_
      rintro e w5 ⟨⟨q1o, q1l, q1c⟩, rfl, g1, t5⟩
      unfold Sl.val
      dsimp only
      have HX := Lib.hid (HXW.out w5 t5)
      have TT := Lib.hid (TT.out.trans t5)
      have G1 := Lib.hid g1.reads
      have L1 := Lib.hid g1.len
      clear g1 t5 HXW
      go_wp2_with fail
      refine (rdecode_any _ (HB.out.turn TT.out (fun _ _ => id)) HN.out HBY.out (by omega)).mono ?_
      rintro e w6 ⟨⟨q2o, q2l, q2c⟩, rfl, g2, t6⟩
      unfold Sl.val
      dsimp only
      have HX := Lib.hid (HX.out w6 t6)
      have TT := Lib.hid (TT.out.trans t6)
      have G1 := Lib.hid (G1.out.new t6)
      have G2 := Lib.hid g2.reads
      have L2 := Lib.hid g2.len
      clear g2 t6
      obtain ⟨cx, cy⟩ := HX.out
      obtain ⟨us, hus⟩ : ∃ u, usedOf B = u := ⟨_, rfl⟩
      rw [hus]
      clear hus
      go_wp2_with fail
      refine (right_any (s := ⟨po, pl, pc⟩) true _ (HP.out.new TT.out) HPL.out MID.out.mild HRR.out).mono ?_
      rintro e w7 ⟨rfl, t7⟩
      have TT := Lib.hid (TT.out.trans t7)
      have G1 := Lib.hid (G1.out.new t7)
      have G2 := Lib.hid (G2.out.new t7)
      clear t7 cx cy
      go_wp2_with fail
      refine (rright_any (s := ⟨po, pl, pc⟩) true _ (HP.out.new TT.out) HPL.out MID.out.mild HRR.out).mono ?_
      rintro e w8 ⟨rfl, t8⟩
      have TT := Lib.hid (TT.out.trans t8)
      have G1 := Lib.hid (G1.out.new t8)
      have G2 := Lib.hid (G2.out.new t8)
      clear t8
      go_wp2_with fail
      refine (rsame_any (s := ⟨q1o, q1l, q1c⟩) (t := ⟨q2o, q2l, q2c⟩) true _ G1.out G2.out L1.out.symm L2.out.symm HMP.out HMP.out (sameP_refl _)).mono ?_
      rintro e w9 ⟨rfl, t9⟩
      have TT := Lib.hid (TT.out.trans t9)
      clear t9
      go_wp2_with fail
      go_ret
      exact ⟨rfl, TT.out⟩
  · go_wp2_with fail
    go_ret
    exact ⟨rfl, TT.out⟩

end Go.Proofs.Ytaighbofekefkaa
