/- The law WordsReads. -/
import Derived.Test.YtfghabjpcjcllaaDoorCBack
import Derived.Test.YtfghabjpcjcllaaDoorRParse
namespace Go.Proofs.YtfghabjpcjcllaaDoor
open Go.RowKit
set_option linter.unusedVariables false

theorem parsed_mild (s : Tx) : MildP (parseT s).1 := by
  rcases parseT_back s with ⟨_, h⟩ | ⟨_, h, _⟩
  · rw [h]
    exact ⟨by simp, fun l hl => by cases hl⟩
  · exact right_mild h
set_option maxRecDepth 100000 in
set_option maxHeartbeats 4000000 in
theorem reads_any (s : Tx) (w : World) (hmx : s.length ≤ maxLen) (hG : Gl w) :
    Calls Tryd.prog 4 #[.string (bs s)] w (Says w true) := by
  unfold maxLen at hmx
  obtain ⟨k, hk⟩ : ∃ n, s.length = n := ⟨_, rfl⟩
  have hlen := len_text (t := s) (hn := hk)
  have CP := Lib.hid (fun (h : s.length ≤ 100000) w hG => parse_code s w h hG)
  have CD := Lib.hid (fun (h : s.length ≤ 100000) w => rparse_any s w h)
  have HM := Lib.hid (parsed_mild s)
  obtain ⟨⟨p, nn⟩, hp⟩ : ∃ r, parseT s = r := ⟨_, rfl⟩
  rw [hp] at CP CD HM
  obtain ⟨S, hS⟩ : ∃ x, bs s = x := ⟨_, rfl⟩
  rw [hS] at hlen CP CD ⊢
  have HSMALL := Lib.hid (show k ≤ 3000 → s.length ≤ 100000 from fun h => by omega)
  rw [hk] at hmx
  have G := Lib.hid hG
  unfold Says GivesL at *
  clear hS hk hp hG
  dsimp only at CP CD HM ⊢
  go_enter Tryd.func4, Tryd.ntmps4
  go_wp2_with fail
  refine (alive_any _ G.out.base).mono ?_
  rintro e w1 ⟨rfl, t1⟩
  have T1 := Lib.hid t1
  clear t1
  rcases Nat.lt_or_ge 3000 k with hbig | hsm
  · go_wp2_with fail
    go_ret
    exact ⟨rfl, T1.out⟩
  have HSM := Lib.hid (HSMALL.out hsm)
  go_wp2_with fail
  refine (CP.out HSM.out _ (G.out.new T1.out)).mono ?_
  rintro e w2 ⟨t2, ⟨ao, al, ac⟩, rfl, ha⟩
  have T2 := Lib.hid (T1.out.trans t2)
  have HA := Lib.hid ha
  clear t2 ha
  unfold Sl.val
  dsimp only
  go_wp2_with fail
  refine (CD.out HSM.out _).mono ?_
  rintro e w3 ⟨t3, ⟨bo, bl, bc⟩, rfl, hb⟩
  have T3 := Lib.hid (T2.out.trans t3)
  have HA3 := Lib.hid (HA.out.new t3)
  have CS := Lib.hid (rsame_any (s := ⟨ao, al, ac⟩) (t := ⟨bo, bl, bc⟩) true w3 HA3.out hb HA3.out.ok.len.symm hb.ok.len.symm HM.out HM.out (sameP_refl p))
  unfold Says at CS
  clear t3 hb
  dsimp only at CS ⊢
  go_wp2_with fail
  refine CS.out.mono ?_
  rintro e w4 ⟨rfl, t4⟩
  have T4 := Lib.hid (T3.out.trans t4)
  clear t4
  go_wp2_with fail
  go_ret
  exact ⟨rfl, T4.out⟩
end Go.Proofs.YtfghabjpcjcllaaDoor
