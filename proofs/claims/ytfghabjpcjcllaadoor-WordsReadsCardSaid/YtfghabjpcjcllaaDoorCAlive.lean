/- The laws' first step: the chapter's examples. -/
import Derived.Test.YtfghabjpcjcllaaDoorCOp
import Derived.Test.YtfghabjpcjcllaaDoorCRes
namespace Go.Proofs.YtfghabjpcjcllaaDoor
open Go.RowKit
set_option linter.unusedVariables false

theorem num_digit {d : Nat} (h : d < 10) : numT d = [dig d] := by
  unfold numT Lib.itoa
  rw [if_neg (by omega)]
  simpa using dec_small h
def opX : Opr := ⟨9, 0, 0, 0, [⟨false, 1, 0⟩], true⟩
def wordX : Tx := [115, 101, 108, 101, 99, 116, 32, 124, 32, 114, 101, 99, 118, 32, 49, 32, 124, 32, 101, 108, 115, 101]
def resX : Tx := [100, 111, 110, 101, 32, 55, 32, 111, 107, 32, 48]
theorem opX_is : opS opX = wordX := by
  unfold opS
  rw [if_pos (by decide), opT_is]
  have h1 : numT 1 = [49] := num_digit (d := 1) (by decide)
  simp [opX, headT, headW, chT, vT, caseT, elseT, joinT, wSelect, hasV, h1, wordX]
theorem resX_is : resT 1 (-1) 7 true 0 = resX := by
  have h7 : numT 7 = [55] := num_digit (d := 7) (by decide)
  have h0 : numT 0 = [48] := num_digit (d := 0) (by decide)
  simp [resT, resCase, h7, h0, resX]

set_option maxRecDepth 100000 in
set_option maxHeartbeats 2000000 in
theorem alive_any (w : World) (hG : Gl0 w) : Calls Tryd.prog 6 #[] w (Says w true) := by
  unfold Says
  have hb : Blk (w.alloc (.cells #[.bool false, .int .i64 1, .int .i64 0] 40)) w.heap.size 40 [.bool false, .int .i64 1, .int .i64 0] := blk_new w _ 40
  have T0 := Lib.hid ((Turn.refl (fun _ => False) w).alloc (.cells #[.bool false, .int .i64 1, .int .i64 0] 40))
  have G0 := Lib.hid (hG.new T0.out)
  have RO : Hid (ROp (w.alloc (.cells #[.bool false, .int .i64 1, .int .i64 0] 40)) ⟨9, 0, 0, 0, ⟨some ⟨w.heap.size, 0, none⟩, 1, 1⟩, true⟩ opX) := Lib.hid ⟨rfl, rfl, rfl, rfl, rfl, ⟨⟨rfl, Nat.le_refl _, (show 1 ≤ maxLen by decide), fun h => by simp at h⟩, fun j x hj => by
    match j with
    | 0 =>
      simp [opX] at hj
      subst hj
      refine ⟨_, rfl, fun k u hk => ?_⟩
      match k with
      | 0 => simp [encCV] at hk; subst hk; exact hb.c 0 rfl
      | 1 => simp [encCV] at hk; subst hk; exact hb.c 1 rfl
      | 2 => simp [encCV] at hk; subst hk; exact hb.c 2 rfl
      | k + 3 => simp [encCV] at hk
    | j + 1 => simp [opX] at hj⟩⟩
  have CO := Lib.hid (op_any _ opX _ RO.out (by decide) G0.out)
  have CR := Lib.hid (fun w hG => res_any 1 (-1) 7 0 true w (by unfold I64; omega) (by unfold I64; omega) (by unfold I64; omega) (by unfold I64; omega) hG)
  rw [opX_is] at CO
  rw [resX_is] at CR
  unfold GivesS bs wordX resX at *
  unfold OpV.val Sl.val at CO
  dsimp only at CO
  clear hb RO hG
  go_enter Tryd.func6, Tryd.ntmps6
  go_wp2_with fail
  refine CO.out.mono ?_
  rintro e w1 ⟨rfl, t1⟩
  have T1 := Lib.hid (T0.out.trans t1)
  have G1 := Lib.hid (G0.out.new t1)
  clear t1
  go_wp2_with fail
  refine (CR.out _ G1.out).mono ?_
  rintro e w2 ⟨rfl, t2⟩
  have T2 := Lib.hid (T1.out.trans t2)
  clear t2
  go_wp2_with fail
  go_ret
  exact ⟨rfl, T2.out⟩
end Go.Proofs.YtfghabjpcjcllaaDoor
