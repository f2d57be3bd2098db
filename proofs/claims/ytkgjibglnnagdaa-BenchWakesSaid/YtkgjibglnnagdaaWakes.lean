/- The walk of BenchWakes. -/
import Derived.Test.YtkgjibglnnagdaaNew
namespace Go.Proofs.Ytkgjibglnnagdaa
open Go.RowKit
set_option linter.unusedVariables false

/-- The bench of one, as BenchWakes goes. -/
structure On (w0 wx : World) (p : Nat) (v : Value) (L : List One) : Prop where
  here : IsB wx w0.heap.size p v L
  t : Turn (fun _ => False) w0 wx
section
variable {w0 wx w' : World} {p : Nat} {v : Value} {L L' : List One}
theorem On.new (h : On w0 wx p v L) (t : Turn (fun _ => False) wx w') : On w0 w' p v L := ⟨h.here.new t, h.t.trans t⟩
theorem On.kept (h : On w0 wx p v L) (k : Kept w0.heap.size p v L' wx w') : On w0 w' p v L' :=
  ⟨k.1, h.t.and k.2 (fun i hi e => by have := (h.here.blocks e).1; omega)⟩
end


set_option maxRecDepth 100000 in
set_option maxHeartbeats 4000000 in
theorem lwakes_any {ao : Option Addr} {al ac : Nat} {A : List Bool} (w : World) (hA : Bools w ao A) (hAl : A.length = al) (hL : al ≤ 200) :
    Calls Try.prog 4 #[.slice ao al ac] w fun e w' => e = .returned (.bool true) ∧ Turn (fun _ => False) w w' := by
  have HA := Lib.hid hA
  have HAL := Lib.hid hAl
  clear hA hAl
  go_enter Try.func4, Try.ntmps4
  go_wp2_with fail
  refine (alive_any w).mono ?_
  rintro e w1 ⟨rfl, t1⟩
  have T1 := Lib.hid t1
  clear t1
  go_wp2_with fail
  refine (new_any w1 (by decide)).mono ?_
  rintro e w2 ⟨p, v, rfl, h2, t2⟩
  have e1 : allRun (newN 1) = [(0, false)] := by decide
  rw [e1] at h2
  have HU : Hid (On w w2 p v [(0, false)]) := Lib.hid ⟨h2.less T1.out.size, T1.out.trans t2⟩
  clear h2 t2 e1 T1
  go_wp2_with fail
  go_loopw [21] (fun s21 wr => ∃ j : Nat, j ≤ al ∧ s21 = .int .i64 j ∧ Hid (On w wr p v [(0, false)])) (fun s21 _ => al - (intOf s21).toNat)
  case atStart => exact ⟨0, Nat.zero_le _, rfl, HU⟩
  case round =>
    clear HU
    obtain ⟨j, hj, rfl, HU⟩ := hrel
    by_cases hlt : j < al
    · obtain ⟨ad, hao, c0⟩ := (HA.out.turn HU.out.t (fun _ _ => id)) j (by rw [HAL.out]; exact hlt)
      subst hao
      cases hb : A.getD j false with
      | true =>
        rw [hb] at c0
        clear hb
        go_wp2_with fail
        refine (ready_any (b := true) wr HU.out.here (by decide)).mono ?_
        rintro e w3 ⟨rfl, k'⟩
        have U3 : Hid (On w w3 p v [(0, true)]) := Lib.hid (HU.out.kept k')
        clear k' c0 HU
        go_wp2_with fail
        refine (ready_any (b := false) w3 U3.out.here (by decide)).mono ?_
        rintro e w4 ⟨rfl, k'⟩
        have U4 : Hid (On w w4 p v [(0, true)]) := Lib.hid (U3.out.kept k')
        clear k' U3
        go_wp2_with fail
        refine (park_any (b := false) w4 U4.out.here (by decide)).mono ?_
        rintro e w5 ⟨rfl, k'⟩
        have UE : Hid (On w w5 p v [(0, false)]) := Lib.hid (U4.out.kept k')
        clear k' U4
        go_wp2_with fail
        refine (status_any (x := 0) _ UE.out.here (by decide)).mono ?_
        rintro e w' ⟨rfl, rfl⟩
        go_wp2_with fail
        refine (token_any (b := false) _ UE.out.here (by decide)).mono ?_
        rintro e w' ⟨rfl, rfl⟩
        go_wp2_with fail
        refine (running_any _ UE.out.here (n := 1) (nh := 1) rfl (by decide)).mono ?_
        rintro e w9 ⟨b9, c9, rfl, _, _, _, _, _, t9⟩
        have U9 := Lib.hid (UE.out.new t9)
        clear t9
        go_wp2_with fail
        go_roundw
        case rel => exact ⟨j + 1, by omega, by go_num, U9⟩
        case measure => simp [intOf]; omega
      | false =>
        rw [hb] at c0
        clear hb
        go_wp2_with fail
        refine (park_any (b := true) wr HU.out.here (by decide)).mono ?_
        rintro e w3 ⟨rfl, k'⟩
        have U3 : Hid (On w w3 p v [(1, false)]) := Lib.hid (HU.out.kept k')
        clear k' c0 HU
        go_wp2_with fail
        refine (park_any (b := false) w3 U3.out.here (by decide)).mono ?_
        rintro e w4 ⟨rfl, k'⟩
        have U4 : Hid (On w w4 p v [(1, false)]) := Lib.hid (U3.out.kept k')
        clear k' U3
        go_wp2_with fail
        refine (end_any (b := false) w4 U4.out.here (by decide)).mono ?_
        rintro e w5 ⟨rfl, k'⟩
        have U5 : Hid (On w w5 p v [(1, false)]) := Lib.hid (U4.out.kept k')
        clear k' U4
        go_wp2_with fail
        refine (running_any w5 U5.out.here (n := 1) (nh := 0) rfl (by decide)).mono ?_
        rintro e w6 ⟨b6, c6, rfl, _, _, _, _, _, t6⟩
        have U6 := Lib.hid (U5.out.new t6)
        clear t6 U5
        go_wp2_with fail
        refine (ready_any (b := true) w6 U6.out.here (by decide)).mono ?_
        rintro e w7 ⟨rfl, k'⟩
        have UE : Hid (On w w7 p v [(0, false)]) := Lib.hid (U6.out.kept k')
        clear k' U6
        go_wp2_with fail
        refine (status_any (x := 0) _ UE.out.here (by decide)).mono ?_
        rintro e w' ⟨rfl, rfl⟩
        go_wp2_with fail
        refine (token_any (b := false) _ UE.out.here (by decide)).mono ?_
        rintro e w' ⟨rfl, rfl⟩
        go_wp2_with fail
        refine (running_any _ UE.out.here (n := 1) (nh := 1) rfl (by decide)).mono ?_
        rintro e w9 ⟨b9, c9, rfl, _, _, _, _, _, t9⟩
        have U9 := Lib.hid (UE.out.new t9)
        clear t9
        go_wp2_with fail
        go_roundw
        case rel => exact ⟨j + 1, by omega, by go_num, U9⟩
        case measure => simp [intOf]; omega
    · go_wp2_with fail
      refine (end_any (b := true) wr HU.out.here (by decide)).mono ?_
      rintro e w3 ⟨rfl, k'⟩
      have U3 : Hid (On w w3 p v [(2, false)]) := Lib.hid (HU.out.kept k')
      clear k' HU
      go_wp2_with fail
      refine (ready_any (b := false) w3 U3.out.here (by decide)).mono ?_
      rintro e w4 ⟨rfl, k'⟩
      have U4 : Hid (On w w4 p v [(2, false)]) := Lib.hid (U3.out.kept k')
      clear k' U3
      go_wp2_with fail
      refine (park_any (b := false) w4 U4.out.here (by decide)).mono ?_
      rintro e w5 ⟨rfl, k'⟩
      have U5 : Hid (On w w5 p v [(2, false)]) := Lib.hid (U4.out.kept k')
      clear k' U4
      go_wp2_with fail
      refine (status_any (x := 2) w5 U5.out.here (by decide)).mono ?_
      rintro e w' ⟨rfl, rfl⟩
      go_wp2_with fail
      go_ret
      exact ⟨rfl, U5.out.t⟩

theorem lwakes_out {ao : Option Addr} {al ac : Nat} (w : World) (hL : al ≤ maxLen) (h : 200 < al) :
    Calls Try.prog 4 #[.slice ao al ac] w fun e w' => e = .returned (.bool true) ∧ Turn (fun _ => False) w w' := by
  unfold maxLen at hL
  go_enter Try.func4, Try.ntmps4
  go_wp2_with fail
  refine (alive_any w).mono ?_
  rintro e w1 ⟨rfl, t1⟩
  have T1 := Lib.hid t1
  clear t1
  go_wp2_with fail
  refine (new_any w1 (by decide)).mono ?_
  rintro e w2 ⟨p, v, rfl, h2, t2⟩
  have T2 := Lib.hid (T1.out.trans t2)
  clear h2 t2
  go_wp2_with fail
  go_ret
  exact ⟨rfl, T2.out⟩

end Go.Proofs.Ytkgjibglnnagdaa
