/- The walk of LatchOne. -/
import Derived.Test.YtkgkogbegbodjaaRuns
import Derived.Test.YtkgkogbegbodjaaGSkip
namespace Go.Proofs.Ytkgkogbegbodjaa
open Go.RowKit
set_option linter.unusedVariables false

/-- The locks, as LatchOne goes. -/
structure On (w0 wx : World) (p : Nat) (v : Value) (L : List Int) : Prop where
  here : IsL wx w0.heap.size p v L
  t : Turn (fun _ => False) w0 wx
  n : L.length = 6
section
variable {w0 wx w' : World} {p : Nat} {v : Value} {L L' : List Int}
theorem On.new (h : On w0 wx p v L) (t : Turn (fun _ => False) wx w') : On w0 w' p v L := ⟨h.here.new t, h.t.trans t, h.n⟩
theorem On.kept (h : On w0 wx p v L) (k : Kept w0.heap.size p v L' wx w') (hn : L'.length = L.length) : On w0 w' p v L' :=
  ⟨k.1, h.t.and k.2 (fun i hi e => by have := (h.here.blocks e).1; omega), hn.trans h.n⟩
end

set_option maxRecDepth 100000 in
set_option maxHeartbeats 4000000 in
theorem lone_any {ao : Option Addr} {al ac : Nat} {A : List (Int × Int × Int)} (w : World) (hA : Acts w ao A) (hAl : A.length = al) (hL : al ≤ 100) :
    Calls Try.prog 4 #[.slice ao al ac] w fun e w' => e = .returned (.bool true) ∧ Turn (fun _ => False) w w' := by
  have HA := Lib.hid hA
  have HAL := Lib.hid hAl
  clear hA hAl
  go_enter Try.func4, Try.ntmps4
  go_wp2_with fail
  refine (alive_any w).mono ?_
  rintro e w1 ⟨rfl, t1⟩
  have T1 := Lib.hid t1
  clear t1
  go_wp2_with fail
  refine (new_any w1 (by decide)).mono ?_
  rintro e w2 ⟨p, v, rfl, h2, t2⟩
  have e6 : newN 6 = 6 := by decide
  rw [e6] at h2
  have HU : Hid (On w w2 p v (List.replicate 6 (-1))) := Lib.hid ⟨h2.less T1.out.size, T1.out.trans t2, by simp⟩
  clear h2 t2 e6 T1
  go_wp2_with fail
  go_loopw [26] (fun s26 wr => ∃ (j : Nat) (L : List Int), j ≤ al ∧ s26 = .int .i64 j ∧ Hid (On w wr p v L)) (fun s26 _ => al - (intOf s26).toNat)
  case atStart => exact ⟨0, _, Nat.zero_le _, rfl, HU⟩
  case round =>
    clear HU
    obtain ⟨j, L, hj, rfl, HU⟩ := hrel
    by_cases hlt : j < al
    · obtain ⟨ad, hao, c0, c1, c2⟩ := (HA.out.turn HU.out.t (fun _ _ => id)) j (by rw [HAL.out]; exact hlt)
      subst hao
      have d1 : wr.cell? ⟨(ad.add (j * 3)).block, (ad.add (j * 3)).off + 1, none⟩ = some (.int .i64 (A.getD j (0, 0, 0)).2.1) := c1
      have d2 : wr.cell? ⟨(ad.add (j * 3)).block, (ad.add (j * 3)).off + 2, none⟩ = some (.int .i64 (A.getD j (0, 0, 0)).2.2) := c2
      clear c1 c2
      generalize (A.getD j (0, 0, 0)).1 = kd at c0
      generalize (A.getD j (0, 0, 0)).2.1 = gg at d1
      generalize (A.getD j (0, 0, 0)).2.2 = xx at d2
      go_upto_region 9 with fail
      have U1 := Lib.hid (HU.out.new ((Turn.refl (fun _ => False) wr).alloc (.cells #[.int .i64 kd, .int .i64 gg, .int .i64 xx] 29)))
      have HBB := Lib.hid (show ¬ QL p v wr.heap.size from fun e => by have := (HU.out.here.blocks e).2; omega)
      have V0 : (wr.alloc (.cells #[.int .i64 kd, .int .i64 gg, .int .i64 xx] 29)).cell? ⟨wr.heap.size, 0, none⟩ = some (.int .i64 kd) := by simp [go_sem]
      have V1 : (wr.alloc (.cells #[.int .i64 kd, .int .i64 gg, .int .i64 xx] 29)).cell? ⟨wr.heap.size, 1, none⟩ = some (.int .i64 gg) := by simp [go_sem]
      have V2 : (wr.alloc (.cells #[.int .i64 kd, .int .i64 gg, .int .i64 xx] 29)).cell? ⟨wr.heap.size, 2, none⟩ = some (.int .i64 xx) := by simp [go_sem]
      generalize wr.alloc (.cells #[.int .i64 kd, .int .i64 gg, .int .i64 xx] 29) = wv at U1 V0 V1 V2 ⊢
      generalize wr.heap.size = BB at HBB V0 V1 V2 ⊢
      clear c0 d1 d2 HU
      obtain ⟨x, hx⟩ : ∃ x, ownL L gg = x := ⟨_, rfl⟩
      by_cases k0 : kd = 0
      · have e0 : (kd == 0) = true := by simpa using k0
        clear k0
        cases hb : tryB L gg xx with
        | true =>
          have hy := tryB_yes hb
          rw [hx] at hy
          obtain ⟨rfl, hy⟩ := hy
          have HX := Lib.hid hx
          have HB := Lib.hid hb
          have HY := Lib.hid hy
          clear hb hy hx
          go_wp2_with fail
          refine (owner_any wv U1.out.here HX.out).mono ?_
          rintro e w3 ⟨rfl, rfl⟩
          go_wp2_with fail
          refine (try_any wv U1.out.here HB.out).mono ?_
          rintro e w4 ⟨rfl, k4⟩
          have U4 := Lib.hid (U1.out.kept k4 (tryL_length L gg xx))
          have VB1 := k4.2.cell (p := ⟨BB, 1, none⟩) HBB.out V1
          have VB2 := k4.2.cell (p := ⟨BB, 2, none⟩) HBB.out V2
          clear k4 V0 V1 V2 U1
          go_upto_region 12 with fail
          have TD := Lib.hid (Turn.refl (fun _ => False) w4).drew
          have UD := Lib.hid (U4.out.new TD.out)
          refine stand_start (by kernel_rfl) 99 (fun w' => w'.cell? ⟨BB, 1, none⟩ = some (.int .i64 gg) ∧ w'.cell? ⟨BB, 2, none⟩ = some (.int .i64 xx)) 99 (fun w' => True) ⟨VB1, VB2⟩ trivial ?_
          have KEEP := Lib.hid (show w4.drew.cell? ⟨BB, 1, none⟩ = some (.int .i64 gg) ∧ w4.drew.cell? ⟨BB, 2, none⟩ = some (.int .i64 xx) from ⟨VB1, VB2⟩)
          clear VB1 VB2 U4
          refine stand_take (i := 0) (v := ?_) rfl (by kernel_rfl) (by kernel_rfl) (by kernel_rfl) (by rfl) (fun _ _ _ h => h) (by decide) (by decide) (by rfl) ?_ ?_
          rotate_left
          · (intro w; go_simp; try with_reducible rfl)
          dsimp only [List.set_cons_zero, List.set_cons_succ]
          refine stand_take (i := 1) (v := ?_) rfl (by kernel_rfl) (by kernel_rfl) (by kernel_rfl) (by rfl) (fun _ _ _ h => h) (by decide) (by decide) (by rfl) ?_ ?_
          rotate_left
          · (intro w; go_simp; try with_reducible rfl)
          dsimp only [List.set_cons_zero, List.set_cons_succ]
          refine stand_take (i := 2) (v := ?_) rfl (by kernel_rfl) (by kernel_rfl) (by kernel_rfl) (by rfl) (fun _ _ _ h => h) (by decide) (by decide) (by rfl) ?_ ?_
          rotate_left
          · (intro w; go_simp; try with_reducible rfl)
          dsimp only [List.set_cons_zero, List.set_cons_succ]
          refine stand_take (i := 3) (v := ?_) rfl (by kernel_rfl) (by kernel_rfl) (by kernel_rfl) (by rfl) (fun _ _ _ h => h) (by decide) (by decide) (by rfl) ?_ ?_
          rotate_left
          · (intro w; go_simp; try with_reducible rfl)
          dsimp only [List.set_cons_zero, List.set_cons_succ]
          refine stand_take (i := 4) (v := ?_) rfl (by kernel_rfl) (by kernel_rfl) (by kernel_rfl) (by rfl) (fun _ _ _ h => h) (by decide) (by decide) (by rfl) ?_ ?_
          rotate_left
          · (intro w; go_simp; try with_reducible rfl)
          dsimp only [List.set_cons_zero, List.set_cons_succ]
          refine stand_take (i := 5) (v := ?_) rfl (by kernel_rfl) (by kernel_rfl) (by kernel_rfl) (by rfl) (fun _ _ _ h => h) (by decide) (by decide) (by rfl) ?_ ?_
          rotate_left
          · (intro w; go_simp; try with_reducible rfl)
          dsimp only [List.set_cons_zero, List.set_cons_succ]
          refine stand_take (i := 6) (v := ?_) rfl (by kernel_rfl) (by kernel_rfl) (by kernel_rfl) (by rfl) (fun _ _ _ h => h) (by decide) (by decide) (by rfl) ?_ ?_
          rotate_left
          · (intro w; go_simp; try with_reducible rfl)
          dsimp only [List.set_cons_zero, List.set_cons_succ]
          refine stand_take (i := 9) (v := ?_) rfl (by kernel_rfl) (by kernel_rfl) (by kernel_rfl) (by rfl) (fun _ _ _ h => h) (by decide) (by decide) (by rfl) ?_ ?_
          rotate_left
          · (intro w; go_simp; try with_reducible rfl)
          dsimp only [List.set_cons_zero, List.set_cons_succ]
          refine stand_load3 (i := 7) (v := ?_) rfl (by kernel_rfl) (by kernel_rfl) (by kernel_rfl) (by rfl) (fun _ _ _ h => h) (by decide) (by decide) (by kernel_rfl) (by rfl) ?_ ?_
          rotate_left
          · (intro w hA; (try dsimp only at hA); go_simp; try with_reducible rfl)
          dsimp only [List.set_cons_zero, List.set_cons_succ]
          refine stand_load3 (i := 10) (v := ?_) rfl (by kernel_rfl) (by kernel_rfl) (by kernel_rfl) (by rfl) (fun _ _ _ h => h) (by decide) (by decide) (by kernel_rfl) (by rfl) ?_ ?_
          rotate_left
          · (intro w hA; (try dsimp only at hA); go_simp; try with_reducible rfl)
          dsimp only [List.set_cons_zero, List.set_cons_succ]
          refine stand_step (i := 8) (by kernel_rfl) rfl (fun K hK => ?_)
          go_simp
          refine (owner_any _ UD.out.here HY.out).mono ?_
          rintro e w5 ⟨rfl, rfl⟩
          refine hK.out _ _ (fun _ => KEEP.out) (fun _ => trivial) ?_
          clear hK K
          try simp only [put_laid, List.set_cons_zero, List.set_cons_succ]
          refine stand_take (i := 11) (v := ?_) rfl (by kernel_rfl) (by kernel_rfl) (by kernel_rfl) (by rfl) (fun _ _ _ h => h) (by decide) (by decide) (by rfl) ?_ ?_
          rotate_left
          · (intro w; go_simp; try with_reducible rfl)
          dsimp only [List.set_cons_zero, List.set_cons_succ]
          refine stand_take (i := 12) (v := ?_) rfl (by kernel_rfl) (by kernel_rfl) (by kernel_rfl) (by rfl) (fun _ _ _ h => h) (by decide) (by decide) (by rfl) ?_ ?_
          rotate_left
          · (intro w; go_simp; try with_reducible rfl)
          dsimp only [List.set_cons_zero, List.set_cons_succ]
          refine stand_take (i := 13) (v := ?_) rfl (by kernel_rfl) (by kernel_rfl) (by kernel_rfl) (by rfl) (fun _ _ _ h => h) (by decide) (by decide) (by rfl) ?_ ?_
          rotate_left
          · (intro w; go_simp; try with_reducible rfl)
          dsimp only [List.set_cons_zero, List.set_cons_succ]
          refine stand_take (i := 14) (v := ?_) rfl (by kernel_rfl) (by kernel_rfl) (by kernel_rfl) (by rfl) (fun _ _ _ h => h) (by decide) (by decide) (by rfl) ?_ ?_
          rotate_left
          · (intro w; go_simp; try with_reducible rfl)
          dsimp only [List.set_cons_zero, List.set_cons_succ]
          refine stand_take (i := 15) (v := ?_) rfl (by kernel_rfl) (by kernel_rfl) (by kernel_rfl) (by rfl) (fun _ _ _ h => h) (by decide) (by decide) (by rfl) ?_ ?_
          rotate_left
          · (intro w; go_simp; try with_reducible rfl)
          dsimp only [List.set_cons_zero, List.set_cons_succ]
          refine stand_take (i := 16) (v := ?_) rfl (by kernel_rfl) (by kernel_rfl) (by kernel_rfl) (by rfl) (fun _ _ _ h => h) (by decide) (by decide) (by rfl) ?_ ?_
          rotate_left
          · (intro w; go_simp; try with_reducible rfl)
          dsimp only [List.set_cons_zero, List.set_cons_succ]
          refine stand_take (i := 17) (v := ?_) rfl (by kernel_rfl) (by kernel_rfl) (by kernel_rfl) (by rfl) (fun _ _ _ h => h) (by decide) (by decide) (by rfl) ?_ ?_
          rotate_left
          · (intro w; go_simp; try with_reducible rfl)
          dsimp only [List.set_cons_zero, List.set_cons_succ]
          refine stand_skip (i := 18) rfl (by kernel_rfl) (by kernel_rfl) (by kernel_rfl) (by rfl) (fun _ _ _ h => h) (by decide) (by decide) (by rfl) ?_
          dsimp only [List.set_cons_zero, List.set_cons_succ]
          refine stand_skip (i := 19) rfl (by kernel_rfl) (by kernel_rfl) (by kernel_rfl) (by rfl) (fun _ _ _ h => h) (by decide) (by decide) (by rfl) ?_
          dsimp only [List.set_cons_zero, List.set_cons_succ]
          refine stand_skip (i := 20) rfl (by kernel_rfl) (by kernel_rfl) (by kernel_rfl) (by rfl) (fun _ _ _ h => h) (by decide) (by decide) (by rfl) ?_
          dsimp only [List.set_cons_zero, List.set_cons_succ]
          refine stand_skip (i := 22) rfl (by kernel_rfl) (by kernel_rfl) (by kernel_rfl) (by rfl) (fun _ _ _ h => h) (by decide) (by decide) (by rfl) ?_
          dsimp only [List.set_cons_zero, List.set_cons_succ]
          refine stand_skip (i := 21) rfl (by kernel_rfl) (by kernel_rfl) (by kernel_rfl) (by rfl) (fun _ _ _ h => h) (by decide) (by decide) (by rfl) ?_
          dsimp only [List.set_cons_zero, List.set_cons_succ]
          refine stand_skip (i := 23) rfl (by kernel_rfl) (by kernel_rfl) (by kernel_rfl) (by rfl) (fun _ _ _ h => h) (by decide) (by decide) (by rfl) ?_
          dsimp only [List.set_cons_zero, List.set_cons_succ]
          refine stand_take (i := 24) (v := ?_) rfl (by kernel_rfl) (by kernel_rfl) (by kernel_rfl) (by rfl) (fun _ _ _ h => h) (by decide) (by decide) (by rfl) ?_ ?_
          rotate_left
          · (intro w; go_simp; try with_reducible rfl)
          dsimp only [List.set_cons_zero, List.set_cons_succ]
          refine stand_take (i := 25) (v := ?_) rfl (by kernel_rfl) (by kernel_rfl) (by kernel_rfl) (by rfl) (fun _ _ _ h => h) (by decide) (by decide) (by rfl) ?_ ?_
          rotate_left
          · (intro w; go_simp; try with_reducible rfl)
          dsimp only [List.set_cons_zero, List.set_cons_succ]
          refine stand_done (by kernel_rfl) ?_
          go_wp2_with fail
          go_roundw
          case rel => exact ⟨j + 1, _, by omega, by go_num, UD⟩
          case measure => simp [intOf]; omega
        | false =>
          have HX := Lib.hid hx
          have HB := Lib.hid hb
          have HL := Lib.hid (tryB_no hb)
          clear hb hx
          go_wp2_with fail
          refine (owner_any wv U1.out.here HX.out).mono ?_
          rintro e w3 ⟨rfl, rfl⟩
          go_wp2_with fail
          refine (try_any wv U1.out.here HB.out).mono ?_
          rintro e w4 ⟨rfl, k4⟩
          rw [HL.out] at k4
          have U4 := Lib.hid (U1.out.kept k4 rfl)
          have VB1 := k4.2.cell (p := ⟨BB, 1, none⟩) HBB.out V1
          have VB2 := k4.2.cell (p := ⟨BB, 2, none⟩) HBB.out V2
          clear k4 V0 V1 V2 U1
          go_upto_region 12 with fail
          have TD := Lib.hid (Turn.refl (fun _ => False) w4).drew
          have UD := Lib.hid (U4.out.new TD.out)
          refine stand_start (by kernel_rfl) 99 (fun w' => w'.cell? ⟨BB, 1, none⟩ = some (.int .i64 gg) ∧ w'.cell? ⟨BB, 2, none⟩ = some (.int .i64 xx)) 99 (fun w' => True) ⟨VB1, VB2⟩ trivial ?_
          have KEEP := Lib.hid (show w4.drew.cell? ⟨BB, 1, none⟩ = some (.int .i64 gg) ∧ w4.drew.cell? ⟨BB, 2, none⟩ = some (.int .i64 xx) from ⟨VB1, VB2⟩)
          clear VB1 VB2 U4
          refine stand_take (i := 0) (v := ?_) rfl (by kernel_rfl) (by kernel_rfl) (by kernel_rfl) (by rfl) (fun _ _ _ h => h) (by decide) (by decide) (by rfl) ?_ ?_
          rotate_left
          · (intro w; go_simp; try with_reducible rfl)
          dsimp only [List.set_cons_zero, List.set_cons_succ]
          refine stand_take (i := 1) (v := ?_) rfl (by kernel_rfl) (by kernel_rfl) (by kernel_rfl) (by rfl) (fun _ _ _ h => h) (by decide) (by decide) (by rfl) ?_ ?_
          rotate_left
          · (intro w; go_simp; try with_reducible rfl)
          dsimp only [List.set_cons_zero, List.set_cons_succ]
          refine stand_skip (i := 2) rfl (by kernel_rfl) (by kernel_rfl) (by kernel_rfl) (by rfl) (fun _ _ _ h => h) (by decide) (by decide) (by rfl) ?_
          dsimp only [List.set_cons_zero, List.set_cons_succ]
          refine stand_skip (i := 3) rfl (by kernel_rfl) (by kernel_rfl) (by kernel_rfl) (by rfl) (fun _ _ _ h => h) (by decide) (by decide) (by rfl) ?_
          dsimp only [List.set_cons_zero, List.set_cons_succ]
          refine stand_skip (i := 4) rfl (by kernel_rfl) (by kernel_rfl) (by kernel_rfl) (by rfl) (fun _ _ _ h => h) (by decide) (by decide) (by rfl) ?_
          dsimp only [List.set_cons_zero, List.set_cons_succ]
          refine stand_skip (i := 5) rfl (by kernel_rfl) (by kernel_rfl) (by kernel_rfl) (by rfl) (fun _ _ _ h => h) (by decide) (by decide) (by rfl) ?_
          dsimp only [List.set_cons_zero, List.set_cons_succ]
          refine stand_skip (i := 6) rfl (by kernel_rfl) (by kernel_rfl) (by kernel_rfl) (by rfl) (fun _ _ _ h => h) (by decide) (by decide) (by rfl) ?_
          dsimp only [List.set_cons_zero, List.set_cons_succ]
          refine stand_skip (i := 7) rfl (by kernel_rfl) (by kernel_rfl) (by kernel_rfl) (by rfl) (fun _ _ _ h => h) (by decide) (by decide) (by rfl) ?_
          dsimp only [List.set_cons_zero, List.set_cons_succ]
          refine stand_skip (i := 8) rfl (by kernel_rfl) (by kernel_rfl) (by kernel_rfl) (by rfl) (fun _ _ _ h => h) (by decide) (by decide) (by rfl) ?_
          dsimp only [List.set_cons_zero, List.set_cons_succ]
          refine stand_skip (i := 9) rfl (by kernel_rfl) (by kernel_rfl) (by kernel_rfl) (by rfl) (fun _ _ _ h => h) (by decide) (by decide) (by rfl) ?_
          dsimp only [List.set_cons_zero, List.set_cons_succ]
          refine stand_skip (i := 10) rfl (by kernel_rfl) (by kernel_rfl) (by kernel_rfl) (by rfl) (fun _ _ _ h => h) (by decide) (by decide) (by rfl) ?_
          dsimp only [List.set_cons_zero, List.set_cons_succ]
          refine stand_skip (i := 11) rfl (by kernel_rfl) (by kernel_rfl) (by kernel_rfl) (by rfl) (fun _ _ _ h => h) (by decide) (by decide) (by rfl) ?_
          dsimp only [List.set_cons_zero, List.set_cons_succ]
          refine stand_skip (i := 12) rfl (by kernel_rfl) (by kernel_rfl) (by kernel_rfl) (by rfl) (fun _ _ _ h => h) (by decide) (by decide) (by rfl) ?_
          dsimp only [List.set_cons_zero, List.set_cons_succ]
          refine stand_take (i := 13) (v := ?_) rfl (by kernel_rfl) (by kernel_rfl) (by kernel_rfl) (by rfl) (fun _ _ _ h => h) (by decide) (by decide) (by rfl) ?_ ?_
          rotate_left
          · (intro w; go_simp; try with_reducible rfl)
          dsimp only [List.set_cons_zero, List.set_cons_succ]
          refine stand_take (i := 14) (v := ?_) rfl (by kernel_rfl) (by kernel_rfl) (by kernel_rfl) (by rfl) (fun _ _ _ h => h) (by decide) (by decide) (by rfl) ?_ ?_
          rotate_left
          · (intro w; go_simp; try with_reducible rfl)
          dsimp only [List.set_cons_zero, List.set_cons_succ]
          refine stand_take (i := 15) (v := ?_) rfl (by kernel_rfl) (by kernel_rfl) (by kernel_rfl) (by rfl) (fun _ _ _ h => h) (by decide) (by decide) (by rfl) ?_ ?_
          rotate_left
          · (intro w; go_simp; try with_reducible rfl)
          dsimp only [List.set_cons_zero, List.set_cons_succ]
          refine stand_take (i := 16) (v := ?_) rfl (by kernel_rfl) (by kernel_rfl) (by kernel_rfl) (by rfl) (fun _ _ _ h => h) (by decide) (by decide) (by rfl) ?_ ?_
          rotate_left
          · (intro w; go_simp; try with_reducible rfl)
          dsimp only [List.set_cons_zero, List.set_cons_succ]
          refine stand_take (i := 17) (v := ?_) rfl (by kernel_rfl) (by kernel_rfl) (by kernel_rfl) (by rfl) (fun _ _ _ h => h) (by decide) (by decide) (by rfl) ?_ ?_
          rotate_left
          · (intro w; go_simp; try with_reducible rfl)
          dsimp only [List.set_cons_zero, List.set_cons_succ]
          refine stand_take (i := 18) (v := ?_) rfl (by kernel_rfl) (by kernel_rfl) (by kernel_rfl) (by rfl) (fun _ _ _ h => h) (by decide) (by decide) (by rfl) ?_ ?_
          rotate_left
          · (intro w; go_simp; try with_reducible rfl)
          dsimp only [List.set_cons_zero, List.set_cons_succ]
          refine stand_take (i := 19) (v := ?_) rfl (by kernel_rfl) (by kernel_rfl) (by kernel_rfl) (by rfl) (fun _ _ _ h => h) (by decide) (by decide) (by rfl) ?_ ?_
          rotate_left
          · (intro w; go_simp; try with_reducible rfl)
          dsimp only [List.set_cons_zero, List.set_cons_succ]
          refine stand_take (i := 22) (v := ?_) rfl (by kernel_rfl) (by kernel_rfl) (by kernel_rfl) (by rfl) (fun _ _ _ h => h) (by decide) (by decide) (by rfl) ?_ ?_
          rotate_left
          · (intro w; go_simp; try with_reducible rfl)
          dsimp only [List.set_cons_zero, List.set_cons_succ]
          refine stand_load3 (i := 20) (v := ?_) rfl (by kernel_rfl) (by kernel_rfl) (by kernel_rfl) (by rfl) (fun _ _ _ h => h) (by decide) (by decide) (by kernel_rfl) (by rfl) ?_ ?_
          rotate_left
          · (intro w hA; (try dsimp only at hA); go_simp; try with_reducible rfl)
          dsimp only [List.set_cons_zero, List.set_cons_succ]
          refine stand_step (i := 21) (by kernel_rfl) rfl (fun K hK => ?_)
          go_simp
          refine (owner_any _ UD.out.here HX.out).mono ?_
          rintro e w5 ⟨rfl, rfl⟩
          refine hK.out _ _ (fun _ => KEEP.out) (fun _ => trivial) ?_
          clear hK K
          try simp only [put_laid, List.set_cons_zero, List.set_cons_succ]
          refine stand_take (i := 23) (v := ?_) rfl (by kernel_rfl) (by kernel_rfl) (by kernel_rfl) (by rfl) (fun _ _ _ h => h) (by decide) (by decide) (by rfl) ?_ ?_
          rotate_left
          · (intro w; go_simp; try with_reducible rfl)
          dsimp only [List.set_cons_zero, List.set_cons_succ]
          refine stand_take (i := 24) (v := ?_) rfl (by kernel_rfl) (by kernel_rfl) (by kernel_rfl) (by rfl) (fun _ _ _ h => h) (by decide) (by decide) (by rfl) ?_ ?_
          rotate_left
          · (intro w; go_simp; try with_reducible rfl)
          dsimp only [List.set_cons_zero, List.set_cons_succ]
          refine stand_take (i := 25) (v := ?_) rfl (by kernel_rfl) (by kernel_rfl) (by kernel_rfl) (by rfl) (fun _ _ _ h => h) (by decide) (by decide) (by rfl) ?_ ?_
          rotate_left
          · (intro w; go_simp; try with_reducible rfl)
          dsimp only [List.set_cons_zero, List.set_cons_succ]
          refine stand_done (by kernel_rfl) ?_
          go_wp2_with fail
          go_roundw
          case rel => exact ⟨j + 1, _, by omega, by go_num, UD⟩
          case measure => simp [intOf]; omega
      · have e0 : (kd == 0) = false := by simpa using k0
        clear k0
        cases hb : freeB L gg xx with
        | true =>
          have hy := freeB_yes hb
          rw [hx] at hy
          obtain ⟨rfl, hy⟩ := hy
          have HX := Lib.hid hx
          have HB := Lib.hid hb
          have HY := Lib.hid hy
          clear hb hy hx
          go_wp2_with fail
          refine (owner_any wv U1.out.here HX.out).mono ?_
          rintro e w3 ⟨rfl, rfl⟩
          go_wp2_with fail
          refine (free_any wv U1.out.here HB.out).mono ?_
          rintro e w4 ⟨rfl, k4⟩
          have U4 := Lib.hid (U1.out.kept k4 (freeL_length L gg x))
          have VB1 := k4.2.cell (p := ⟨BB, 1, none⟩) HBB.out V1
          have VB2 := k4.2.cell (p := ⟨BB, 2, none⟩) HBB.out V2
          clear k4 V0 V1 V2 U1
          go_wp2_with fail
          refine (owner_any _ U4.out.here HY.out).mono ?_
          rintro e w5 ⟨rfl, rfl⟩
          go_wp2_with fail
          go_roundw
          case rel => exact ⟨j + 1, _, by omega, by go_num, U4⟩
          case measure => simp [intOf]; omega
        | false =>
          have HX := Lib.hid hx
          have HB := Lib.hid hb
          have HL := Lib.hid (freeB_no hb)
          clear hb hx
          go_wp2_with fail
          refine (owner_any wv U1.out.here HX.out).mono ?_
          rintro e w3 ⟨rfl, rfl⟩
          go_wp2_with fail
          refine (free_any wv U1.out.here HB.out).mono ?_
          rintro e w4 ⟨rfl, k4⟩
          rw [HL.out] at k4
          have U4 := Lib.hid (U1.out.kept k4 rfl)
          have VB1 := k4.2.cell (p := ⟨BB, 1, none⟩) HBB.out V1
          have VB2 := k4.2.cell (p := ⟨BB, 2, none⟩) HBB.out V2
          clear k4 V0 V1 V2 U1
          go_wp2_with fail
          refine (owner_any _ U4.out.here HX.out).mono ?_
          rintro e w5 ⟨rfl, rfl⟩
          go_wp2_with fail
          go_roundw
          case rel => exact ⟨j + 1, _, by omega, by go_num, U4⟩
          case measure => simp [intOf]; omega
    · go_upto_region 20 with fail
      clear HA HAL
      have HC : Hid (cnt L 0 = 0) := Lib.hid (by unfold cnt; rw [List.countP_eq_zero]; intro i _ e; have := of_decide_eq_true e; omega)
      go_loopw [9, 10] (fun s9 s10 wx => ∃ k m : Nat, k ≤ 8 ∧ s10 = .int .i64 k ∧ s9 = .int .i64 m ∧ Hid (cnt L k = m) ∧ Hid (On w wx p v L)) (fun _ s10 _ => 8 - (intOf s10).toNat)
      case atStart => exact ⟨0, 0, by omega, rfl, rfl, HC, HU⟩
      case round =>
        clear HU HC
        obtain ⟨k, m, hk, rfl, rfl, HC, HU⟩ := hrel
        have hm6 : m ≤ 6 := by
          have h1 := cnt_le L k
          rw [HC.out, HU.out.n] at h1
          exact h1
        by_cases hlt : k < 8
        · obtain ⟨nh, hnh⟩ : ∃ nh, (heldL L k).length = nh := ⟨_, rfl⟩
          have hc := cnt_next L k
          rw [HC.out, hnh] at hc
          have hn6 : nh ≤ 6 := by
            have h1 := heldL_length L k
            rw [hnh, HU.out.n] at h1
            exact h1
          have HNH := Lib.hid hnh
          have HC2 := Lib.hid hc.symm
          clear hnh hc
          go_wp2_with fail
          refine (held_any wr HU.out.here rfl HNH.out).mono ?_
          rintro e w7 ⟨b7, c7, rfl, _, _, _, _, _, t7⟩
          have U7 := Lib.hid (HU.out.new t7)
          clear t7 HU
          go_wp2_with fail
          go_roundw
          case rel => exact ⟨k + 1, m + nh, by omega, by go_num, by go_num, HC2, U7⟩
          case measure => simp [intOf]; omega
        · go_wp2_with fail
          go_ret
          exact ⟨ret_bool (decide_eq_true (by omega)), HU.out.t⟩

theorem lone_out {ao : Option Addr} {al ac : Nat} (w : World) (hL : al ≤ maxLen) (h : 100 < al) :
    Calls Try.prog 4 #[.slice ao al ac] w fun e w' => e = .returned (.bool true) ∧ Turn (fun _ => False) w w' := by
  unfold maxLen at hL
  go_enter Try.func4, Try.ntmps4
  go_wp2_with fail
  refine (alive_any w).mono ?_
  rintro e w1 ⟨rfl, t1⟩
  have T1 := Lib.hid t1
  clear t1
  go_wp2_with fail
  refine (new_any w1 (by decide)).mono ?_
  rintro e w2 ⟨p, v, rfl, h2, t2⟩
  have T2 := Lib.hid (T1.out.trans t2)
  clear h2 t2
  go_wp2_with fail
  go_ret
  exact ⟨rfl, T2.out⟩

end Go.Proofs.Ytkgkogbegbodjaa
