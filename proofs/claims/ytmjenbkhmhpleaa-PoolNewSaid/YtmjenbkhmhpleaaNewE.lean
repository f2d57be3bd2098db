/- The law PoolNew. -/
import Derived.Test.YtmjenbkhmhpleaaNewD
import Derived.Test.YtmjenbkhmhpleaaRuns
namespace Go.Proofs.Ytmjenbkhmhpleaa
open Go.RowKit
set_option linter.unusedVariables false

theorem fresh_new {base p q n size most : Nat} {R : Nat → Rw} (w : World) (h : IsPool w base p q (newS n size most) R) :
    Calls Try.prog 13 #[.pointer (some ⟨p, 0, none⟩)] w fun e w' => e = .returned (.int .i64 0) ∧ w = w' := fresh_any w h
theorem count_new {base p q n size most : Nat} {R : Nat → Rw} (w : World) (h : IsPool w base p q (newS n size most) R) (hG : Good (newS n size most)) :
    Calls Try.prog 12 #[.pointer (some ⟨p, 0, none⟩)] w (IsInt 0 w) := count_at' w h hG (newS_cnt n size most)

set_option maxRecDepth 100000 in
set_option maxHeartbeats 2000000 in
theorem lnew_any {a b f t : Int} {n cc nm mc : Nat} {M : Nat → List Int} {ca ma : Option Addr} (w : World) (hC : Came w n M ca cc) (hmid : Ints .i64 w ma (M n)) (hmN : ma = none → mc = 0) (hnm : (M n).length = nm) :
    Calls Try.prog 3 #[.agg #[.int .i64 a, .int .i64 b, .slice ca n cc, .slice ma nm mc, .int .i64 f], .int .i64 t] w (BoolIs true w) := by
  have HC := Lib.hid hC
  have HMid := Lib.hid hmid
  have HMN := Lib.hid hmN
  have HNM := Lib.hid hnm
  obtain ⟨can, hcan⟩ : ∃ r, canB a t b = r := ⟨_, rfl⟩
  obtain ⟨right, hright⟩ : ∃ r, rightB a b f n M = r := ⟨_, rfl⟩
  have HCAN := Lib.hid hcan
  have HRIGHT := Lib.hid hright
  clear hC hmid hmN hnm hcan hright
  go_enter Try.func3, Try.ntmps3
  go_wp2_with fail
  refine (alive_any _).mono ?_
  rintro e w1 ⟨rfl, t1⟩
  have TA := Lib.hid (((Turn.refl (fun _ => False) w).alloc (.cells #[.int .i64 a, .int .i64 b, .slice ca n cc, .slice ma nm mc, .int .i64 f] 25)).trans t1)
  have BX := Lib.hid (IBox.new (show IBox (w.alloc (.cells #[.int .i64 a, .int .i64 b, .slice ca n cc, .slice ma nm mc, .int .i64 f] 25)) w.heap.size a b ca n cc ma nm mc f from heap_alloc_new w _) t1)
  clear t1
  generalize w.heap.size = bx at BX ⊢
  have d2 := BX.out.d2
  have d3 := BX.out.d3
  by_cases h20 : 20 < n
  · go_wp2_with fail
    go_ret
    exact ⟨rfl, TA.out⟩
  by_cases h100 : 100 < nm
  · go_wp2_with fail
    go_ret
    exact ⟨rfl, TA.out⟩
  go_wp2_with fail
  clear d3
  go_loop [28] (fun i => ∃ k : Nat, k ≤ n ∧ i = .int .i64 k ∧ Hid (∀ j, j < k → (M j).length ≤ 100)) (fun i => n - (intOf i).toNat)
  case atStart => exact ⟨0, Nat.zero_le _, rfl, Lib.hid (fun j hj => by omega)⟩
  case round =>
    obtain ⟨k, hk, rfl, HK⟩ := hrel
    by_cases hlt : k < n
    · obtain ⟨ad, ar, c, hca, hcell, _, _, _⟩ := (HC.out.turn TA.out).row k hlt
      subst hca
      by_cases hle : 100 < (M k).length
      · generalize (M k).length = m at hcell hle
        go_wp2_with fail
        go_ret
        exact ⟨rfl, TA.out⟩
      · have HK2 := Lib.hid (show ∀ j, j < k + 1 → (M j).length ≤ 100 from fun j hj => by
          by_cases e : j = k
          · subst e; omega
          · exact HK.out j (by omega))
        generalize (M k).length = m at hcell hle
        go_wp2_with fail
        go_round
        case rel => exact ⟨k + 1, by omega, by go_num, HK2⟩
        case measure => simp [intOf]; omega
    · have HB := Lib.hid (show ∀ j, j < n → (M j).length ≤ 100 from fun j hj => HK.out j (by omega))
      clear HK
      have d0 := BX.out.d0
      have d1 := BX.out.d1
      go_wp2_with fail
      refine (new_any w1 HCAN.out).mono ?_
      rintro e w2 ⟨pa, ea, rfl, t2, ha⟩
      have HA := Lib.hid ha
      have T2 := Lib.hid (TA.out.trans t2)
      have B2 := Lib.hid (BX.out.new t2)
      clear ha t2 d0 d1 d2
      have d0 := B2.out.d0
      have d1 := B2.out.d1
      have d2 := B2.out.d2
      have d3 := B2.out.d3
      have d4 := B2.out.d4
      go_wp2_with fail
      refine (of_any w2 (by omega) (HC.out.turn T2.out) HB.out (HMid.out.turn T2.out (fun _ _ => id)) HNM.out (by omega) HRIGHT.out).mono ?_
      rintro e w3 ⟨pb, eb, rfl, t3, hb⟩
      have HB2 := Lib.hid hb
      have T23 := Lib.hid t3
      have T3 := Lib.hid (T2.out.trans t3)
      have B3 := Lib.hid (B2.out.new t3)
      clear hb t3 d0 d1 d2 d3 d4
      go_wp2_with fail
      refine stand_start (by kernel_rfl) 99 (fun w' => w'.cell? ⟨bx, 0, none⟩ = some (.int .i64 a) ∧ w'.cell? ⟨bx, 1, none⟩ = some (.int .i64 b) ∧ w'.cell? ⟨bx, 2, none⟩ = some (.slice ca n cc) ∧ w'.cell? ⟨bx, 3, none⟩ = some (.slice ma nm mc) ∧ w'.cell? ⟨bx, 4, none⟩ = some (.int .i64 f)) 99 (fun w' => True) ⟨B3.out.d0, B3.out.d1, B3.out.d2, B3.out.d3, B3.out.d4⟩ trivial ?_
      refine stand_take (i := 0) (v := ?_) rfl (by kernel_rfl) (by kernel_rfl) (by kernel_rfl) (by rfl) (fun _ _ _ h => h) (by decide) (by decide) (by rfl) ?_ ?_
      rotate_left
      · (intro w; go_simp; try with_reducible rfl)
      dsimp only [List.set_cons_zero, List.set_cons_succ]
      refine stand_load3 (i := 1) (v := ?_) rfl (by kernel_rfl) (by kernel_rfl) (by kernel_rfl) (by rfl) (fun _ _ _ h => h) (by decide) (by decide) (by kernel_rfl) (by rfl) ?_ ?_
      rotate_left
      · (intro w hA; (try dsimp only at hA); go_simp; try with_reducible rfl)
      dsimp only [List.set_cons_zero, List.set_cons_succ]
      refine stand_take (i := 2) (v := ?_) rfl (by kernel_rfl) (by kernel_rfl) (by kernel_rfl) (by rfl) (fun _ _ _ h => h) (by decide) (by decide) (by rfl) ?_ ?_
      rotate_left
      · (intro w; go_simp; try with_reducible rfl)
      dsimp only [List.set_cons_zero, List.set_cons_succ]
      refine stand_take (i := 3) (v := ?_) rfl (by kernel_rfl) (by kernel_rfl) (by kernel_rfl) (by rfl) (fun _ _ _ h => h) (by decide) (by decide) (by rfl) ?_ ?_
      rotate_left
      · (intro w; go_simp; try with_reducible rfl)
      dsimp only [List.set_cons_zero, List.set_cons_succ]
      refine stand_load3 (i := 4) (v := ?_) rfl (by kernel_rfl) (by kernel_rfl) (by kernel_rfl) (by rfl) (fun _ _ _ h => h) (by decide) (by decide) (by kernel_rfl) (by rfl) ?_ ?_
      rotate_left
      · (intro w hA; (try dsimp only at hA); go_simp; try with_reducible rfl)
      dsimp only [List.set_cons_zero, List.set_cons_succ]
      refine stand_load3 (i := 6) (v := ?_) rfl (by kernel_rfl) (by kernel_rfl) (by kernel_rfl) (by rfl) (fun _ _ _ h => h) (by decide) (by decide) (by kernel_rfl) (by rfl) ?_ ?_
      rotate_left
      · (intro w hA; (try dsimp only at hA); go_simp; try with_reducible rfl)
      dsimp only [List.set_cons_zero, List.set_cons_succ]
      have TD := Lib.hid (Turn.refl (fun _ => False) w3).drew
      have BD := Lib.hid (B3.out.new TD.out)
      refine stand_step (i := 5) (by kernel_rfl) rfl (fun K hK => ?_)
      go_simp
      refine (can_at _ HCAN.out).mono ?_
      rintro e w4 ⟨rfl, rfl⟩
      refine hK.out _ _ (fun _ => ⟨BD.out.d0, BD.out.d1, BD.out.d2, BD.out.d3, BD.out.d4⟩) (fun _ => trivial) ?_
      clear hK K
      try simp only [put_laid, List.set_cons_zero, List.set_cons_succ]
      refine stand_step (i := 7) (by kernel_rfl) rfl (fun K hK => ?_)
      go_simp
      refine (right_any (M := M) _ (HC.out.turn (T3.out.trans TD.out)) HB.out (HMid.out.turn (T3.out.trans TD.out) (fun _ _ => id)) HMN.out HNM.out (by omega) HRIGHT.out).mono ?_
      rintro e w4 ⟨rfl, t4⟩
      have T34 := Lib.hid (TD.out.trans t4)
      have B4 := Lib.hid (BD.out.new t4)
      clear t4
      refine hK.out _ _ (fun _ => ⟨B4.out.d0, B4.out.d1, B4.out.d2, B4.out.d3, B4.out.d4⟩) (fun _ => trivial) ?_
      clear hK K
      try simp only [put_laid, List.set_cons_zero, List.set_cons_succ]
      refine stand_take (i := 8) (v := ?_) rfl (by kernel_rfl) (by kernel_rfl) (by kernel_rfl) (by rfl) (fun _ _ _ h => h) (by decide) (by decide) (by rfl) ?_ ?_
      rotate_left
      · (intro w; go_simp; try with_reducible rfl)
      dsimp only [List.set_cons_zero, List.set_cons_succ]
      refine stand_take (i := 9) (v := ?_) rfl (by kernel_rfl) (by kernel_rfl) (by kernel_rfl) (by rfl) (fun _ _ _ h => h) (by decide) (by decide) (by rfl) ?_ ?_
      rotate_left
      · (intro w; go_simp; try with_reducible rfl)
      dsimp only [List.set_cons_zero, List.set_cons_succ]
      refine stand_done (by kernel_rfl) ?_
      have T4 := Lib.hid (T3.out.trans T34.out)
      have HRS := Lib.hid (fun (size most fr : Nat) => (((HC.out.rs (size := size) (most := most) (fr := fr) HMid.out HMN.out).new T4.out)))
      rcases HA.out with ⟨rfl, rfl, rfl⟩ | ⟨rfl, rfl, p, q, n', size', most', rfl, hPa, hGa⟩
      · rcases HB2.out with ⟨rfl, rfl, rfl⟩ | ⟨rfl, rfl, p2, q2, size, most, fr, R, rfl, rfl, rfl, rfl, hPb, hGb⟩
        · go_wp2_with fail
          go_ret
          exact ⟨rfl, T4.out⟩
        · have HPb := Lib.hid (hPb.new T34.out)
          have HGb := Lib.hid hGb
          clear hPb hGb
          have d0 := B4.out.d0
          have d1 := B4.out.d1
          have d2 := B4.out.d2
          have d3 := B4.out.d3
          have d4 := B4.out.d4
          go_wp2_with fail
          refine (samep_at (D := fun _ => True) w4 HPb.out (HRS.out size most fr) HGb.out HNM.out).mono ?_
          rintro e w5 ⟨rfl, t5⟩
          have T5 := Lib.hid (T4.out.trans t5)
          clear t5 d0 d1 d2 d3 d4
          go_wp2_with fail
          go_ret
          exact ⟨rfl, T5.out⟩
      · have HPa := Lib.hid (hPa.new (T23.out.trans T34.out))
        have HGa := Lib.hid hGa
        clear hPa hGa
        rcases HB2.out with ⟨rfl, rfl, rfl⟩ | ⟨rfl, rfl, p2, q2, size, most, fr, R, rfl, rfl, rfl, rfl, hPb, hGb⟩
        · go_wp2_with fail
          refine (count_new w4 HPa.out HGa.out).mono ?_
          rintro e w5 ⟨rfl, k5, rfl⟩
          have T45 := Lib.hid ((Turn.refl (fun _ => False) w4).drewN k5)
          generalize w4.drewN k5 = w5 at T45 ⊢
          have B5 := Lib.hid (B4.out.new T45.out)
          go_wp2_with fail
          refine (fresh_new w5 (HPa.out.new T45.out)).mono ?_
          rintro e w6 ⟨rfl, rfl⟩
          go_wp2_with fail
          go_ret
          exact ⟨rfl, T4.out.trans T45.out⟩
        · have HPb := Lib.hid (hPb.new T34.out)
          have HGb := Lib.hid hGb
          clear hPb hGb
          go_wp2_with fail
          refine (count_new w4 HPa.out HGa.out).mono ?_
          rintro e w5 ⟨rfl, k5, rfl⟩
          have T45 := Lib.hid ((Turn.refl (fun _ => False) w4).drewN k5)
          generalize w4.drewN k5 = w5 at T45 ⊢
          have B5 := Lib.hid (B4.out.new T45.out)
          go_wp2_with fail
          refine (fresh_new w5 (HPa.out.new T45.out)).mono ?_
          rintro e w6 ⟨rfl, rfl⟩
          have d0 := B5.out.d0
          have d1 := B5.out.d1
          have d2 := B5.out.d2
          have d3 := B5.out.d3
          have d4 := B5.out.d4
          go_wp2_with fail
          refine (samep_at (D := fun _ => True) w5 (HPb.out.new T45.out) ((HRS.out size most fr).new T45.out) HGb.out HNM.out).mono ?_
          rintro e w6 ⟨rfl, t5⟩
          have T5 := Lib.hid ((T4.out.trans T45.out).trans t5)
          clear t5 d0 d1 d2 d3 d4
          go_wp2_with fail
          go_ret
          exact ⟨rfl, T5.out⟩

end Go.Proofs.Ytmjenbkhmhpleaa
