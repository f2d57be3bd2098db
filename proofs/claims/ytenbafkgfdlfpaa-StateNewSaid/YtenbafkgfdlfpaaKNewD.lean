/- The document's New. -/
import Derived.Test.YtenbafkgfdlfpaaMNewP
import Derived.Test.YtenbafkgfdlfpaaKDRight
import Derived.Test.YtenbafkgfdlfpaaKCan
namespace Go.Proofs.Ytenbafkgfdlfpaa
open Go.RowKit
set_option linter.unusedVariables false

/-- What New gives. -/
def NewGives (p : List (List Opr)) (su ca : Int) (dr : List Int) (w : World) (e : Ending) (w' : World) : Prop :=
  Turn (fun _ => False) w w' ∧ (rightP p = false → ∃ z : SV, e = .returned (.tuple #[z.val, .int .i64 3])) ∧ (rightP p = true → R5.C5.canB su p.length ca = false → ∃ z : SV, e = .returned (.tuple #[z.val, .int .i64 1])) ∧
    (rightP p = true → R5.C5.canB su p.length ca = true → ∃ z : SV, e = .returned (.tuple #[z.val, .int .i64 0]) ∧ z.s = newS p su ca dr ∧ RS (fun _ => True) w' z)
set_option maxRecDepth 100000 in
set_option maxHeartbeats 8000000 in
theorem docnew_any {s ds : Sl} {p : List (List Opr)} {n : Nat} {su ca : Int} {dr : List Int} (w : World) (hP : RPlan w s p) (hn : p.length = n) (hm : WideP p) (hd : ds.Ok dr.length) (hr : Ints .u16 w ds.ao dr) :
    Calls Try.prog 6 #[.slice s.ao n s.cap, .agg #[.int .i64 su, .int .i64 ca], .slice ds.ao ds.len ds.cap] w (NewGives p su ca dr w) := by
  have HP := Lib.hid hP
  have HN := Lib.hid hn
  have HM := Lib.hid hm
  have HDS := Lib.hid hd
  have HR := Lib.hid hr
  have hn1 : n ≤ 1000000 := hn ▸ hm.1
  clear hP hn hm hd hr
  go_enter Try.func6, Try.ntmps6
  go_upto_region 1 with fail
  refine at_world (φ := fun w' => Hid (Boxes w w' [(w.heap.size, 24, [.int .i64 su, .int .i64 ca]), (w.heap.size + 1, 41, zS.cs)])) (Lib.hid (boxes2 w 24 ([.int .i64 su, .int .i64 ca] : List Value) 41 zS.cs)) ?_
  intro w1 B1
  generalize hb4 : w.heap.size = b4 at B1 ⊢
  generalize hb6 : b4 + 1 = b6 at B1 ⊢
  cases hrp : rightP p with
  | false =>
    have HRP := Lib.hid hrp
    clear hrp
    go_wp2_with fail
    refine (rright_any false w1 (HP.out.new B1.out.t) HN.out HM.out HRP.out).mono ?_
    rintro e w2 ⟨rfl, t2⟩
    have B2 := Lib.hid (B1.out.new t2)
    clear t2 B1
    go_wp2_with (refine wpList_store_box rfl rfl B2.out 1 rfl rfl zS.cs rfl rfl t_state (sv_ok.one _) ?_; intro w4 B4 T4)
    refine bodyPost_ret (ret_box1 Try.results6 B4.out 1 rfl rfl t_state rfl) rfl ⟨B4.out.t, fun _ => ⟨zS, rfl⟩, fun e => ?_, fun e => ?_⟩
    · exact absurd (HRP.out.symm.trans e) (by decide)
    · exact absurd (HRP.out.symm.trans e) (by decide)
  | true =>
    have HRP := Lib.hid hrp
    clear hrp
    go_wp2_with fail
    refine (rright_any true w1 (HP.out.new B1.out.t) HN.out HM.out HRP.out).mono ?_
    rintro e w2 ⟨rfl, t2⟩
    have B2 := Lib.hid (B1.out.new t2)
    clear t2 B1
    have F0 := B2.out.f 0 rfl
    go_wp2_with fail
    refine (R5.C5.can_any su (n : Int) ca w2).mono ?_
    rintro e w3 ⟨rfl, rfl⟩
    cases hcb : R5.C5.canB su (n : Int) ca with
    | false =>
      have HCB := Lib.hid hcb
      clear hcb F0
      go_wp2_with (refine wpList_store_box rfl rfl B2.out 1 rfl rfl zS.cs rfl rfl t_state (sv_ok.one _) ?_; intro w4 B4 T4)
      refine bodyPost_ret (ret_box1 Try.results6 B4.out 1 rfl rfl t_state rfl) rfl ⟨B4.out.t, fun e => ?_, fun _ _ => ⟨zS, rfl⟩, fun _ e => ?_⟩
      · exact absurd (HRP.out.symm.trans e) (by decide)
      · rw [HN.out] at e
        exact absurd (HCB.out.symm.trans e) (by decide)
    | true =>
      have HCB := Lib.hid hcb
      have hcan : (0 ≤ su ∧ su ≤ 64) ∧ (1 ≤ ca ∧ ca ≤ 16) ∧ n ≤ 8 := by
        unfold R5.C5.canB at hcb
        have := of_decide_eq_true hcb
        omega
      obtain ⟨⟨hs0, hs1⟩, hca0, hn8⟩ := hcan
      have hca : 0 ≤ ca ∧ ca ≤ 16 := by omega
      clear hca0
      clear hcb F0
      obtain ⟨b8, hb8⟩ : ∃ b8, w2.heap.size = b8 := ⟨_, rfl⟩
      have BA := Lib.hid (B2.out.alloc 41 zS.cs)
      rw [hb8] at BA
      have HL := Lib.hid (show b4 ≤ b8 ∧ b6 ≤ b8 by have h1 := (B2.out.at 0 rfl).lt; have h2 := (B2.out.at 1 rfl).lt; omega)
      go_upto_region 6 with (first | refine wpList_load_box rfl rfl B2.out 0 rfl rfl t_config2 ?_ | (refine wpList_store_box rfl rfl BA.out 2 rfl rfl (dnC su ca ds zSl zSl zSl) rfl rfl t_state (dnC_one _ _ _ _ _ _) ?_; intro w5 B5 T5))
      have HD5 : Hid (DN w [(b4, 24, [.int .i64 su, .int .i64 ca]), (b6, 41, zS.cs), (b8, 41, dnC su ca ds zSl zSl zSl)] b8 zSl [] zSl [] zSl [] w5) := Lib.hid (dn_start B5.out HL.out.1 HL.out.2)
      clear B5 T5 BA B2 hb8
      obtain ⟨so, sl, sc⟩ := s
      dsimp only at HP ⊢
      go_upto_region 7 with fail
      go_loopw [30] (fun s30 wr => ∃ (i : Nat) (gs : Sl) (X : List GV) (cs : Sl) (Z : List IV), i ≤ n ∧ s30 = .int .i64 i ∧ Hid (DN w [(b4, 24, [.int .i64 su, .int .i64 ca]), (b6, 41, zS.cs), (b8, 41, dnC su ca ds gs cs zSl)] b8 gs X cs Z zSl [] wr) ∧ Hid (DNs w p i gs X cs Z wr)) (fun s30 _ => n - (intOf s30).toNat)
      case atStart => exact ⟨0, zSl, [], zSl, [], Nat.zero_le _, rfl, HD5, Lib.hid ⟨rfl, rfl, fun k l hk => absurd hk (Nat.not_lt_zero _), fun k hk => absurd hk (Nat.not_lt_zero _)⟩⟩
      case round =>
        clear HD5
        obtain ⟨i, ⟨ga, gl, gc⟩, X, ⟨ca', cl, cc⟩, Z, hi, rfl, HD, HS⟩ := hrel
        have e1 : gl = i := HS.out.gl
        have e2 : cl = i := HS.out.cl
        subst e1 e2
        by_cases hlt : cl < n
        · obtain ⟨l, hl⟩ : ∃ l, p[cl]? = some l := ⟨_, List.getElem?_eq_getElem (by rw [HN.out]; exact hlt)⟩
          obtain ⟨a, ⟨xo, xl, xc⟩, ha, hx, hc⟩ := HP.out.at hl
          dsimp only at ha
          subst ha
          have hcx : wr.cell? (a.add cl) = some (.slice xo xl xc) := HD.out.bx.t.cell id hc
          have HX := Lib.hid hx
          have HLL := Lib.hid hl
          have G0 : wr.cell? ⟨b8, 3, none⟩ = some (.slice ga cl gc) := HD.out.bx.f 2 rfl 3
          clear hc hx hl
          go_upto_region 9 with fail
          clear hcx
          refine stand_start (by kernel_rfl) 5 (fun w' => w'.cell? ⟨b8, 3, none⟩ = some (.slice ga cl gc)) 99 (fun _ => True) G0 trivial ?_
          have HDD := Lib.hid (HD.out.new (Turn.refl _ _).drew)
          have HSS : Hid (DNs w p cl ⟨ga, cl, gc⟩ X ⟨ca', cl, cc⟩ Z wr.drew) := Lib.hid (HS.out.up (Nat.le_refl _))
          clear G0 HD HS
          generalize wr.drew = wd at HDD HSS ⊢
          refine stand_take (i := 0) (v := ?_) rfl (by kernel_rfl) (by kernel_rfl) (by kernel_rfl) (by rfl) (fun _ _ _ h => h) (by decide) (by decide) (by rfl) ?_ ?_
          rotate_left
          · (intro w; go_simp; try with_reducible rfl)
          dsimp only [List.set_cons_zero, List.set_cons_succ]
          refine stand_load1 (i := 1) (v := .slice ga cl gc) rfl (by kernel_rfl) (by kernel_rfl) (by kernel_rfl) (by rfl) (fun _ _ _ h => h) (by decide) (by decide) (by kernel_rfl) (by rfl) ?_ ?_
          · (intro w hA; go_simp; try with_reducible rfl)
          dsimp only [List.set_cons_zero, List.set_cons_succ]
          refine stand_take (i := 2) (v := ?_) rfl (by kernel_rfl) (by kernel_rfl) (by kernel_rfl) (by rfl) (fun _ _ _ h => h) (by decide) (by decide) (by rfl) ?_ ?_
          rotate_left
          · (intro w; go_simp; try with_reducible rfl)
          dsimp only [List.set_cons_zero, List.set_cons_succ]
          refine stand_step (i := 3) (by kernel_rfl) rfl (fun K hK => ?_)
          go_simp
          refine (fresh_any (s := ⟨xo, xl, xc⟩) (l := l) (a := 0) wd).mono ?_
          rintro e w6 ⟨rfl, t6⟩
          have HD6 := Lib.hid (HDD.out.new t6)
          refine hK.out _ _ (fun _ => HD6.out.bx.f 2 rfl 3) (fun _ => trivial) ?_
          clear hK K
          try simp only [put_laid, List.set_cons_zero, List.set_cons_succ]
          have T6 := Lib.hid t6
          clear t6 HDD
          obtain ⟨U, hU⟩ : ∃ U : GV, U = ⟨freshG l 0, ⟨xo, xl, xc⟩, zSl, zSl, zSl, zSl⟩ := ⟨_, rfl⟩
          have HU := Lib.hid hU
          rw [← hU]
          clear hU
          obtain ⟨b9, hb9⟩ : ∃ b9, w6.heap.size = b9 := ⟨_, rfl⟩
          have K9 : Hid ((w6.alloc (.cells U.cs.toArray 50)).heap[b9]? = some (.cells U.cs.toArray 50 (0, 0))) := Lib.hid (by rw [← hb9]; exact heap_alloc_new w6 _)
          have T9 : Hid (Turn (fun _ => False) w6 (w6.alloc (.cells U.cs.toArray 50))) := Lib.hid ((Turn.refl _ _).alloc _)
          refine stand_step (i := 4) (by kernel_rfl) rfl (fun K hK => ?_)
          refine step_at (φ := fun w' => Hid (w'.heap[b9]? = some (.cells U.cs.toArray 50 (0, 0))) ∧ Hid (Turn (fun _ => False) w6 w')) (w' := w6.alloc (.cells U.cs.toArray 50)) (v := .slice (some ⟨b9, 0, none⟩) 1 1) rfl (by go_simp; rw [fold_set U.cs]; rfl) ⟨K9, T9⟩ ?_
          clear K9 T9 hb9
          rintro w7 ⟨K9, T9⟩
          have HD7 := Lib.hid (HD6.out.new T9.out)
          refine hK.out _ _ (fun _ => HD7.out.bx.f 2 rfl 3) (fun _ => trivial) ?_
          clear hK K
          try simp only [put_laid, List.set_cons_zero, List.set_cons_succ]
          refine stand_step (i := 5) (by kernel_rfl) rfl (fun K hK => ?_)
          refine step_append_great_one gv_ok (by decide) Try.underlying34 info_g rfl (by decide) rfl (.tmp 35) (.tmp 38) rfl (b8 + 1) (.slice ga cl gc) X cl rfl HD7.out.og b9 U rfl K9.out (cl + 1) rfl (by omega) HD7.out.lo.2.2 ?_
          intro g c w8 hg8 h8 t8 u8
          have HD8 := Lib.hid (HD7.out.grow_gs h8.out t8.out u8.out)
          refine hK.out _ _ (past (by kernel_rfl)) (fun _ => trivial) ?_
          clear hK K
          try simp only [put_laid, List.set_cons_zero, List.set_cons_succ]
          refine stand_take (i := 6) (v := ?_) rfl (by kernel_rfl) (by kernel_rfl) (by kernel_rfl) (by rfl) (fun _ _ _ h => h) (by decide) (by decide) (by rfl) ?_ ?_
          rotate_left
          · (intro w; go_simp; try with_reducible rfl)
          dsimp only [List.set_cons_zero, List.set_cons_succ]
          have d0 : w8.cell? ⟨b8, 3, none⟩ = some (.slice ga cl gc) := HD8.out.bx.f 2 rfl 3
          have d1 : w8.frozen? ⟨b8, 3, none⟩ = false := HD8.out.bx.r 2 rfl 3
          refine stand_step (i := 7) (by kernel_rfl) rfl (fun K hK => ?_)
          go_simp
          refine hK.out _ _ (past (by kernel_rfl)) (fun _ => trivial) ?_
          clear d0 d1 hK K
          refine stand_done (by kernel_rfl) ?_
          have HD9 : Hid (DN w [(b4, 24, [.int .i64 su, .int .i64 ca]), (b6, 41, zS.cs), (b8, 41, dnC su ca ds ⟨some ⟨g, 0, none⟩, cl + 1, c⟩ ⟨ca', cl, cc⟩ zSl)] b8 ⟨some ⟨g, 0, none⟩, cl + 1, c⟩ (X ++ [U]) ⟨ca', cl, cc⟩ Z zSl [] (w8.setCell ⟨b8, 3, none⟩ (.slice (some ⟨g, 0, none⟩) (cl + 1) c))) := Lib.hid (HD8.out.put 2 rfl 3 (.slice (some ⟨g, 0, none⟩) (cl + 1) c))
          have SZ := Lib.hid (show wd.heap.size ≤ (w8.setCell ⟨b8, 3, none⟩ (.slice (some ⟨g, 0, none⟩) (cl + 1) c)).heap.size from Nat.le_trans (Nat.le_trans T6.out.size T9.out.size) (Nat.le_trans t8.out.size (set_turn w8 b8 3 _).size))
          have HXL := Lib.hid (own_len gv_ok (by decide) HD7.out.og)
          clear HD6 HD7 HD8 T6 T9 K9 h8 t8 u8
          generalize w8.setCell ⟨b8, 3, none⟩ (.slice (some ⟨g, 0, none⟩) (cl + 1) c) = w9 at HD9 SZ ⊢
          have G6 : w9.cell? ⟨b8, 6, none⟩ = some (.slice ca' cl cc) := HD9.out.bx.f 2 rfl 6
          have TA := Lib.hid (((Turn.refl (fun _ => False) w9).alloc (.cells #[] 3)).alloc (.cells (IV.cs ⟨[], ⟨some ⟨w9.heap.size, 0, none⟩, 0, 0⟩⟩).toArray 38))
          have HDA := Lib.hid (HD9.out.new TA.out)
          have KA := Lib.hid (has_one (enc := IV.cs) (size := 1) (new2' w9 (.cells #[] 3) (.cells (IV.cs ⟨[], ⟨some ⟨w9.heap.size, 0, none⟩, 0, 0⟩⟩).toArray 38)))
          have SA := Lib.hid (show w9.heap.size < ((w9.alloc (.cells #[] 3)).alloc (.cells (IV.cs ⟨[], ⟨some ⟨w9.heap.size, 0, none⟩, 0, 0⟩⟩).toArray 38)).heap.size by simp; omega)
          go_upto_region 11 with (at_builtin; refine wpList_append_great iv_ok (by decide) Try.underlying37 info_intsD rfl (by decide) rfl (.tmp 42) (.tmp 44) rfl (b8 + 1) (.slice ca' cl cc) Z cl rfl HDA.out.oc (some ⟨w9.heap.size + 1, 0, none⟩) [⟨[], ⟨some ⟨w9.heap.size, 0, none⟩, 0, 0⟩⟩] 1 1 rfl rfl (by intro e; cases e) KA.out (cl + 1) rfl (by omega) HDA.out.lo.2.2 ?_; intro v10 w10 h10 t10 u10; obtain ⟨g', c', rfl, hg', -, -⟩ := own_form h10.out (by omega); have HD10 := Lib.hid (HDA.out.grow_cs h10.out t10.out (grow_or u10.out)); have d0 : w10.cell? ⟨b8, 6, none⟩ = some (.slice ca' cl cc) := (HD10.out.bx.f 2 rfl 6); have d1 : w10.frozen? ⟨b8, 6, none⟩ = false := (HD10.out.bx.r 2 rfl 6))
          have HD11 : Hid (DN w [(b4, 24, [.int .i64 su, .int .i64 ca]), (b6, 41, zS.cs), (b8, 41, dnC su ca ds ⟨some ⟨g, 0, none⟩, cl + 1, c⟩ ⟨some ⟨g', 0, none⟩, cl + 1, c'⟩ zSl)] b8 ⟨some ⟨g, 0, none⟩, cl + 1, c⟩ (X ++ [U]) ⟨some ⟨g', 0, none⟩, cl + 1, c'⟩ (Z ++ [⟨[], ⟨some ⟨w9.heap.size, 0, none⟩, 0, 0⟩⟩]) zSl [] (w10.setCell ⟨b8, 6, none⟩ (.slice (some ⟨g', 0, none⟩) (cl + 1) c'))) := Lib.hid (HD10.out.put 2 rfl 6 (.slice (some ⟨g', 0, none⟩) (cl + 1) c'))
          have HZL := Lib.hid (own_len iv_ok (by decide) HDA.out.oc)
          have S11 := Lib.hid (show w9.heap.size < (w10.setCell ⟨b8, 6, none⟩ (.slice (some ⟨g', 0, none⟩) (cl + 1) c')).heap.size from Nat.lt_of_lt_of_le SA.out (Nat.le_trans t10.out.size (set_turn w10 b8 6 _).size))
          have HS11 : Hid (DNs w p (cl + 1) ⟨some ⟨g, 0, none⟩, cl + 1, c⟩ (X ++ [U]) ⟨some ⟨g', 0, none⟩, cl + 1, c'⟩ (Z ++ [⟨[], ⟨some ⟨w9.heap.size, 0, none⟩, 0, 0⟩⟩]) (w10.setCell ⟨b8, 6, none⟩ (.slice (some ⟨g', 0, none⟩) (cl + 1) c'))) := Lib.hid (HSS.out.more HXL.out HZL.out HLL.out HU.out HX.out S11.out SZ.out)
          clear G6 TA HDA KA SA h10 t10 u10 HD10 d0 d1 HD9 HSS HXL HZL S11 SZ
          generalize w10.setCell ⟨b8, 6, none⟩ (.slice (some ⟨g', 0, none⟩) (cl + 1) c') = w11 at HD11 HS11 ⊢
          generalize w9.heap.size = z9 at HD11 HS11 ⊢
          go_wp2_with fail
          go_roundw
          case rel => exact ⟨cl + 1, ⟨some ⟨g, 0, none⟩, cl + 1, c⟩, X ++ [U], ⟨some ⟨g', 0, none⟩, cl + 1, c'⟩, _, by omega, by go_num, HD11, HS11⟩
          case measure => simp [intOf]; omega
        · obtain rfl : cl = n := by omega
          have F4 : wr.cell? ⟨b4, 0, none⟩ = some (.int .i64 su) := HD.out.bx.f 0 rfl 0
          have SZ0 := Lib.hid (Nat.le_refl wr.heap.size)
          obtain ⟨z1, hz1⟩ : ∃ z1, wr.heap.size = z1 := ⟨_, rfl⟩
          have HSW := HS
          go_upto_region 13 with fail
          clear F4
          go_loopw [11] (fun s11 wx => ∃ (j : Nat) (sd : Sl), (j : Int) ≤ su ∧ s11 = .int .i64 j ∧ Hid (DN w [(b4, 24, [.int .i64 su, .int .i64 ca]), (b6, 41, zS.cs), (b8, 41, dnC su ca ds ⟨ga, cl, gc⟩ ⟨ca', cl, cc⟩ sd)] b8 ⟨ga, cl, gc⟩ X ⟨ca', cl, cc⟩ Z sd (List.replicate j sd0) wx) ∧ Hid (DNs w p cl ⟨ga, cl, gc⟩ X ⟨ca', cl, cc⟩ Z wx)) (fun s11 _ => su.toNat - (intOf s11).toNat)
          case atStart => exact ⟨0, zSl, hs0, rfl, HD, HS⟩
          case round =>
            clear HD HS HSW hz1 SZ0
            obtain ⟨j, ⟨sa, sl, sc'⟩, hj, rfl, HD, HS⟩ := hrel
            have hsl : sl = j := by
              have := own_len sd_ok (by decide) HD.out.os
              rw [List.length_replicate] at this
              exact this.symm
            subst hsl
            have F4 : wr.cell? ⟨b4, 0, none⟩ = some (.int .i64 su) := HD.out.bx.f 0 rfl 0
            have G5 : wr.cell? ⟨b8, 5, none⟩ = some (.slice sa sl sc') := HD.out.bx.f 2 rfl 5
            by_cases hlt : (sl : Int) < su
            · have TA := Lib.hid ((Turn.refl (fun _ => False) wr).alloc (.cells sd0.cs.toArray 57))
              have HDA := Lib.hid (HD.out.new TA.out)
              have KA := Lib.hid (has_one (enc := Sd.cs) (size := 7) (heap_alloc_new wr (.cells sd0.cs.toArray 57)))
              go_upto_region 14 with (at_builtin; refine wpList_append_great sd_ok (by decide) Try.underlying36 info_sudog rfl (by decide) rfl (.tmp 55) (.tmp 57) rfl (b8 + 1) (.slice sa sl sc') (List.replicate sl sd0) sl rfl HDA.out.os (some ⟨wr.heap.size, 0, none⟩) [sd0] 1 1 rfl rfl (by intro e; cases e) KA.out (sl + 1) rfl (by omega) HDA.out.lo.2.2 ?_; intro v10 w10 h10 t10 u10; obtain ⟨g', c', rfl, hg', -, -⟩ := own_form h10.out (by omega); have HD10 := Lib.hid (HDA.out.grow_sd h10.out t10.out (grow_or u10.out)); have d0 : w10.cell? ⟨b8, 5, none⟩ = some (.slice sa sl sc') := (HD10.out.bx.f 2 rfl 5); have d1 : w10.frozen? ⟨b8, 5, none⟩ = false := (HD10.out.bx.r 2 rfl 5))
              have HD11 : Hid (DN w [(b4, 24, [.int .i64 su, .int .i64 ca]), (b6, 41, zS.cs), (b8, 41, dnC su ca ds ⟨ga, cl, gc⟩ ⟨ca', cl, cc⟩ ⟨some ⟨g', 0, none⟩, sl + 1, c'⟩)] b8 ⟨ga, cl, gc⟩ X ⟨ca', cl, cc⟩ Z ⟨some ⟨g', 0, none⟩, sl + 1, c'⟩ (List.replicate (sl + 1) sd0) (w10.setCell ⟨b8, 5, none⟩ (.slice (some ⟨g', 0, none⟩) (sl + 1) c'))) := Lib.hid (by
                have h := HD10.out.put 2 rfl 5 (.slice (some ⟨g', 0, none⟩) (sl + 1) c')
                rw [← List.replicate_succ'] at h
                exact h)
              have HS11 := Lib.hid (HS.out.up (Nat.le_trans TA.out.size (Nat.le_trans t10.out.size (set_turn w10 b8 5 (.slice (some ⟨g', 0, none⟩) (sl + 1) c')).size)))
              clear TA HDA KA h10 t10 u10 HD10 d0 d1 HD HS F4 G5
              generalize w10.setCell ⟨b8, 5, none⟩ (.slice (some ⟨g', 0, none⟩) (sl + 1) c') = w11 at HD11 HS11 ⊢
              go_wp2_with fail
              go_roundw
              case rel => exact ⟨sl + 1, ⟨some ⟨g', 0, none⟩, sl + 1, c'⟩, by omega, by go_num, HD11, HS11⟩
              case measure => simp [intOf]; omega
            · have hsu : su = (sl : Int) := by omega
              have HSU := Lib.hid hsu
              clear hsu G5
              have L1 := (HD.out.bx.at 2 rfl).load (P := Try.prog) (t := 41) t_state
              go_wp2_with (first | refine wpList_load_at rfl rfl rfl L1 ?_ | (refine wpList_store_box rfl rfl HD.out.bx 1 rfl rfl (dnC su ca ds ⟨ga, cl, gc⟩ ⟨ca', cl, cc⟩ ⟨sa, sl, sc'⟩) rfl rfl t_state (dnC_one _ _ _ _ _ _) ?_; intro w12 B12 T12))
              refine bodyPost_ret (ret_box1 Try.results6 B12.out 1 rfl rfl t_state rfl) rfl ⟨B12.out.t, fun e => ?_, fun _ e => ?_, fun _ _ => ⟨dnZ p su ca dr ds ⟨ga, cl, gc⟩ ⟨ca', cl, cc⟩ ⟨sa, sl, sc'⟩, ?_, rfl, ?_⟩⟩
              · exact absurd (HRP.out.symm.trans e) (by decide)
              · rw [HN.out] at e
                exact absurd (HCB.out.symm.trans e) (by decide)
              · unfold SV.val
                rw [dn_cs hs0 hca.1]
                rfl
              · have hb6 : b6 ≤ b8 := HL.out.2
                have hsl : su.toNat = sl := by rw [HSU.out]; rfl
                refine dn_rs HN.out B12.out.t (own_turn HD.out.og T12.out (fun k hk e => by have := (HD.out.og.lt k hk).1; omega)) (own_turn HD.out.oc T12.out (fun k hk e => by have := (HD.out.oc.lt k hk).1; omega)) (by rw [hsl]; exact own_turn HD.out.os T12.out (fun k hk e => by have := (HD.out.os.lt k hk).1; omega)) (HS.out.up T12.out.size) HDS.out HR.out (by rw [hsl])

end Go.Proofs.Ytenbafkgfdlfpaa
