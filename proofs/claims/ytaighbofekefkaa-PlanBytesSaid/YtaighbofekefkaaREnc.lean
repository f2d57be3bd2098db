/- A plan's bytes: the document's Encode. -/
import Derived.Test.YtaighbofekefkaaRefC
import Derived.Test.YtaighbofekefkaaEnc
namespace Go.Proofs.Ytaighbofekefkaa
open Go.RowKit
set_option linter.unusedVariables false


theorem rencode_no {s : Sl} {n : Nat} {p : List (List Opr)} (w : World) (hP : RPlan w s p) (hn : p.length = n) (hm : MildP p) (hb : rightP p = false) :
    Calls Try.prog 14 #[.slice s.ao n s.cap] w fun e w' => e = .returned (.tuple #[.slice none 0 0, .int .i64 3]) ∧ Turn (fun _ => False) w w' := by
  have HP := Lib.hid hP
  have HN := Lib.hid hn
  have HM := Lib.hid hm
  have HB := Lib.hid hb
  clear hP hn hm hb
  go_enter Try.func14, Try.ntmps14
  go_wp2_with fail
  refine (rright_any false _ HP.out HN.out HM.out HB.out).mono ?_
  rintro e w1 ⟨rfl, t1⟩
  go_wp2_with fail
  go_ret2
  exact ⟨rfl, t1⟩

set_option maxRecDepth 100000 in
set_option maxHeartbeats 8000000 in
theorem rencode_yes {s : Sl} {n : Nat} {p : List (List Opr)} (w : World) (hP : RPlan w s p) (hn : p.length = n) (hb : rightP p = true) :
    Calls Try.prog 14 #[.slice s.ao n s.cap] w fun e w' => ∃ v, e = .returned (.tuple #[v, .int .i64 0]) ∧ Own w' w.heap.size v (encP p) ∧ Turn (fun _ => False) w w' := by
  obtain ⟨aoS, lenS, cS⟩ := s
  have HP := Lib.hid hP
  have HN := Lib.hid hn
  have HM := Lib.hid (rightP_mild hb)
  have HB := Lib.hid hb
  obtain ⟨hr1, hr2, hr3⟩ := rightP_has hb
  rw [hn] at hr2 hr3
  have HR := Lib.hid hr1
  have u1 : IntKind.u8.wrap ((n : Int) - 1) = (n : Int) - 1 := wrap_u8 (by omega)
  clear hP hn hb hr1
  dsimp only
  go_enter Try.func14, Try.ntmps14
  go_wp2_with fail
  refine (rright_any true _ HP.out HN.out HM.out HB.out).mono ?_
  rintro e w1 ⟨rfl, t1⟩
  have T1 := Lib.hid t1
  clear t1
  go_upto_region 5 with fail
  have A0 := Lib.hid (so_first (y := (n : Int) - 1) (T1.out.alloc (.cells #[.int .u8 ((n : Int) - 1)] 5)) T1.out.size (heap_alloc_new w1 _))
  go_loopw [4, 21] (fun s4 s19 wr => ∃ (i m cR : Nat) (bR : Option Addr) (outR0 : List Int), i ≤ n ∧ s19 = .int .i64 i ∧ s4 = .slice bR m cR ∧ m ≤ 1 + 400 * i ∧ Hid (So w wr (.slice bR m cR) outR0 m) ∧ Hid (outR0 = ((n : Int) - 1) :: (p.take i).flatMap encL)) (fun _ s19 _ => n - (intOf s19).toNat)
  case atStart => exact ⟨0, _, _, _, _, Nat.zero_le _, rfl, rfl, by omega, A0, Lib.hid (by simp)⟩
  case round =>
    clear A0 T1
    obtain ⟨i, m, cR, bR, outR0, hi, rfl, rfl, hmb, A, HO⟩ := hrel
    by_cases hlt : i < n
    · obtain ⟨x, hx⟩ : ∃ x, p[i]? = some x := ⟨_, List.getElem?_eq_getElem (by rw [HN.out]; exact hlt)⟩
      obtain ⟨a, y, ha, hr, hc⟩ := HP.out.at hx
      dsimp only at ha
      subst ha
      obtain ⟨ao', len', cap'⟩ := y
      have hl' : x.length = len' := hr.ok.len.symm
      have hc := A.out.t.cell id hc
      have HX := Lib.hid hx
      have HRR := Lib.hid hr
      have HL' := Lib.hid hl'
      unfold Sl.val at hc
      dsimp only at hc
      have hxr := List.all_eq_true.1 HR.out x (List.mem_of_getElem? hx)
      obtain ⟨hxr1, hxr2⟩ := rightL_has hxr
      rw [hl'] at hxr2
      have HXR := Lib.hid hxr1
      have u2 : IntKind.u8.wrap (len' : Int) = len' := wrap_u8 (by omega)
      obtain ⟨m1, hm1⟩ : ∃ m1, m + 1 = m1 := ⟨_, rfl⟩
      have HM1 := Lib.hid hm1
      have bm1 : m1 ≤ 2 + 400 * i := by omega
      clear hx hr hl' hxr hxr1 hm1
      go_upto_region 8 with (at_builtin; refine wpList_append_one_n Try.underlying22 info_u8 (by decide) rfl (.tmp 25) (.tmp 29) rfl w.heap.size _ _ m (len' : Int) rfl (A.out.own.at A.out.len) m1 HM1.out rfl (by omega) A.out.t.size ?_; intro g ck wk hg h5 t5 b5)
      have AK := Lib.hid (A.out.one h5.out t5.out b5.out HM1.out)
      clear h5 t5 b5 hc
      go_upto_region 9 with fail
      go_loopw [4, 33] (fun s4 s31 wr => ∃ (k mm cR : Nat) (bR : Option Addr) (outK : List Int), k ≤ len' ∧ s31 = .int .i64 k ∧ s4 = .slice bR mm cR ∧ mm ≤ m1 + 24 * k ∧ Hid (So w wr (.slice bR mm cR) outK mm) ∧ Hid (outK = outR0 ++ ((len' : Int) :: (x.take k).flatMap encO))) (fun _ s31 _ => len' - (intOf s31).toNat)
      case atStart => exact ⟨0, _, _, _, _, Nat.zero_le _, rfl, rfl, by omega, AK, Lib.hid (by simp)⟩
      case round =>
        clear AK
        obtain ⟨k, mm, cK, bK, outK, hk, rfl, rfl, hmm, AK, HK⟩ := hrel
        by_cases hlt2 : k < len'
        · obtain ⟨y, hy⟩ : ∃ y, x[k]? = some y := ⟨_, List.getElem?_eq_getElem (by rw [HL'.out]; exact hlt2)⟩
          obtain ⟨a2, r, ha2, hro, hc⟩ := HRR.out.at hy
          dsimp only at ha2
          subst ha2
          obtain ⟨kind, ch, nn, v, ⟨ao, len, cap⟩, els⟩ := r
          obtain ⟨c0, c1, c2, c3, c4, c5⟩ := cells6 hc
          have c0 := AK.out.t.cell id c0
          have c1 := AK.out.t.cell id c1
          have c2 := AK.out.t.cell id c2
          have c3 := AK.out.t.cell id c3
          have c4 := AK.out.t.cell id c4
          have c5 := AK.out.t.cell id c5
          have HY := Lib.hid hy
          have HRO := Lib.hid hro
          have HYR := Lib.hid (List.all_eq_true.1 HXR.out y (List.mem_of_getElem? hy))
          unfold Sl.val at c4
          dsimp only at c0 c1 c2 c3 c4 c5
          clear hy hc hro
          have hf := rightO_has HYR.out
          obtain ⟨kind', ch', nn', v', L, els'⟩ := y
          obtain ⟨e1, e2, e3, e4, e5, hcs⟩ := HRO.out
          dsimp only at e1 e2 e3 e4 e5 hcs
          subst e1 e2 e3 e4 e5
          have hlen : L.length = len := hcs.ok.len.symm
          have HL := Lib.hid hcs.has
          have HLN := Lib.hid hlen
          dsimp only at HL hf
          rw [hlen] at hf
          obtain ⟨k1, k9, q1, q2, q3, q4, q5, q6, q7, q8, q9, q10, q11, q12⟩ := hf
          have HR := Lib.hid q12
          clear hcs hlen q12
          generalize hwz : wr = wz at AK c0 c1 c2 c3 c4 c5 ⊢
          clear hwz
          have hOO := True.intro
          rcases (show kind = 1 ∨ kind = 9 ∨ (2 ≤ kind ∧ kind ≤ 8) by omega) with rfl | rfl | ⟨p1, p2⟩
          · have B1 : hasCh 1 = false := rfl
            have B2 : hasV 1 = false := rfl
            have B9 : ((1 : Int) == 9) = false := rfl
            obtain ⟨rfl, hl1⟩ : els = false ∧ len = 0 := q11.resolve_left (by omega)
            have hl0 : 0 ≥ len := by omega
            clear hl1 q10 q11 q8 q9 k1 k9
            have u3 : IntKind.u8.wrap nn = nn := wrap_u8 (by omega)
            go_upto_region 11 with fail
            have A := Lib.hid (Sa.mk (w := wz) (v0 := .slice bK mm cK) (AK.out.own.new ((Turn.refl (fun _ => False) wz).alloc (.cells #[.int .i64 1, .int .i64 ch, .int .i64 nn, .int .i64 v, .slice ao len cap, .bool false] 29))) AK.out.len (heap_alloc_new wz _) ((Grow.refl _ wz).new ((Turn.refl (fun _ => False) wz).alloc _)))
            obtain ⟨BB, hBB⟩ : ∃ b, wz.heap.size = b := ⟨_, rfl⟩
            have HBB := Lib.hid hBB
            rw [hBB] at A ⊢
            generalize wz.alloc (.cells #[.int .i64 1, .int .i64 ch, .int .i64 nn, .int .i64 v, .slice ao len cap, .bool false] 29) = wa at A ⊢
            clear hBB c0 c1 c2 c3 c4 c5
            obtain ⟨c0, c1, c2, c3, c4, c5⟩ := at6_of A.out.box
            obtain ⟨n1, hn2⟩ : ∃ m, mm + 1 = m := ⟨_, rfl⟩
            have HN2 := Lib.hid hn2
            have BN2 : n1 ≤ mm + 1 := by omega
            clear hn2
            go_upto_region 12 with (at_builtin; refine wpList_append_one_n Try.underlying22 info_u8 (by decide) rfl (.tmp 37) (.tmp 42) rfl w.heap.size _ _ mm (0) rfl (A.out.own.at A.out.len) n1 HN2.out rfl (by omega) (Nat.le_trans AK.out.t.size A.out.grow.t.size) ?_; intro g N2c wN2 hg h5 t5 b5)
            have A := Lib.hid (A.out.one h5.out t5.out b5.out HN2.out)
            clear h5 t5 b5 c0 c1 c2 c3 c4 c5
            obtain ⟨c0, c1, c2, c3, c4, c5⟩ := at6_of A.out.box
            go_wp2_with fail
            refine (rhasch_any _ false _ B1).mono ?_
            rintro e w8 ⟨rfl, rfl⟩
            obtain ⟨n2, hn2⟩ : ∃ m, n1 + 1 = m := ⟨_, rfl⟩
            have HN2 := Lib.hid hn2
            have BN2 : n2 ≤ mm + 2 := by omega
            clear hn2
            go_upto_region 16 with (at_builtin; refine wpList_append_one_n Try.underlying22 info_u8 (by decide) rfl (.tmp 56) (.tmp 60) rfl w.heap.size _ _ n1 (nn) rfl (A.out.own.at A.out.len) n2 HN2.out rfl (by omega) (Nat.le_trans AK.out.t.size A.out.grow.t.size) ?_; intro g N2c wN2 hg h5 t5 b5)
            have A := Lib.hid (A.out.one h5.out t5.out b5.out HN2.out)
            clear h5 t5 b5 c0 c1 c2 c3 c4 c5
            obtain ⟨c0, c1, c2, c3, c4, c5⟩ := at6_of A.out.box
            go_wp2_with fail
            refine (rhasv_any _ false _ B2).mono ?_
            rintro e w8 ⟨rfl, rfl⟩
            have A := Lib.hid (A.out.as (out' := outK ++ encH (⟨1, ch, nn, v, L, false⟩ : Opr)) (by simp [encH, B1, B2]))
            have A0 := Lib.hid (A.out.many (L := L) (Nat.zero_le 0))
            go_upto_region 21 with fail
            clear c0 c1 c2 c3 c4 c5 A
            go_loopw [4, 87] (fun s4 s87 wr => ∃ (j m cR : Nat) (bR : Option Addr) (outR : List Int), j ≤ len ∧ s87 = .int .i64 j ∧ s4 = .slice bR m cR ∧ m ≤ mm + 5 + 3 * j ∧ Hid (Sa wz w.heap.size (.slice bK mm cK) BB #[.int .i64 1, .int .i64 ch, .int .i64 nn, .int .i64 v, .slice ao len cap, .bool false] wr (.slice bR m cR) outR m) ∧ Hid (outR = outK ++ encH (⟨1, ch, nn, v, L, false⟩ : Opr) ++ (L.take j).flatMap encC)) (fun _ s87 _ => len - (intOf s87).toNat)
            case atStart => exact ⟨0, _, _, _, _, Nat.zero_le _, rfl, rfl, by omega, Lib.hid A0.out.1, Lib.hid A0.out.2⟩
            case round =>
              clear A0
              obtain ⟨j, m, cR, bR, outR, hj, rfl, rfl, hmb, A, HOJ⟩ := hrel
              by_cases hltj : j < len
              · exact absurd hltj (by omega)
              · have hin : j = len := by omega
                obtain ⟨m6, hm6⟩ : ∃ m6, m = m6 := ⟨_, rfl⟩
                have HE := Lib.hid (show outR = outR0 ++ ((len' : Int) :: (x.take (k + 1)).flatMap encO) by
                  rw [HOJ.out, hin, ← HLN.out, List.take_length, HK.out, List.take_add_one, HY.out]
                  simp [encO])
                have hmk : m ≤ m1 + 24 * (k + 1) := by omega
                have A6 := Lib.hid (AK.out.more A.out.own A.out.grow A.out.len)
                clear hin hm6
                go_wp2_with fail
                go_roundw
                case rel => exact ⟨k + 1, m, cR, bR, _, by omega, by go_num, rfl, hmk, A6, HE⟩
                case measure => simp [intOf]; omega
          · have B1 : hasCh 9 = false := rfl
            have B2 : hasV 9 = false := rfl
            have hl6 : len ≤ 6 := by omega
            clear q10 q11 q8 q9 k1 k9
            have u4 : IntKind.u8.wrap (len : Int) = len := wrap_u8 (by omega)
            go_upto_region 11 with fail
            have A := Lib.hid (Sa.mk (w := wz) (v0 := .slice bK mm cK) (AK.out.own.new ((Turn.refl (fun _ => False) wz).alloc (.cells #[.int .i64 9, .int .i64 ch, .int .i64 nn, .int .i64 v, .slice ao len cap, .bool els] 29))) AK.out.len (heap_alloc_new wz _) ((Grow.refl _ wz).new ((Turn.refl (fun _ => False) wz).alloc _)))
            obtain ⟨BB, hBB⟩ : ∃ b, wz.heap.size = b := ⟨_, rfl⟩
            have HBB := Lib.hid hBB
            rw [hBB] at A ⊢
            generalize wz.alloc (.cells #[.int .i64 9, .int .i64 ch, .int .i64 nn, .int .i64 v, .slice ao len cap, .bool els] 29) = wa at A ⊢
            clear hBB c0 c1 c2 c3 c4 c5
            obtain ⟨c0, c1, c2, c3, c4, c5⟩ := at6_of A.out.box
            obtain ⟨n1, hn2⟩ : ∃ m, mm + 1 = m := ⟨_, rfl⟩
            have HN2 := Lib.hid hn2
            have BN2 : n1 ≤ mm + 1 := by omega
            clear hn2
            go_upto_region 12 with (at_builtin; refine wpList_append_one_n Try.underlying22 info_u8 (by decide) rfl (.tmp 37) (.tmp 42) rfl w.heap.size _ _ mm (8) rfl (A.out.own.at A.out.len) n1 HN2.out rfl (by omega) (Nat.le_trans AK.out.t.size A.out.grow.t.size) ?_; intro g N2c wN2 hg h5 t5 b5)
            have A := Lib.hid (A.out.one h5.out t5.out b5.out HN2.out)
            clear h5 t5 b5 c0 c1 c2 c3 c4 c5
            obtain ⟨c0, c1, c2, c3, c4, c5⟩ := at6_of A.out.box
            go_wp2_with fail
            refine (rhasch_any _ false _ B1).mono ?_
            rintro e w8 ⟨rfl, rfl⟩
            go_wp2_with fail
            refine (rhasv_any _ false _ B2).mono ?_
            rintro e w8 ⟨rfl, rfl⟩
            go_upto_region 19 with fail
            generalize hwx : wN2 = wx at A c0 c1 c2 c3 c4 c5 ⊢
            have TD := Lib.hid (Turn.refl (fun _ => False) wx).drew
            have KEEP := Lib.hid (show ∀ w', Turn (fun _ => False) wx w' → (w'.cell? ⟨BB, 4, none⟩ = some (.slice ao len cap) ∧ w'.cell? ⟨BB, 5, none⟩ = some (.bool els)) from fun w' t => ⟨t.cell id c4, t.cell id c5⟩)
            clear c0 c1 c2 c3 c4 c5 hwx
            refine stand_start (by kernel_rfl) 9 (fun w' => w'.cell? ⟨BB, 4, none⟩ = some (.slice ao len cap) ∧ w'.cell? ⟨BB, 5, none⟩ = some (.bool els)) 99 (fun w' => True) (KEEP.out _ TD.out) trivial ?_
            refine stand_take (i := 0) (v := ?_) rfl (by kernel_rfl) (by kernel_rfl) (by kernel_rfl) (by rfl) (fun _ _ _ h => h) (by decide) (by decide) (by rfl) ?_ ?_
            rotate_left
            · (intro w; go_simp; try with_reducible rfl)
            dsimp only [List.set_cons_zero, List.set_cons_succ]
            refine stand_take (i := 1) (v := ?_) rfl (by kernel_rfl) (by kernel_rfl) (by kernel_rfl) (by rfl) (fun _ _ _ h => h) (by decide) (by decide) (by rfl) ?_ ?_
            rotate_left
            · (intro w; go_simp; try with_reducible rfl)
            dsimp only [List.set_cons_zero, List.set_cons_succ]
            refine stand_load1 (i := 2) (v := ?_) rfl (by kernel_rfl) (by kernel_rfl) (by kernel_rfl) (by rfl) (fun _ _ _ h => h) (by decide) (by decide) (by kernel_rfl) (by rfl) ?_ ?_
            rotate_left
            · (intro w hA; (try dsimp only at hA); go_simp; try with_reducible rfl)
            dsimp only [List.set_cons_zero, List.set_cons_succ]
            refine stand_take (i := 3) (v := ?_) rfl (by kernel_rfl) (by kernel_rfl) (by kernel_rfl) (by rfl) (fun _ _ _ h => h) (by decide) (by decide) (by rfl) ?_ ?_
            rotate_left
            · (intro w; go_simp; try with_reducible rfl)
            dsimp only [List.set_cons_zero, List.set_cons_succ]
            refine stand_take (i := 4) (v := ?_) rfl (by kernel_rfl) (by kernel_rfl) (by kernel_rfl) (by rfl) (fun _ _ _ h => h) (by decide) (by decide) (by rfl) ?_ ?_
            rotate_left
            · (intro w; go_simp; try with_reducible rfl)
            dsimp only [List.set_cons_zero, List.set_cons_succ]
            refine stand_take (i := 5) (v := ?_) rfl (by kernel_rfl) (by kernel_rfl) (by kernel_rfl) (by rfl) (fun _ _ _ h => h) (by decide) (by decide) (by rfl) ?_ ?_
            rotate_left
            · (intro w; go_simp; try with_reducible rfl)
            dsimp only [List.set_cons_zero, List.set_cons_succ]
            refine stand_load1 (i := 6) (v := ?_) rfl (by kernel_rfl) (by kernel_rfl) (by kernel_rfl) (by rfl) (fun _ _ _ h => h) (by decide) (by decide) (by kernel_rfl) (by rfl) ?_ ?_
            rotate_left
            · (intro w hA; (try dsimp only at hA); go_simp; try with_reducible rfl)
            dsimp only [List.set_cons_zero, List.set_cons_succ]
            refine stand_step (i := 7) (by kernel_rfl) rfl (fun K hK => ?_)
            go_simp
            refine (flag_any _ _).mono ?_
            rintro e w4 ⟨rfl, rfl⟩
            refine hK.out _ _ (fun _ => KEEP.out _ TD.out) (fun _ => trivial) ?_
            clear hK K
            try simp only [put_laid, List.set_cons_zero, List.set_cons_succ]
            refine stand_step (i := 8) (by kernel_rfl) rfl (fun K hK => ?_)
            go_simp
            have TE := Lib.hid (((Turn.refl (fun _ => False) wx).alloc (.cells #[.int .u8 (len : Int), .int .u8 (flagI els)] 5)).drew)
            refine hK.out _ _ (fun _ => KEEP.out _ TE.out) (fun _ => trivial) ?_
            clear hK K
            try simp only [put_laid, List.set_cons_zero, List.set_cons_succ]
            have HB2 := Lib.hid (two_ints (show (wx.alloc (.cells #[.int .u8 (len : Int), .int .u8 (flagI els)] 5)).drew.heap[wx.heap.size]? = _ from heap_alloc_new wx (.cells #[.int .u8 (len : Int), .int .u8 (flagI els)] 5)))
            have A2 := Lib.hid (A.out.new TE.out)
            generalize (wx.alloc (.cells #[.int .u8 (len : Int), .int .u8 (flagI els)] 5)).drew = w2 at TE HB2 A2 ⊢
            refine stand_step (i := 9) (by kernel_rfl) rfl (fun K hK => ?_)
            refine step_append_ints Try.underlying22 info_u8 (by decide) rfl (.tmp 74) (.tmp 82) rfl w.heap.size _ _ n1 rfl (A2.out.own.at A2.out.len) ⟨_, 0, none⟩ [(len : Int), flagI els] 2 2 rfl rfl HB2.out (by omega) (Nat.le_trans AK.out.t.size A2.out.grow.t.size) ?_
            intro v3 w3 h3 t3 b3
            obtain ⟨n3, hn3⟩ : ∃ n3, n1 + 2 = n3 := ⟨_, rfl⟩
            have A3 := Lib.hid (A2.out.more (n' := n3) (Own.of h3.out rfl) (Grow.mk t3.out (b3.out.imp id (fun e => ⟨_, e, Nat.le_refl _⟩))) (by rw [List.length_append, A2.out.len]; exact hn3))
            refine hK.out _ _ (past (by kernel_rfl)) (fun _ => trivial) ?_
            clear hK K
            try simp only [put_laid, List.set_cons_zero, List.set_cons_succ]
            clear h3 t3 b3
            refine stand_take (i := 10) (v := ?_) rfl (by kernel_rfl) (by kernel_rfl) (by kernel_rfl) (by rfl) (fun _ _ _ h => h) (by decide) (by decide) (by rfl) ?_ ?_
            rotate_left
            · (intro w; go_simp; try with_reducible rfl)
            dsimp only [List.set_cons_zero, List.set_cons_succ]
            refine stand_done (by kernel_rfl) ?_
            obtain ⟨b3, c3', rfl, _⟩ := A3.out.form
            have A := Lib.hid (A3.out.as (out' := outK ++ encH ⟨9, ch, nn, v, L, els⟩) (by simp [encH, B1, B2, HLN.out]))
            obtain ⟨c0, c1, c2, c3, c4, c5⟩ := at6_of A.out.box
            have A0 := Lib.hid (A.out.many (L := L) (Nat.zero_le 0))
            go_upto_region 21 with fail
            clear c0 c1 c2 c3 c4 c5 A
            go_loopw [4, 87] (fun s4 s87 wr => ∃ (j m cR : Nat) (bR : Option Addr) (outR : List Int), j ≤ len ∧ s87 = .int .i64 j ∧ s4 = .slice bR m cR ∧ m ≤ mm + 5 + 3 * j ∧ Hid (Sa wz w.heap.size (.slice bK mm cK) BB #[.int .i64 9, .int .i64 ch, .int .i64 nn, .int .i64 v, .slice ao len cap, .bool els] wr (.slice bR m cR) outR m) ∧ Hid (outR = outK ++ encH (⟨9, ch, nn, v, L, els⟩ : Opr) ++ (L.take j).flatMap encC)) (fun _ s87 _ => len - (intOf s87).toNat)
            case atStart => exact ⟨0, _, _, _, _, Nat.zero_le _, rfl, rfl, by omega, Lib.hid A0.out.1, Lib.hid A0.out.2⟩
            case round =>
              clear A0
              obtain ⟨j, m, cR, bR, outR, hj, rfl, rfl, hmb, A, HOJ⟩ := hrel
              by_cases hltj : j < len
              · obtain ⟨q, hq⟩ : ∃ q, L[j]? = some q := ⟨_, List.getElem?_eq_getElem (by rw [HLN.out]; exact hltj)⟩
                have TS := Lib.hid (AK.out.kept A.out.grow)
                obtain ⟨a, rfl, hc⟩ := (HL.out.new TS.out) j q hq
                obtain ⟨d0, d1, d2⟩ := cells3 hc
                have HQ := Lib.hid hq
                have hqr := List.all_eq_true.1 HR.out q (List.mem_of_getElem? hq)
                obtain ⟨z1, z2, z3, z4⟩ := rightC_in hqr
                obtain ⟨s, qc, qv⟩ := q
                dsimp only at z1 z2 z3 z4 d0 d1 d2
                have y1 : IntKind.u8.wrap qc = qc := wrap_u8 (by omega)
                have y2 : IntKind.u8.wrap qv = qv := wrap_u8 (by omega)
                clear hq hc hqr TS
                go_upto_region 23 with fail
                have HCB := Lib.hid (heap_alloc_new wr (.cells #[.bool s, .int .i64 qc, .int .i64 qv] 45))
                have AN := Lib.hid (A.out.new ((Turn.refl (fun _ => False) wr).alloc (.cells #[.bool s, .int .i64 qc, .int .i64 qv] 45)))
                obtain ⟨CB, hCB⟩ : ∃ b, wr.heap.size = b := ⟨_, rfl⟩
                rw [hCB] at HCB ⊢
                generalize wr.alloc (.cells #[.bool s, .int .i64 qc, .int .i64 qv] 45) = w1 at HCB AN ⊢
                clear hCB d0 d1 d2
                have TD := Lib.hid (Turn.refl (fun _ => False) w1).drew
                have KEEP := Lib.hid (show ∀ w', Turn (fun _ => False) w1 w' → (w'.cell? ⟨CB, 0, none⟩ = some (.bool s) ∧ w'.cell? ⟨CB, 1, none⟩ = some (.int .i64 qc)) from fun w' t => ⟨(cells_of3 (t.heap id HCB.out)).1, (cells_of3 (t.heap id HCB.out)).2.1⟩)
                refine stand_start (by kernel_rfl) 8 (fun w' => w'.cell? ⟨CB, 0, none⟩ = some (.bool s) ∧ w'.cell? ⟨CB, 1, none⟩ = some (.int .i64 qc)) 99 (fun w' => True) (KEEP.out _ TD.out) trivial ?_
                refine stand_take (i := 0) (v := ?_) rfl (by kernel_rfl) (by kernel_rfl) (by kernel_rfl) (by rfl) (fun _ _ _ h => h) (by decide) (by decide) (by rfl) ?_ ?_
                rotate_left
                · (intro w; go_simp; try with_reducible rfl)
                dsimp only [List.set_cons_zero, List.set_cons_succ]
                refine stand_take (i := 1) (v := ?_) rfl (by kernel_rfl) (by kernel_rfl) (by kernel_rfl) (by rfl) (fun _ _ _ h => h) (by decide) (by decide) (by rfl) ?_ ?_
                rotate_left
                · (intro w; go_simp; try with_reducible rfl)
                dsimp only [List.set_cons_zero, List.set_cons_succ]
                refine stand_load1 (i := 2) (v := ?_) rfl (by kernel_rfl) (by kernel_rfl) (by kernel_rfl) (by rfl) (fun _ _ _ h => h) (by decide) (by decide) (by kernel_rfl) (by rfl) ?_ ?_
                rotate_left
                · (intro w hA; (try dsimp only at hA); go_simp; try with_reducible rfl)
                dsimp only [List.set_cons_zero, List.set_cons_succ]
                refine stand_take (i := 4) (v := ?_) rfl (by kernel_rfl) (by kernel_rfl) (by kernel_rfl) (by rfl) (fun _ _ _ h => h) (by decide) (by decide) (by rfl) ?_ ?_
                rotate_left
                · (intro w; go_simp; try with_reducible rfl)
                dsimp only [List.set_cons_zero, List.set_cons_succ]
                refine stand_load1 (i := 5) (v := ?_) rfl (by kernel_rfl) (by kernel_rfl) (by kernel_rfl) (by rfl) (fun _ _ _ h => h) (by decide) (by decide) (by kernel_rfl) (by rfl) ?_ ?_
                rotate_left
                · (intro w hA; (try dsimp only at hA); go_simp; try with_reducible rfl)
                dsimp only [List.set_cons_zero, List.set_cons_succ]
                refine stand_take (i := 6) (v := ?_) rfl (by kernel_rfl) (by kernel_rfl) (by kernel_rfl) (by rfl) (fun _ _ _ h => h) (by decide) (by decide) (by rfl) ?_ ?_
                rotate_left
                · (intro w; go_simp; try with_reducible rfl)
                dsimp only [List.set_cons_zero, List.set_cons_succ]
                refine stand_step (i := 3) (by kernel_rfl) rfl (fun K hK => ?_)
                go_simp
                refine (flag_any _ _).mono ?_
                rintro e w4 ⟨rfl, rfl⟩
                refine hK.out _ _ (fun _ => KEEP.out _ TD.out) (fun _ => trivial) ?_
                clear hK K
                try simp only [put_laid, List.set_cons_zero, List.set_cons_succ]
                refine stand_step (i := 7) (by kernel_rfl) rfl (fun K hK => ?_)
                go_simp
                have TE := Lib.hid (((Turn.refl (fun _ => False) w1).alloc (.cells #[.int .u8 (flagI s), .int .u8 qc] 5)).drew)
                refine hK.out _ _ (fun _ => KEEP.out _ TE.out) (fun _ => trivial) ?_
                clear hK K
                try simp only [put_laid, List.set_cons_zero, List.set_cons_succ]
                have HB2 := Lib.hid (two_ints (show (w1.alloc (.cells #[.int .u8 (flagI s), .int .u8 qc] 5)).drew.heap[w1.heap.size]? = _ from heap_alloc_new w1 (.cells #[.int .u8 (flagI s), .int .u8 qc] 5)))
                have A2 := Lib.hid (AN.out.new TE.out)
                have HC2 := Lib.hid (TE.out.heap id HCB.out)
                generalize (w1.alloc (.cells #[.int .u8 (flagI s), .int .u8 qc] 5)).drew = w2 at TE HB2 A2 HC2 ⊢
                refine stand_step (i := 8) (by kernel_rfl) rfl (fun K hK => ?_)
                refine step_append_ints Try.underlying22 info_u8 (by decide) rfl (.tmp 91) (.tmp 98) rfl w.heap.size _ _ m rfl (A2.out.own.at A2.out.len) ⟨_, 0, none⟩ [flagI s, qc] 2 2 rfl rfl HB2.out (by omega) (Nat.le_trans AK.out.t.size A2.out.grow.t.size) ?_
                intro v3 w3 h3 t3 b3
                obtain ⟨m3, hm3⟩ : ∃ m3, m + 2 = m3 := ⟨_, rfl⟩
                have C3 := Lib.hid (A2.out.own.beside (by decide) t3.out HC2.out)
                have A3 := Lib.hid (A2.out.more (n' := m3) (Own.of h3.out rfl) (Grow.mk t3.out (b3.out.imp id (fun e => ⟨_, e, Nat.le_refl _⟩))) (by rw [List.length_append, A2.out.len]; exact hm3))
                refine hK.out _ _ (past (by kernel_rfl)) (fun _ => trivial) ?_
                clear hK K
                try simp only [put_laid, List.set_cons_zero, List.set_cons_succ]
                clear h3 t3 b3
                refine stand_take (i := 9) (v := ?_) rfl (by kernel_rfl) (by kernel_rfl) (by kernel_rfl) (by rfl) (fun _ _ _ h => h) (by decide) (by decide) (by rfl) ?_ ?_
                rotate_left
                · (intro w; go_simp; try with_reducible rfl)
                dsimp only [List.set_cons_zero, List.set_cons_succ]
                refine stand_done (by kernel_rfl) ?_
                have hb3 : m3 ≤ mm + 5 + 3 * j + 2 := by omega
                clear hm3
                obtain ⟨b3, c3', rfl, _⟩ := A3.out.form
                obtain ⟨e0, e1, e2⟩ := cells_of3 C3.out
                cases s
                · have HO3 := Lib.hid (show outR ++ [flagI false, qc] = outK ++ encH (⟨9, ch, nn, v, L, els⟩ : Opr) ++ (L.take (j + 1)).flatMap encC by
                    rw [HOJ.out, List.take_add_one, HQ.out]
                    simp [encC])
                  go_wp2_with fail
                  go_roundw
                  case rel => exact ⟨j + 1, m3, c3', b3, _, by omega, by go_num, rfl, by omega, A3, HO3⟩
                  case measure => simp [intOf]; omega
                · obtain ⟨m4, hm4⟩ : ∃ m4, m3 + 1 = m4 := ⟨_, rfl⟩
                  have HM4 := Lib.hid hm4
                  have hb4 : m4 ≤ mm + 5 + 3 * (j + 1) := by omega
                  clear hm4
                  have HO3 := Lib.hid (show outR ++ [flagI true, qc] ++ [qv] = outK ++ encH (⟨9, ch, nn, v, L, els⟩ : Opr) ++ (L.take (j + 1)).flatMap encC by
                    rw [HOJ.out, List.take_add_one, HQ.out]
                    simp [encC])
                  go_wp2_with (at_builtin; refine wpList_append_one_n Try.underlying22 info_u8 (by decide) rfl (.tmp 102) (.tmp 106) rfl w.heap.size _ _ m3 qv rfl (A3.out.own.at A3.out.len) m4 HM4.out rfl (by omega) (Nat.le_trans AK.out.t.size A3.out.grow.t.size) ?_; intro g c4' w5 hg h5 t5 b5)
                  have A4 := Lib.hid (A3.out.one h5.out t5.out b5.out HM4.out)
                  go_roundw
                  case rel => exact ⟨j + 1, m4, c4', _, _, by omega, by go_num, rfl, by omega, A4, HO3⟩
                  case measure => simp [intOf]; omega
              · have hin : j = len := by omega
                obtain ⟨m6, hm6⟩ : ∃ m6, m = m6 := ⟨_, rfl⟩
                have HE := Lib.hid (show outR = outR0 ++ ((len' : Int) :: (x.take (k + 1)).flatMap encO) by
                  rw [HOJ.out, hin, ← HLN.out, List.take_length, HK.out, List.take_add_one, HY.out]
                  simp [encO])
                have hmk : m ≤ m1 + 24 * (k + 1) := by omega
                have A6 := Lib.hid (AK.out.more A.out.own A.out.grow A.out.len)
                clear hin hm6
                go_wp2_with fail
                go_roundw
                case rel => exact ⟨k + 1, m, cR, bR, _, by omega, by go_num, rfl, hmk, A6, HE⟩
                case measure => simp [intOf]; omega
          · have B1 : hasCh kind = true := by simp [hasCh, p1, p2]
            have B0 : (kind == 1) = false := by simp; omega
            have B9 : (kind == 9) = false := by simp; omega
            obtain ⟨rfl⟩ : nn = 0 := by omega
            obtain ⟨rfl, hl1⟩ : els = false ∧ len = 0 := q11.resolve_left (by omega)
            have hl0 : 0 ≥ len := by omega
            clear hl1 q10 q11 q8 q9
            have u1 : IntKind.u8.wrap (kind - 1) = kind - 1 := wrap_u8 (by omega)
            have u2 : IntKind.u8.wrap ch = ch := wrap_u8 (by omega)
            have u3 : IntKind.u8.wrap v = v := wrap_u8 (by omega)
            go_upto_region 11 with fail
            have A := Lib.hid (Sa.mk (w := wz) (v0 := .slice bK mm cK) (AK.out.own.new ((Turn.refl (fun _ => False) wz).alloc (.cells #[.int .i64 kind, .int .i64 ch, .int .i64 0, .int .i64 v, .slice ao len cap, .bool false] 29))) AK.out.len (heap_alloc_new wz _) ((Grow.refl _ wz).new ((Turn.refl (fun _ => False) wz).alloc _)))
            obtain ⟨BB, hBB⟩ : ∃ b, wz.heap.size = b := ⟨_, rfl⟩
            have HBB := Lib.hid hBB
            rw [hBB] at A ⊢
            generalize wz.alloc (.cells #[.int .i64 kind, .int .i64 ch, .int .i64 0, .int .i64 v, .slice ao len cap, .bool false] 29) = wa at A ⊢
            clear hBB c0 c1 c2 c3 c4 c5
            obtain ⟨c0, c1, c2, c3, c4, c5⟩ := at6_of A.out.box
            obtain ⟨n1, hn2⟩ : ∃ m, mm + 1 = m := ⟨_, rfl⟩
            have HN2 := Lib.hid hn2
            have BN2 : n1 ≤ mm + 1 := by omega
            clear hn2
            go_upto_region 12 with (at_builtin; refine wpList_append_one_n Try.underlying22 info_u8 (by decide) rfl (.tmp 37) (.tmp 42) rfl w.heap.size _ _ mm (kind-1) rfl (A.out.own.at A.out.len) n1 HN2.out rfl (by omega) (Nat.le_trans AK.out.t.size A.out.grow.t.size) ?_; intro g N2c wN2 hg h5 t5 b5)
            have A := Lib.hid (A.out.one h5.out t5.out b5.out HN2.out)
            clear h5 t5 b5 c0 c1 c2 c3 c4 c5
            obtain ⟨c0, c1, c2, c3, c4, c5⟩ := at6_of A.out.box
            go_wp2_with fail
            refine (rhasch_any _ true _ B1).mono ?_
            rintro e w8 ⟨rfl, rfl⟩
            obtain ⟨n2, hn2⟩ : ∃ m, n1 + 1 = m := ⟨_, rfl⟩
            have HN2 := Lib.hid hn2
            have BN2 : n2 ≤ mm + 2 := by omega
            clear hn2
            go_upto_region 14 with (at_builtin; refine wpList_append_one_n Try.underlying22 info_u8 (by decide) rfl (.tmp 47) (.tmp 51) rfl w.heap.size _ _ n1 (ch) rfl (A.out.own.at A.out.len) n2 HN2.out rfl (by omega) (Nat.le_trans AK.out.t.size A.out.grow.t.size) ?_; intro g N2c wN2 hg h5 t5 b5)
            have A := Lib.hid (A.out.one h5.out t5.out b5.out HN2.out)
            clear h5 t5 b5 c0 c1 c2 c3 c4 c5
            obtain ⟨c0, c1, c2, c3, c4, c5⟩ := at6_of A.out.box
            obtain ⟨bv, B2⟩ : ∃ b, hasV kind = b := ⟨_, rfl⟩
            cases bv
            · go_wp2_with fail
              refine (rhasv_any _ false _ B2).mono ?_
              rintro e w8 ⟨rfl, rfl⟩
              have A := Lib.hid (A.out.as (out' := outK ++ encH (⟨kind, ch, 0, v, L, false⟩ : Opr)) (by simp [encH, B1, B0, B2, B9]))
              have A0 := Lib.hid (A.out.many (L := L) (Nat.zero_le 0))
              go_upto_region 21 with fail
              clear c0 c1 c2 c3 c4 c5 A
              go_loopw [4, 87] (fun s4 s87 wr => ∃ (j m cR : Nat) (bR : Option Addr) (outR : List Int), j ≤ len ∧ s87 = .int .i64 j ∧ s4 = .slice bR m cR ∧ m ≤ mm + 5 + 3 * j ∧ Hid (Sa wz w.heap.size (.slice bK mm cK) BB #[.int .i64 kind, .int .i64 ch, .int .i64 0, .int .i64 v, .slice ao len cap, .bool false] wr (.slice bR m cR) outR m) ∧ Hid (outR = outK ++ encH (⟨kind, ch, 0, v, L, false⟩ : Opr) ++ (L.take j).flatMap encC)) (fun _ s87 _ => len - (intOf s87).toNat)
              case atStart => exact ⟨0, _, _, _, _, Nat.zero_le _, rfl, rfl, by omega, Lib.hid A0.out.1, Lib.hid A0.out.2⟩
              case round =>
                clear A0
                obtain ⟨j, m, cR, bR, outR, hj, rfl, rfl, hmb, A, HOJ⟩ := hrel
                by_cases hltj : j < len
                · exact absurd hltj (by omega)
                · have hin : j = len := by omega
                  obtain ⟨m6, hm6⟩ : ∃ m6, m = m6 := ⟨_, rfl⟩
                  have HE := Lib.hid (show outR = outR0 ++ ((len' : Int) :: (x.take (k + 1)).flatMap encO) by
                    rw [HOJ.out, hin, ← HLN.out, List.take_length, HK.out, List.take_add_one, HY.out]
                    simp [encO])
                  have hmk : m ≤ m1 + 24 * (k + 1) := by omega
                  have A6 := Lib.hid (AK.out.more A.out.own A.out.grow A.out.len)
                  clear hin hm6
                  go_wp2_with fail
                  go_roundw
                  case rel => exact ⟨k + 1, m, cR, bR, _, by omega, by go_num, rfl, hmk, A6, HE⟩
                  case measure => simp [intOf]; omega
            · go_wp2_with fail
              refine (rhasv_any _ true _ B2).mono ?_
              rintro e w8 ⟨rfl, rfl⟩
              obtain ⟨n3, hn2⟩ : ∃ m, n2 + 1 = m := ⟨_, rfl⟩
              have HN2 := Lib.hid hn2
              have BN2 : n3 ≤ mm + 3 := by omega
              clear hn2
              go_upto_region 18 with (at_builtin; refine wpList_append_one_n Try.underlying22 info_u8 (by decide) rfl (.tmp 65) (.tmp 69) rfl w.heap.size _ _ n2 (v) rfl (A.out.own.at A.out.len) n3 HN2.out rfl (by omega) (Nat.le_trans AK.out.t.size A.out.grow.t.size) ?_; intro g N2c wN2 hg h5 t5 b5)
              have A := Lib.hid (A.out.one h5.out t5.out b5.out HN2.out)
              clear h5 t5 b5 c0 c1 c2 c3 c4 c5
              obtain ⟨c0, c1, c2, c3, c4, c5⟩ := at6_of A.out.box
              have A := Lib.hid (A.out.as (out' := outK ++ encH (⟨kind, ch, 0, v, L, false⟩ : Opr)) (by simp [encH, B1, B0, B2, B9]))
              have A0 := Lib.hid (A.out.many (L := L) (Nat.zero_le 0))
              go_upto_region 21 with fail
              clear c0 c1 c2 c3 c4 c5 A
              go_loopw [4, 87] (fun s4 s87 wr => ∃ (j m cR : Nat) (bR : Option Addr) (outR : List Int), j ≤ len ∧ s87 = .int .i64 j ∧ s4 = .slice bR m cR ∧ m ≤ mm + 5 + 3 * j ∧ Hid (Sa wz w.heap.size (.slice bK mm cK) BB #[.int .i64 kind, .int .i64 ch, .int .i64 0, .int .i64 v, .slice ao len cap, .bool false] wr (.slice bR m cR) outR m) ∧ Hid (outR = outK ++ encH (⟨kind, ch, 0, v, L, false⟩ : Opr) ++ (L.take j).flatMap encC)) (fun _ s87 _ => len - (intOf s87).toNat)
              case atStart => exact ⟨0, _, _, _, _, Nat.zero_le _, rfl, rfl, by omega, Lib.hid A0.out.1, Lib.hid A0.out.2⟩
              case round =>
                clear A0
                obtain ⟨j, m, cR, bR, outR, hj, rfl, rfl, hmb, A, HOJ⟩ := hrel
                by_cases hltj : j < len
                · exact absurd hltj (by omega)
                · have hin : j = len := by omega
                  obtain ⟨m6, hm6⟩ : ∃ m6, m = m6 := ⟨_, rfl⟩
                  have HE := Lib.hid (show outR = outR0 ++ ((len' : Int) :: (x.take (k + 1)).flatMap encO) by
                    rw [HOJ.out, hin, ← HLN.out, List.take_length, HK.out, List.take_add_one, HY.out]
                    simp [encO])
                  have hmk : m ≤ m1 + 24 * (k + 1) := by omega
                  have A6 := Lib.hid (AK.out.more A.out.own A.out.grow A.out.len)
                  clear hin hm6
                  go_wp2_with fail
                  go_roundw
                  case rel => exact ⟨k + 1, m, cR, bR, _, by omega, by go_num, rfl, hmk, A6, HE⟩
                  case measure => simp [intOf]; omega
        · have hkn : k = len' := by omega
          have HO2 := Lib.hid (show outK = ((n : Int) - 1) :: (p.take (i + 1)).flatMap encL by
            rw [HK.out, HO.out, List.take_add_one, HX.out, hkn, ← HL'.out, List.take_length]
            simp [encL])
          have hmm2 : mm ≤ 1 + 400 * (i + 1) := by omega
          clear hkn
          go_wp2_with fail
          go_roundw
          case rel => exact ⟨i + 1, mm, cK, bK, _, by omega, by go_num, rfl, hmm2, AK, HO2⟩
          case measure => simp [intOf]; omega
    · have hin : i = n := by omega
      have HE := Lib.hid (show outR0 = encP p by
        rw [HO.out, hin, ← HN.out, List.take_length]
        rfl)
      clear hin
      go_wp2_with fail
      go_ret2
      exact ⟨_, rfl, HE.out ▸ A.out.own, A.out.t⟩

end Go.Proofs.Ytaighbofekefkaa
