/- The document's: bytes as a plan. -/
import Derived.Test.YtaighbofekefkaaOne
import Derived.Test.YtaighbofekefkaaEnc
namespace Go.Proofs.Ytaighbofekefkaa
open Go.RowKit
set_option linter.unusedVariables false

theorem opOne_near {B : List Int} (h : IsBytes B) (i : Nat) : (opOne B i).2 ≤ i + 24 := by
  have h1 := opOne_place B i
  have h2 := encO_len (opOne_right h i)
  omega
theorem opsAt_next (B : List Int) (i k pl : Nat) (h : pl = (opsAt B i k).2) : opsAt B i (k + 1) = ((opsAt B i k).1 ++ [(opOne B pl).1], (opOne B pl).2) := by subst h; rfl
theorem rowsAt_next (B : List Int) (i k pl : Nat) (h : pl = (rowsAt B i k).2) : rowsAt B i (k + 1) = ((rowsAt B i k).1 ++ [(rowAt B pl).1], (rowAt B pl).2) := by subst h; rfl
theorem info_case' : (45 : Nat) ≠ 29 := by decide

set_option maxRecDepth 100000 in
set_option maxHeartbeats 4000000 in
theorem rdecode_any {ao : Option Addr} {n c : Nat} {B : List Int} (w : World) (hB : Ints .u8 w ao B) (hn : B.length = n) (hb : IsBytes B) (hm : n ≤ 100000) :
    Calls Try.prog 16 #[.slice ao n c] w fun e w' => ∃ s : Sl, e = .returned (.tuple #[s.val, .int .i64 (usedOf B)]) ∧ GPlan w' 45 29 42 w.heap.size s (planOf B).1 ∧ Turn (fun _ => False) w w' := by
  obtain ⟨x0, hx0⟩ : ∃ x, atB B 0 = x := ⟨_, rfl⟩
  have b0 : 0 ≤ x0 ∧ x0 ≤ 255 := hx0 ▸ hb.at 0
  obtain ⟨gN, hgN⟩ : ∃ m : Nat, x0 % 8 + 1 = (m : Int) := ⟨(x0 % 8 + 1).toNat, by omega⟩
  have hg8 : gN ≤ 8 := by omega
  have HPL : Hid (planOf B = rowsAt B 1 gN) := Lib.hid (by unfold planOf; rw [hx0, hgN, Int.toNat_natCast])
  have HB := Lib.hid hB
  have HN := Lib.hid hn
  have HBY := Lib.hid hb
  have H0 := Lib.hid hx0
  have HGN := Lib.hid hgN
  clear hB hn hb hx0 hgN
  go_enter Try.func16, Try.ntmps16
  go_upto_region 4 with fail
  have GN : Hid (GPlan (w.alloc (.cells #[] 42)) 45 29 42 w.heap.size ⟨some ⟨w.heap.size, 0, none⟩, 0, 0⟩ (rowsAt B 1 0).1) := Lib.hid (GPlan.made (heap_alloc_new w _) (Nat.le_refl _))
  have TN : Hid (Turn (fun _ => False) w (w.alloc (.cells #[] 42))) := Lib.hid ((Turn.refl _ w).alloc _)
  go_loopw [4, 5, 6] (fun s4 s5 s6 wr => ∃ (g pl : Nat) (sl : Sl), g ≤ gN ∧ s6 = .int .i64 g ∧ s5 = .int .i64 pl ∧ s4 = .slice sl.ao sl.len sl.cap ∧ pl ≤ 1 + 400 * g ∧ Hid (pl = (rowsAt B 1 g).2) ∧ Hid (GPlan wr 45 29 42 w.heap.size sl (rowsAt B 1 g).1) ∧ Hid (Turn (fun _ => False) w wr)) (fun _ _ s6 _ => gN - (intOf s6).toNat)
  case atStart => exact ⟨0, 1, ⟨some ⟨w.heap.size, 0, none⟩, 0, 0⟩, Nat.zero_le _, rfl, rfl, rfl, by omega, Lib.hid rfl, GN, TN⟩
  case round =>
    clear GN TN
    obtain ⟨g, pl, ⟨pao, plen, pcap⟩, hg, rfl, rfl, rfl, hpl, HP, G, T⟩ := hrel
    have HLK := Lib.hid (show (rowsAt B 1 g).1.length = g from rowsAt_length B 1 g)
    obtain ⟨PP, hPP⟩ : ∃ l, (rowsAt B 1 g).1 = l := ⟨_, rfl⟩
    have HPP := Lib.hid hPP
    rw [hPP] at G HLK
    dsimp only
    go_wp2_with fail
    refine (at_sum 0 _ (HB.out.turn T.out (fun _ _ => id)) HN.out rfl H0.out b0 (by omega)).mono ?_
    rintro e w8 ⟨rfl, rfl⟩
    have hgn := HGN.out
    by_cases hlt : g < gN
    · have hcmp : (g : Int) < x0 % 8 + 1 := by omega
      obtain ⟨y0, hy0⟩ : ∃ x, atB B pl = x := ⟨_, rfl⟩
      have by0 : 0 ≤ y0 ∧ y0 ≤ 255 := hy0 ▸ HBY.out.at pl
      obtain ⟨m, hm17⟩ : ∃ m : Nat, y0 % 17 = (m : Int) := ⟨(y0 % 17).toNat, by omega⟩
      have hm16 : m ≤ 16 := by omega
      have HY := Lib.hid hy0
      have HM := Lib.hid hm17
      have HROW : Hid (rowAt B pl = opsAt B (pl + 1) m) := Lib.hid (by unfold rowAt; rw [hy0, hm17, Int.toNat_natCast])
      clear hgn hy0 hm17 hPP
      go_wp2_with fail
      refine (at_sum pl _ (HB.out.turn (T.out.alloc _) (fun _ _ => id)) HN.out rfl HY.out by0 (by omega)).mono ?_
      rintro e w8 ⟨rfl, rfl⟩
      go_upto_region 10 with fail
      rw [HM.out]
      clear hcmp
      have G1 := Lib.hid (G.out.new ((Turn.refl (fun _ => False) wr).alloc (.cells #[] 29)))
      have T1 := Lib.hid (T.out.alloc (.cells #[] 29))
      have S1 : wr.heap.size ≤ wr.heap.size := Nat.le_refl _
      have GO : Hid (GOps (wr.alloc (.cells #[] 29)) 45 29 wr.heap.size ⟨some ⟨wr.heap.size, 0, none⟩, 0, 0⟩ (opsAt B (pl + 1) 0).1) := Lib.hid (GOps.made (heap_alloc_new wr _) (Nat.le_refl _))
      have TX : Hid (Turn (fun _ => False) wr (wr.alloc (.cells #[] 29))) := Lib.hid ((Turn.refl _ wr).alloc _)
      generalize hwg : wr = wg at G T GO TX ⊢
      clear hwg G1 T1 S1
      obtain ⟨pl1, hpl1⟩ : ∃ j, pl + 1 = j := ⟨_, rfl⟩
      have HPL1 := Lib.hid hpl1
      have hp1 : pl1 ≤ 3300 := by omega
      have hst : (pl : Int) + 1 = (pl1 : Int) := by omega
      rw [hpl1] at GO HROW
      rw [hst]
      clear hpl1 hst
      go_loopw [5, 7, 9] (fun s5 s7 s9 wr => ∃ (k pk : Nat) (sl : Sl), k ≤ m ∧ s9 = .int .i64 k ∧ s5 = .int .i64 pk ∧ s7 = .slice sl.ao sl.len sl.cap ∧ pk ≤ pl1 + 24 * k ∧ Hid (pk = (opsAt B pl1 k).2) ∧ Hid (GOps wr 45 29 wg.heap.size sl (opsAt B pl1 k).1) ∧ Hid (Turn (fun _ => False) wg wr)) (fun _ _ s9 _ => m - (intOf s9).toNat)
      case atStart => exact ⟨0, pl1, ⟨some ⟨wg.heap.size, 0, none⟩, 0, 0⟩, Nat.zero_le _, rfl, rfl, rfl, by omega, Lib.hid rfl, GO, TX⟩
      case round =>
        clear GO TX
        obtain ⟨k, pk, ⟨lao, llen, lcap⟩, hk, rfl, rfl, rfl, hpk, HPK, GO, TX⟩ := hrel
        have HLK2 := Lib.hid (show (opsAt B pl1 k).1.length = k from opsAt_length B pl1 k)
        obtain ⟨LL, hLL⟩ : ∃ l, (opsAt B pl1 k).1 = l := ⟨_, rfl⟩
        have HLL := Lib.hid hLL
        rw [hLL] at GO HLK2
        dsimp only
        by_cases hlt2 : k < m
        · clear hLL
          have HNX := Lib.hid ((opsAt_next B pl1 k pk HPK.out).trans (by rw [HLL.out]))
          obtain ⟨o, ho⟩ : ∃ o, (opOne B pk).1 = o := ⟨_, rfl⟩
          obtain ⟨pn, hpn⟩ : ∃ q, (opOne B pk).2 = q := ⟨_, rfl⟩
          have hpb : pn ≤ pk + 24 := hpn ▸ opOne_near HBY.out pk
          have HO := Lib.hid ho
          have HPN := Lib.hid hpn
          clear ho hpn
          go_wp2_with fail
          refine (one_any _ (HB.out.turn (T.out.trans TX.out) (fun _ _ => id)) HN.out HBY.out hm (by omega)).mono ?_
          rintro e w5 ⟨r, rfl, b5, t5⟩
          rw [HO.out] at b5
          rw [HPN.out]
          obtain ⟨kind, ch, nn, v, ⟨ao2, len2, cap2⟩, els⟩ := r
          unfold OpV.val Sl.val
          dsimp only
          have TB := (Turn.refl (fun _ => False) w5).alloc (.cells #[.int .i64 kind, .int .i64 ch, .int .i64 nn, .int .i64 v, .slice ao2 len2 cap2, .bool els] 29)
          have X5 : Hid (Six (w5.alloc (.cells #[.int .i64 kind, .int .i64 ch, .int .i64 nn, .int .i64 v, .slice ao2 len2 cap2, .bool els] 29)) w5.heap.size kind ch nn v (.slice ao2 len2 cap2) els) := Lib.hid (blk_new w5 _ 29)
          have B5 := Lib.hid (b5.new TB)
          have GO5 := Lib.hid (GO.out.new (t5.trans TB))
          have TX5 := Lib.hid (TX.out.trans (t5.trans TB))
          obtain ⟨k1, hk1⟩ : ∃ k1, LL.length + 1 = k1 := ⟨_, rfl⟩
          have hk17 : k1 ≤ 17 := by rw [← hk1, HLK2.out]; omega
          have HK1 := Lib.hid hk1
          clear b5 t5 TB hk1
          go_upto_region 13 with fail
          generalize w5.heap.size = obx at X5 ⊢
          generalize w5.alloc (.cells #[.int .i64 kind, .int .i64 ch, .int .i64 nn, .int .i64 v, .slice ao2 len2 cap2, .bool els] 29) = w7 at X5 B5 GO5 TX5 ⊢
          obtain ⟨⟨c0, c1, c2, c3, c4, c5⟩, _⟩ := X5.out.cells
          go_upto_region 14 with (at_builtin; refine wpList_append_op (by decide) Try.underlying42 info_op rfl (by decide) rfl (.tmp 39) (.tmp 41) rfl ⟨lao, llen, lcap⟩ LL ⟨kind, ch, nn, v, ⟨ao2, len2, cap2⟩, els⟩ o rfl rfl GO5.out B5.out rfl k1 HK1.out (by omega) TX5.out.size ?_; intro q gc w6 hq h6 t6 a6)
          have TX6 := Lib.hid (TX5.out.and t6.out (fun i hi e => by
            obtain ⟨R, _, h2, _⟩ := GO5.out.has
            have := (h2.lt i e).1
            omega))
          have G6 := Lib.hid h6.out
          clear h6 t6 a6 GO5 B5 TX5 X5 c0 c1 c2 c3 c4 c5
          go_wp2_with fail
          go_roundw
          case rel => exact ⟨k + 1, pn, ⟨some ⟨q, 0, none⟩, k1, gc⟩, by omega, by go_num, rfl, rfl, by omega, Lib.hid (by rw [HNX.out, HPN.out]), Lib.hid (by rw [HNX.out, HO.out]; exact G6.out), TX6⟩
          case measure => simp [intOf]; omega
        · have hkm : k = m := by omega
          have HRW := Lib.hid (show rowAt B pl = (LL, pk) by rw [HROW.out, ← hkm, HPK.out, ← hLL])
          have HNX := Lib.hid ((rowsAt_next B 1 g pl HP.out).trans (by rw [HPP.out, HRW.out]))
          have hpk2 : pk ≤ 1 + 400 * (g + 1) := by have := HPL1.out; omega
          clear hkm hLL
          have GG := Lib.hid (G.out.new TX.out)
          have BL := Lib.hid GO.out.done
          have HLN := Lib.hid (show llen = LL.length from GO.out.len)
          have TT := Lib.hid (T.out.trans TX.out)
          obtain ⟨g1, hg1⟩ : ∃ k1, PP.length + 1 = k1 := ⟨_, rfl⟩
          have hg17 : g1 ≤ 9 := by rw [← hg1, HLK.out]; omega
          have HG1 := Lib.hid hg1
          clear hg1
          go_upto_region 5 with (at_builtin; refine wpList_append_ops (by decide) (by decide) Try.underlying32 info_ops rfl (by decide) rfl (.tmp 44) (.tmp 46) rfl ⟨pao, plen, pcap⟩ PP ⟨lao, llen, lcap⟩ LL rfl rfl GG.out BL.out rfl g1 HG1.out (by omega) TT.out.size ?_; intro q gc w6 hq h6 t6 a6)
          have TT6 := Lib.hid (TT.out.and t6.out (fun i hi e => by
            obtain ⟨R, _, h2, _⟩ := GG.out.has
            have := (h2.lt i e).1
            omega))
          have G6 := Lib.hid h6.out
          clear h6 t6 a6
          go_wp2_with fail
          go_roundw
          case rel => exact ⟨g + 1, pk, ⟨some ⟨q, 0, none⟩, g1, gc⟩, by omega, by go_num, rfl, rfl, hpk2, Lib.hid (by rw [HNX.out]), Lib.hid (by rw [HNX.out]; exact G6.out), TT6⟩
          case measure => simp [intOf]; omega
    · have hgm : g = gN := by omega
      have hcmp : x0 % 8 + 1 ≤ (g : Int) := by omega
      have HFIN := Lib.hid (show planOf B = (PP, pl) by rw [HPL.out, ← hgm, HP.out, ← hPP])
      have HUS := Lib.hid (show usedOf B = min pl n by unfold usedOf; rw [HFIN.out, HN.out])
      clear hgm hgn hPP
      rcases Nat.lt_or_ge n pl with hmn | hmn
      · go_wp2_with fail
        go_ret2
        refine ⟨⟨pao, plen, pcap⟩, ?_, by rw [HFIN.out]; exact G.out, T.out⟩
        rw [HUS.out]
        exact ret_op (by omega)
      · go_wp2_with fail
        go_ret2
        refine ⟨⟨pao, plen, pcap⟩, ?_, by rw [HFIN.out]; exact G.out, T.out⟩
        rw [HUS.out]
        exact ret_op (by omega)

end Go.Proofs.Ytaighbofekefkaa
