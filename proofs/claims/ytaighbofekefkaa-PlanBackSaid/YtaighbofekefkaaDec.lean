/- The code's: bytes as a plan. -/
import Derived.Test.YtaighbofekefkaaROp
import Derived.Test.YtaighbofekefkaaRDec
namespace Go.Proofs.Ytaighbofekefkaa
open Go.RowKit
set_option linter.unusedVariables false

theorem Nx.apart {w0 w : World} {pu pb n i : Nat} {v : Value} {e : TypeId} (h : Nx w0 w pu pb v n i) (hne : 3 ≠ e) : Apart w e (fun j => j = pu) := fun j _ hj => by
  have hu := h.u
  unfold Blk at hu
  exact ⟨_, 3, hne, by subst hj; exact hu⟩

set_option maxRecDepth 100000 in
set_option maxHeartbeats 4000000 in
theorem decode_any {ao : Option Addr} {n c : Nat} {B : List Int} (w : World) (hB : Ints .u8 w ao B) (hn : B.length = n) (hb : IsBytes B) (hm : n ≤ 100000) :
    Calls Try.prog 15 #[.slice ao n c] w fun e w' => ∃ s : Sl, e = .returned (.tuple #[s.val, .int .i64 (usedOf B)]) ∧ GPlan w' 45 29 42 w.heap.size s (planOf B).1 ∧ Turn (fun _ => False) w w' := by
  obtain ⟨x0, hx0⟩ : ∃ x, atB B 0 = x := ⟨_, rfl⟩
  have b0 : 0 ≤ x0 ∧ x0 ≤ 255 := hx0 ▸ hb.at 0
  obtain ⟨r0, hr0⟩ : ∃ r, x0 % 8 = r := ⟨_, rfl⟩
  obtain ⟨gN, hgN⟩ : ∃ m : Nat, 1 + r0 = (m : Int) := ⟨(1 + r0).toNat, by omega⟩
  have hg8 : gN ≤ 8 := by omega
  have HPL : Hid (planOf B = rowsAt B 1 gN) := Lib.hid (by unfold planOf; rw [hx0, hr0, show r0 + 1 = (gN : Int) by omega, Int.toNat_natCast])
  have HB := Lib.hid hB
  have HN := Lib.hid hn
  have HBY := Lib.hid hb
  have H0 := Lib.hid hx0
  have HR0 := Lib.hid hr0
  have HGN := Lib.hid hgN
  have br0 : 0 ≤ r0 ∧ r0 ≤ 7 := by omega
  clear hB hn hb hx0 hgN hr0
  go_enter Try.func15, Try.ntmps15
  go_upto_region 1 with fail
  have NN : Hid (Nx w ((w.alloc (.cells #[.slice ao n c] 22)).alloc (.cells #[.int .i64 0] 3)) (w.heap.size + 1) w.heap.size (.slice ao n c) n 0) := Lib.hid ⟨by
      have := blk_new (w.alloc (.cells #[.slice ao n c] 22)) [.int .i64 0] 3
      rw [show (w.alloc (.cells #[.slice ao n c] 22)).heap.size = w.heap.size + 1 by simp] at this
      rw [Nat.zero_min]
      exact this, (blk_new w [.slice ao n c] 22).new ((Turn.refl _ _).alloc _), by omega, by omega, ((Turn.refl _ w).alloc _).alloc _⟩
  obtain ⟨pb, hpb⟩ : ∃ b, w.heap.size = b := ⟨_, rfl⟩
  obtain ⟨pu, hpu⟩ : ∃ b, pb + 1 = b := ⟨_, rfl⟩
  rw [hpb, hpu] at NN
  simp only [hpb, hpu]
  have hlow : w.heap.size ≤ pb := by omega
  generalize (w.alloc (.cells #[.slice ao n c] 22)).alloc (.cells #[.int .i64 0] 3) = w1 at NN ⊢
  have hmf : ∀ (fn : Fn) (first cap : Array Value) (w : World), (Instr.makeFunc fn first cap).run Try.prog w = .ok (.func fn first cap) w := fun _ _ _ _ => rfl
  go_wp2_with fail
  refine (next_at w _ HB.out HN.out NN.out H0.out b0 (by omega) hm HR0.out).mono ?_
  rintro e w8 ⟨rfl, nx8, t8⟩
  have NN := Lib.hid nx8
  clear nx8 t8
  go_upto_region 3 with fail
  rw [HGN.out]
  have NN := Lib.hid (show Nx w w8 pu pb (.slice ao n c) n 1 from NN.out)
  have hup : pb < pu := by omega
  clear hpb hpu
  have GN : Hid (GPlan w8 45 29 42 (pu + 1) ⟨none, 0, 0⟩ (rowsAt B 1 0).1) := Lib.hid (GPlan.nil w8 45 29 42 (pu + 1))
  go_loopw [2, 10] (fun s2 s10 wr => ∃ (g pl : Nat) (sl : Sl), g ≤ gN ∧ s10 = .int .i64 g ∧ s2 = .slice sl.ao sl.len sl.cap ∧ pl ≤ 1 + 400 * g ∧ Hid (pl = (rowsAt B 1 g).2) ∧ Hid (GPlan wr 45 29 42 (pu + 1) sl (rowsAt B 1 g).1) ∧ Hid (Nx w wr pu pb (.slice ao n c) n pl)) (fun _ s10 _ => gN - (intOf s10).toNat)
  case atStart => exact ⟨0, 1, ⟨none, 0, 0⟩, Nat.zero_le _, rfl, rfl, by omega, Lib.hid rfl, GN, NN⟩
  case round =>
    clear GN NN
    obtain ⟨g, pl, ⟨pao, plen, pcap⟩, hg, rfl, rfl, hpl, HP, G, NN⟩ := hrel
    have HLK := Lib.hid (show (rowsAt B 1 g).1.length = g from rowsAt_length B 1 g)
    obtain ⟨PP, hPP⟩ : ∃ l, (rowsAt B 1 g).1 = l := ⟨_, rfl⟩
    have HPP := Lib.hid hPP
    rw [hPP] at G HLK
    dsimp only
    by_cases hlt : g < gN
    · obtain ⟨y0, hy0⟩ : ∃ x, atB B pl = x := ⟨_, rfl⟩
      have by0 : 0 ≤ y0 ∧ y0 ≤ 255 := hy0 ▸ HBY.out.at pl
      obtain ⟨m, hm17⟩ : ∃ m : Nat, y0 % 17 = (m : Int) := ⟨(y0 % 17).toNat, by omega⟩
      have hm16 : m ≤ 16 := by omega
      have HY := Lib.hid hy0
      have HM := Lib.hid hm17
      have HROW : Hid (rowAt B pl = opsAt B (pl + 1) m) := Lib.hid (by unfold rowAt; rw [hy0, hm17, Int.toNat_natCast])
      clear hy0 hm17 hPP
      go_wp2_with fail
      refine (next_at w _ HB.out HN.out NN.out HY.out by0 (by omega) hm HM.out).mono ?_
      rintro e wg ⟨rfl, nx8, t8⟩
      have G := Lib.hid (G.out.apart t8 (NN.out.apart (by decide)) (NN.out.apart (by decide)) (NN.out.apart (by decide)))
      have NN := Lib.hid nx8
      clear nx8 t8
      obtain ⟨pl1, hpl1⟩ : ∃ j, pl + 1 = j := ⟨_, rfl⟩
      have HPL1 := Lib.hid hpl1
      have hp1 : pl1 ≤ 3300 := by omega
      rw [hpl1] at NN HROW
      clear hpl1
      have hug : pu < wg.heap.size := NN.out.u.lt
      have hbg : pb < wg.heap.size := NN.out.b.lt
      go_upto_region 6 with fail
      have GO : Hid (GOps wg 45 29 wg.heap.size ⟨none, 0, 0⟩ (opsAt B pl1 0).1) := Lib.hid (GOps.nil wg 45 29 wg.heap.size)
      have TX : Hid (Turn (fun j => j = pu) wg wg) := Lib.hid (Turn.refl _ _)
      have NG := NN
      go_loopw [5, 14] (fun s5 s14 wr => ∃ (k pk : Nat) (sl : Sl), k ≤ m ∧ s14 = .int .i64 k ∧ s5 = .slice sl.ao sl.len sl.cap ∧ pk ≤ pl1 + 24 * k ∧ Hid (pk = (opsAt B pl1 k).2) ∧ Hid (GOps wr 45 29 wg.heap.size sl (opsAt B pl1 k).1) ∧ Hid (Turn (fun j => j = pu) wg wr) ∧ Hid (Nx w wr pu pb (.slice ao n c) n pk)) (fun _ s14 _ => m - (intOf s14).toNat)
      case atStart => exact ⟨0, pl1, ⟨none, 0, 0⟩, Nat.zero_le _, rfl, rfl, by omega, Lib.hid rfl, GO, TX, NN⟩
      case round =>
        clear GO TX NN
        obtain ⟨k, pk, ⟨lao, llen, lcap⟩, hk, rfl, rfl, hpk, HPK, GO, TX, NN⟩ := hrel
        have HLK2 := Lib.hid (show (opsAt B pl1 k).1.length = k from opsAt_length B pl1 k)
        obtain ⟨LL, hLL⟩ : ∃ l, (opsAt B pl1 k).1 = l := ⟨_, rfl⟩
        have HLL := Lib.hid hLL
        rw [hLL] at GO HLK2
        dsimp only
        by_cases hlt2 : k < m
        · clear hLL
          have HNX := Lib.hid ((opsAt_next B pl1 k pk HPK.out).trans (by rw [HLL.out]))
          obtain ⟨o, ho⟩ : ∃ o, (opOne B pk).1 = o := ⟨_, rfl⟩
          obtain ⟨pn, hpn⟩ : ∃ q, (opOne B pk).2 = q := ⟨_, rfl⟩
          have hpb2 : pn ≤ pk + 24 := hpn ▸ opOne_near HBY.out pk
          have HO := Lib.hid ho
          have HPN := Lib.hid hpn
          clear ho hpn
          go_wp2_with fail
          refine (readop_any w _ HB.out HN.out HBY.out hm (by omega) NN.out).mono ?_
          rintro e w5 ⟨r, rfl, b5, nx5, t5⟩
          rw [HO.out] at b5
          rw [HPN.out] at nx5
          obtain ⟨kind, ch, nn, v, ⟨ao2, len2, cap2⟩, els⟩ := r
          unfold OpV.val Sl.val
          dsimp only
          have B5 := Lib.hid b5
          have GO5 := Lib.hid (GO.out.apart t5 (NN.out.apart (by decide)) (NN.out.apart (by decide)))
          have TX5 := Lib.hid (TX.out.trans t5)
          have N5 := Lib.hid nx5
          obtain ⟨k1, hk1⟩ : ∃ k1, LL.length + 1 = k1 := ⟨_, rfl⟩
          have hk17 : k1 ≤ 17 := by rw [← hk1, HLK2.out]; omega
          have HK1 := Lib.hid hk1
          clear b5 t5 nx5 hk1
          go_upto_region 8 with (at_builtin; refine wpList_append_op (by decide) Try.underlying42 info_op rfl (by decide) rfl (.tmp 16) (.tmp 19) rfl ⟨lao, llen, lcap⟩ LL ⟨kind, ch, nn, v, ⟨ao2, len2, cap2⟩, els⟩ o rfl rfl GO5.out B5.out rfl k1 HK1.out (by omega) TX5.out.size ?_; intro q gc w6 hq h6 t6 a6)
          have hown : ∀ i, (Sl.val ⟨lao, llen, lcap⟩).ownBlock = some i → wg.heap.size ≤ i := fun i e => by
            obtain ⟨R, _, h2, _⟩ := GO5.out.has
            exact (h2.lt i e).1
          have TX6 := Lib.hid (TX5.out.and t6.out (fun i hi e => by have := hown i e; omega))
          have N6 := Lib.hid (N5.out.turned t6.out (fun e => by have := hown _ e; omega) (fun e => by have := hown _ e; omega) (fun j e => by have := hown _ e; have := N5.out.low; omega))
          have G6 := Lib.hid h6.out
          clear h6 t6 a6 GO5 B5 TX5 N5 hown
          go_wp2_with fail
          go_roundw
          case rel => exact ⟨k + 1, pn, ⟨some ⟨q, 0, none⟩, k1, gc⟩, by omega, by go_num, rfl, by omega, Lib.hid (by rw [HNX.out, HPN.out]), Lib.hid (by rw [HNX.out, HO.out]; exact G6.out), TX6, N6⟩
          case measure => simp [intOf]; omega
        · have hkm : k = m := by omega
          have HRW := Lib.hid (show rowAt B pl = (LL, pk) by rw [HROW.out, ← hkm, HPK.out, ← hLL])
          have HNX := Lib.hid ((rowsAt_next B 1 g pl HP.out).trans (by rw [HPP.out, HRW.out]))
          have hpk2 : pk ≤ 1 + 400 * (g + 1) := by have := HPL1.out; omega
          clear hkm hLL
          have GG := Lib.hid (G.out.apart TX.out (NG.out.apart (by decide)) (NG.out.apart (by decide)) (NG.out.apart (by decide)))
          have BL := Lib.hid GO.out.done
          obtain ⟨g1, hg1⟩ : ∃ k1, PP.length + 1 = k1 := ⟨_, rfl⟩
          have hg17 : g1 ≤ 9 := by rw [← hg1, HLK.out]; omega
          have HG1 := Lib.hid hg1
          have hsz := NN.out.u.lt
          clear hg1
          go_upto_region 10 with (at_builtin; refine wpList_append_ops (by decide) (by decide) Try.underlying32 info_ops rfl (by decide) rfl (.tmp 22) (.tmp 24) rfl ⟨pao, plen, pcap⟩ PP ⟨lao, llen, lcap⟩ LL rfl rfl GG.out BL.out rfl g1 HG1.out (by omega) hsz ?_; intro q gc w6 hq h6 t6 a6)
          have hown : ∀ i, (Sl.val ⟨pao, plen, pcap⟩).ownBlock = some i → pu + 1 ≤ i := fun i e => by
            obtain ⟨R, _, h2, _⟩ := GG.out.has
            exact (h2.lt i e).1
          have N6 := Lib.hid (NN.out.turned t6.out (fun e => by have := hown _ e; omega) (fun e => by have := hown _ e; omega) (fun j e => by have := hown _ e; have := NN.out.low; omega))
          have G6 := Lib.hid h6.out
          clear h6 t6 a6 hown
          go_wp2_with fail
          go_roundw
          case rel => exact ⟨g + 1, pk, ⟨some ⟨q, 0, none⟩, g1, gc⟩, by omega, by go_num, rfl, hpk2, Lib.hid (by rw [HNX.out]), Lib.hid (by rw [HNX.out]; exact G6.out), N6⟩
          case measure => simp [intOf]; omega
    · have hgm : g = gN := by omega
      have HFIN := Lib.hid (show planOf B = (PP, pl) by rw [HPL.out, ← hgm, HP.out, ← hPP])
      have HUS := Lib.hid (show usedOf B = min pl n by unfold usedOf; rw [HFIN.out, HN.out])
      clear hgm hPP
      have c0 := NN.out.u.c 0 rfl
      have f0 := NN.out.u.fr 0
      obtain ⟨us, hus⟩ : ∃ u, min pl n = u := ⟨_, rfl⟩
      rw [hus] at c0
      have HU := Lib.hid hus
      clear hus
      go_upto_region 11 with fail
      go_region
      have T9 := Lib.hid ((set_turn wr pu 0 (.int .i64 (us : Int))).drew)
      have N9 := Lib.hid ((NN.out.put (us : Int) (k := pl) (by rw [HU.out])).new ((Turn.refl (fun _ => False) _).drew))
      have G9 := Lib.hid (G.out.apart T9.out (NN.out.apart (by decide)) (NN.out.apart (by decide)) (NN.out.apart (by decide)))
      clear c0 f0
      generalize (wr.setCell ⟨pu, 0, none⟩ (.int .i64 (us : Int))).drew = wf at T9 N9 G9 ⊢
      have c0 := N9.out.u.c 0 rfl
      rw [HU.out] at c0
      go_wp2_with fail
      refine bodyPost_ret (v := .tuple #[.slice pao plen pcap, .int .i64 us]) (by simp [results, Try.results15, go_sem, c0]) rfl ⟨⟨pao, plen, pcap⟩, ?_, ?_, N9.out.t⟩
      · rw [HUS.out, HU.out]
        rfl
      · rw [HFIN.out]
        exact G9.out.less (by omega)

end Go.Proofs.Ytaighbofekefkaa
