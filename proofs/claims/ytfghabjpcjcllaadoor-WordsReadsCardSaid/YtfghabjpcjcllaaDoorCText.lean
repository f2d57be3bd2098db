/- The code's lines of a plan. -/
import Derived.Test.YtfghabjpcjcllaaDoorCOp
import Derived.Test.YtfghabjpcjcllaaDoorCBld
import Derived.Test.YtfghabjpcjcllaaDoorTextW
namespace Go.Proofs.YtfghabjpcjcllaaDoor
open Go.RowKit
set_option linter.unusedVariables false

theorem Bld.from {w w' : World} {b : Nat} {l : List UInt8} (h : Bld w.heap.size b l w w') : Turn (fun _ => False) w w' := h.turn.mono fun i hi e => absurd hi (Nat.not_lt.2 e)
theorem write_bs (B b : Nat) (l m : Tx) (w0 w : World) (h : Bld B b l w0 w) (hl : l.length + m.length ≤ 100000) :
    Calls Tryd.prog 19 #[.pointer (some ⟨b, 0, none⟩), .string (bs m)] w fun e w' => (∃ n : Int, e = .returned (.tuple #[.int .i64 n, .nilIface])) ∧ Bld B b (l ++ m) w0 w' := write_bld B b l m w0 w h hl
theorem string_bs (B b : Nat) (l : Tx) (w0 w : World) (h : Bld B b l w0 w) :
    Calls Tryd.prog 20 #[.pointer (some ⟨b, 0, none⟩)] w fun e w' => e = .returned (.string (bs l)) ∧ Turn (fun i => B ≤ i) w0 w' :=
  (Tryd.Builder_String_any B b l w h.is h.le).mono fun e w' ⟨h1, h2⟩ => ⟨h1, h.turn.trans ⟨h2.os, h2.tape, h2.output, h2.size, fun i hi hs => h2.block i (Nat.lt_of_not_le hs)⟩⟩

set_option maxRecDepth 100000 in
set_option maxHeartbeats 2000000 in
theorem text_any {s : Sl} {n : Nat} {p : List (List Opr)} (w : World) (hP : RPlan w s p) (hn : p.length = n) (hm : MildP p) (hG : Gl0 w) : Calls Tryd.prog 8 #[.slice s.ao n s.cap] w (GivesS w (textS p)) := by
  obtain ⟨b, hb⟩ : ∃ b, rightP p = b := ⟨_, rfl⟩
  have CR := Lib.hid (fun w (h : RPlan w s p) => right_any b w h hn hm hb)
  obtain ⟨ao, len, c⟩ := s
  have HP := Lib.hid hP
  have HN := Lib.hid hn
  have HM := Lib.hid hm
  have G := Lib.hid hG
  have hm : n ≤ 1000000 := hn ▸ hm.1
  have hts : textS p = if b = true then textP p else [] := by unfold textS; rw [hb]
  rw [hts]
  clear hP hn hts hG
  unfold GivesS
  dsimp only
  cases b
  · rw [if_neg (by decide)]
    clear hb
    go_enter Tryd.func8, Tryd.ntmps8
    go_wp2_with fail
    refine (CR.out _ HP.out).mono ?_
    rintro e w1 ⟨rfl, t1⟩
    have T1 := Lib.hid t1
    clear t1
    go_wp2_with fail
    go_ret
    exact ⟨rfl, T1.out⟩
  · rw [if_pos rfl]
    have hall : p.all rightL = true := by
      unfold rightP at hb
      rw [Bool.and_eq_true, Bool.and_eq_true] at hb
      exact hb.1.1
    have hn8 : n ≤ 8 := by
      unfold rightP at hb
      rw [Bool.and_eq_true, Bool.and_eq_true] at hb
      have := of_decide_eq_true hb.2
      rwa [HN.out] at this
    have HALL := Lib.hid hall
    clear hb hall
    go_enter Tryd.func8, Tryd.ntmps8
    go_wp2_with fail
    refine (CR.out _ HP.out).mono ?_
    rintro e w1 ⟨rfl, t1⟩
    have T1 := Lib.hid t1
    have HP := Lib.hid (HP.out.new t1)
    have G := Lib.hid (G.out.new t1)
    clear t1
    go_upto_region 4 with fail
    have B0 := Lib.hid (Bld.new w1)
    generalize w1.alloc (.cells #[.pointer none, .slice none 0 0] 45) = w2 at B0 ⊢
    obtain ⟨bb, hbb⟩ : ∃ b, w1.heap.size = b := ⟨_, rfl⟩
    have B1 : Hid (Bld w1.heap.size bb [] w1 w2) := Lib.hid (by rw [← hbb]; exact B0.out)
    rw [hbb]
    clear B0 hbb
    go_upto_region 5 with fail
    go_loopw [13] (fun s13 wr => ∃ (i : Nat), i ≤ n ∧ s13 = .int .i64 i ∧ Hid (Bld w1.heap.size bb (textP (p.take i)) w1 wr)) (fun s13 _ => n - (intOf s13).toNat)
    case atStart => exact ⟨0, Nat.zero_le _, rfl, B1⟩
    case round =>
      obtain ⟨i, hi, rfl, HB⟩ := hrel
      by_cases hlt : i < n
      · obtain ⟨x, hx⟩ : ∃ x, p[i]? = some x := ⟨_, List.getElem?_eq_getElem (by rw [HN.out]; exact hlt)⟩
        obtain ⟨a, y, ha, hr, hc1⟩ := HP.out.at hx
        have hc := HB.out.from.cell id hc1
        clear hc1
        dsimp only at ha
        subst ha
        obtain ⟨ao', len', cap'⟩ := y
        have hl' : x.length = len' := hr.ok.len.symm
        have HX := Lib.hid hx
        have HR := Lib.hid hr
        have HL' := Lib.hid hl'
        unfold Sl.val at hc
        dsimp only at hc
        have hrl := List.all_eq_true.1 HALL.out x (List.mem_of_getElem? hx)
        have hrw := rightL_hasW hrl
        have HRW := Lib.hid hrw.1
        have hl16 : len' ≤ 16 := by rw [← hl']; exact hrw.2
        have hpl := textP_len (p := p.take i) (by rw [List.all_eq_true]; exact fun y hy => List.all_eq_true.1 HALL.out y (List.mem_of_mem_take hy))
        rw [List.length_take] at hpl
        obtain ⟨Y, hY⟩ : ∃ Y, textP (p.take i) = Y := ⟨_, rfl⟩
        rw [hY] at hpl HB
        have hyl : Y.length ≤ 40000 := by omega
        have HYL := Lib.hid hyl
        have HY' := Lib.hid hY
        have CW := Lib.hid (write_bs _ _ Y [103, 111, 10] _ _ HB.out (by simp; omega))
        clear hx hr hl' hrl hrw hpl hY hyl
        go_wp2_with fail
        refine CW.out.mono ?_
        rintro e wi ⟨⟨nn, rfl⟩, hB2⟩
        have HB2 := Lib.hid hB2
        clear hB2 CW hc
        go_upto_region 9 with fail
        go_loopw [20] (fun s20 wr => ∃ (k : Nat), k ≤ len' ∧ s20 = .int .i64 k ∧ Hid (Bld w1.heap.size bb (Y ++ [103, 111, 10] ++ opsT (x.take k)) w1 wr)) (fun s20 _ => len' - (intOf s20).toNat)
        case atStart => exact ⟨0, Nat.zero_le _, rfl, Lib.hid (by simpa [opsT] using HB2.out)⟩
        case round =>
          obtain ⟨k, hk, rfl, HBk⟩ := hrel
          by_cases hlt2 : k < len'
          · obtain ⟨y, hy⟩ : ∃ y, x[k]? = some y := ⟨_, List.getElem?_eq_getElem (by rw [HL'.out]; exact hlt2)⟩
            obtain ⟨a2, r, ha2, hro, hc⟩ := (HR.out.new HBk.out.from).at hy
            dsimp only at ha2
            subst ha2
            obtain ⟨kind, ch, n', v, ⟨ao2, len2, cap2⟩, els⟩ := r
            obtain ⟨c0, c1, c2, c3, c4, c5⟩ := cells6 hc
            have HY := Lib.hid hy
            have HRO := Lib.hid hro
            unfold Sl.val at c4
            dsimp only at c0 c1 c2 c3 c4 c5
            clear hy hc hro
            have hro : rightO y = true := List.all_eq_true.1 HRW.out y (List.mem_of_getElem? HY.out)
            have hol := opT_len hro
            have hsl := opsT_len (l := x.take k) (by rw [List.all_eq_true]; exact fun z hz => List.all_eq_true.1 HRW.out z (List.mem_of_mem_take hz))
            rw [List.length_take] at hsl
            obtain ⟨Z, hZ⟩ : ∃ Z, opsT (x.take k) = Z := ⟨_, rfl⟩
            rw [hZ] at hsl HBk
            have HZ := Lib.hid hZ
            obtain ⟨Q, hQ⟩ : ∃ Q, opT y = Q := ⟨_, rfl⟩
            have hos : opS y = Q := by unfold opS; rw [if_pos hro, hQ]
            have CO := Lib.hid (fun w h hG => op_any ⟨kind, ch, n', v, ⟨ao2, len2, cap2⟩, els⟩ y w h ((HM.out.at HX.out).at HY.out) hG)
            rw [hos] at CO
            rw [hQ] at hol
            have HQ := Lib.hid hQ
            obtain ⟨O1, h_O1⟩ : ∃ S, bs Q = S := ⟨_, rfl⟩
            unfold GivesS at CO
            rw [h_O1] at CO
            obtain ⟨O2, h_O2⟩ : ∃ S, bs (Q ++ [10]) = S := ⟨_, rfl⟩
            have f2 : ∀ w, (Op.stringOp BinOp.add O1 ⟨#[10]⟩).run Tryd.prog w = .ok (.string O2) w := fun w => by
              subst h_O1 h_O2
              exact add_text Q [10] (by simp; omega) w
            have CW := Lib.hid (fun w h => write_bs w1.heap.size bb (Y ++ [103, 111, 10] ++ Z) (Q ++ [10]) w1 w h (by
              have := HYL.out
              simp only [List.length_append, List.length_cons, List.length_nil]
              omega))
            rw [h_O2] at CW
            clear hro hol hsl hZ hQ hos h_O1 h_O2
            have TA := Lib.hid ((Turn.refl (fun _ => False) wr).alloc (.cells #[.int .i64 kind, .int .i64 ch, .int .i64 n', .int .i64 v, .slice ao2 len2 cap2, .bool els] 25))
            have GA := Lib.hid (G.out.new (HBk.out.from.trans TA.out))
            go_wp2_with fail
            refine (CO.out _ (HRO.out.new TA.out) GA.out).mono ?_
            rintro e w3 ⟨rfl, t3⟩
            have B3 := Lib.hid (HBk.out.kept (TA.out.trans t3))
            clear t3 c0 c1 c2 c3 c4 c5
            go_wp2_with fail
            refine (CW.out _ B3.out).mono ?_
            rintro e w4 ⟨⟨nn, rfl⟩, b4⟩
            have B4 := Lib.hid b4
            clear b4
            go_wp2_with fail
            go_roundw
            case rel => exact ⟨k + 1, by omega, by go_num, Lib.hid (by rw [take_snoc HY.out, opsT_snoc, HZ.out, HQ.out, ← List.append_assoc]; exact B4.out)⟩
            case measure => simp [intOf]; omega
          · obtain rfl : k = len' := by omega
            have htk : x.take k = x := List.take_of_length_le (by rw [HL'.out]; exact Nat.le_refl _)
            rw [htk] at HBk
            clear htk
            go_wp2_with fail
            go_roundw
            case rel => exact ⟨i + 1, by omega, by go_num, Lib.hid (by rw [take_snoc HX.out, textP_row, HY'.out, ← List.append_assoc]; exact HBk.out)⟩
            case measure => simp [intOf]; omega
      · obtain rfl : i = n := by omega
        have htk : p.take i = p := List.take_of_length_le (by rw [HN.out]; exact Nat.le_refl _)
        rw [htk] at HB
        clear htk
        have CS := Lib.hid (string_bs _ _ _ _ _ HB.out)
        go_wp2_with fail
        refine CS.out.mono ?_
        rintro e w5 ⟨rfl, t5⟩
        have T5 : Hid (Turn (fun _ => False) w w5) := Lib.hid (T1.out.trans (t5.mono fun i hi e => absurd hi (Nat.not_lt.2 e)))
        clear t5
        go_wp2_with fail
        go_ret
        exact ⟨rfl, T5.out⟩
end Go.Proofs.YtfghabjpcjcllaaDoor
