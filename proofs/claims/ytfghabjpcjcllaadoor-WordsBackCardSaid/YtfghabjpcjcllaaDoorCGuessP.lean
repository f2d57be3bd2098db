/- The code's guess of an op without cases. -/
import Derived.Test.YtfghabjpcjcllaaDoorMGuess
import Derived.Test.YtfghabjpcjcllaaDoorDOnS
namespace Go.Proofs.YtfghabjpcjcllaaDoor
open Go.RowKit
set_option linter.unusedVariables false

/-- An op without cases is answered. -/
def GivesP (w : World) (q : Opr) (e : Ending) (w' : World) : Prop := e = .returned (.agg #[.int .i64 q.kind, .int .i64 q.ch, .int .i64 q.n, .int .i64 q.v, .slice none 0 0, .bool false]) ∧ Turn (fun _ => False) w w'
theorem find_none {w : Tx} (h : ∀ k, 1 ≤ k → k < 10 → Lib.hasPrefix w (nameOf k) = false) : gPlain w = ⟨0, 0, 0, 0, [], false⟩ := by
  unfold gPlain
  rw [List.find?_eq_none.2]
  intro k hk
  have : 1 ≤ k ∧ k < 10 := by simp at hk; omega
  rw [h k this.1 this.2]
  decide
theorem find_at {w : Tx} {i : Nat} (h1 : 1 ≤ i) (h9 : i < 10) (h : ∀ k, 1 ≤ k → k < i → Lib.hasPrefix w (nameOf k) = false) (hi : Lib.hasPrefix w (nameOf i) = true) : gPlain w = gKind i (gNums (Lib.trimPrefix w (nameOf i))) := by
  have e : [1, 2, 3, 4, 5, 6, 7, 8, 9].find? (fun k => Lib.hasPrefix w (nameOf k)) = some i := by
    rcases (show i = 1 ∨ i = 2 ∨ i = 3 ∨ i = 4 ∨ i = 5 ∨ i = 6 ∨ i = 7 ∨ i = 8 ∨ i = 9 by omega) with rfl | rfl | rfl | rfl | rfl | rfl | rfl | rfl | rfl <;>
      simp [hi, h 1, h 2, h 3, h 4, h 5, h 6, h 7, h 8]
  unfold gPlain
  rw [e]
theorem name_at {i : Nat} (h9 : i < 10) : nameL[i]? = some (nameOf i) := by
  unfold nameOf
  rw [List.getD, List.getElem?_eq_getElem (show i < nameL.length from h9)]
  rfl

set_option maxRecDepth 100000 in
set_option maxHeartbeats 2000000 in
theorem guessp_any (t : Tx) (w : World) (hl : t.length ≤ 100000) (hG : Gl w) : Calls Tryd.prog 68 #[.string (bs t)] w (GivesP w (gPlain t)) := by
  have HL := Lib.hid hl
  have CN := Lib.hid (fun (r : Tx) (hr : r.length ≤ 100000) w hG => guessn_any r w hr hG)
  have CP := Lib.hid (fun (p : Tx) w => prefix_any t p (bs p) rfl w)
  obtain ⟨T, hT⟩ : ∃ S, bs t = S := ⟨_, rfl⟩
  rw [hT] at CP ⊢
  have G := Lib.hid hG
  have Z0 : Hid (Six (w.alloc (.cells #[.int .i64 0, .int .i64 0, .int .i64 0, .int .i64 0, .slice none 0 0, .bool false] 25)) w.heap.size 0 0 0 0 (.slice none 0 0) false) := Lib.hid (blk_new w _ 25)
  have T0 := Lib.hid ((Turn.refl (fun _ => False) w).alloc (.cells #[.int .i64 0, .int .i64 0, .int .i64 0, .int .i64 0, .slice none 0 0, .bool false] 25))
  clear hT hl hG
  go_enter Tryd.func68, Tryd.ntmps68
  go_upto_region 1 with fail
  generalize w.alloc (.cells #[.int .i64 0, .int .i64 0, .int .i64 0, .int .i64 0, .slice none 0 0, .bool false] 25) = w1 at Z0 T0 ⊢
  obtain ⟨rz, hrz⟩ : ∃ b, w.heap.size = b := ⟨_, rfl⟩
  have LOW : Hid (w.heap.size ≤ rz) := Lib.hid (by omega)
  rw [hrz] at Z0 ⊢
  clear hrz
  go_upto_region 2 with fail
  go_loopw [3] (fun s3 wr => ∃ (i : Nat), s3 = .int .i64 i ∧ 1 ≤ i ∧ i ≤ 10 ∧ Hid (Six wr rz 0 0 0 0 (.slice none 0 0) false) ∧ Hid (Turn (fun _ => False) w wr) ∧ Hid (∀ k, 1 ≤ k → k < i → Lib.hasPrefix t (nameOf k) = false)) (fun s3 _ => 10 - (intOf s3).toNat)
  case atStart => exact ⟨1, rfl, Nat.le_refl _, by decide, Z0, T0, Lib.hid fun k h1 h2 => by omega⟩
  case round =>
    obtain ⟨i, rfl, hi1, hi10, Z, TR, HNO⟩ := hrel
    by_cases hlt : i < 10
    · obtain ⟨nm, hnm⟩ : ∃ x, nameOf i = x := ⟨_, rfl⟩
      obtain ⟨SN, hSN⟩ : ∃ S, bs nm = S := ⟨_, rfl⟩
      have cN : wr.cell? ⟨1, i, none⟩ = some (.string SN) := by rw [← hSN, ← hnm]; exact (G.out.new TR.out).base.names i _ (name_at hlt)
      have C1 := Lib.hid (fun w => CP.out nm w)
      obtain ⟨R, hR⟩ : ∃ x, Lib.trimPrefix t nm = x := ⟨_, rfl⟩
      obtain ⟨b, hb⟩ : ∃ x, Lib.hasPrefix t nm = x := ⟨_, rfl⟩
      obtain ⟨SR, hSR⟩ : ∃ S, bs R = S := ⟨_, rfl⟩
      rw [hSN, hR, hb, hSR] at C1
      have hRl : R.length ≤ 100000 := by rw [← hR]; exact Nat.le_trans (trim_len _ _) HL.out
      have HB := Lib.hid hb
      have HNM := Lib.hid hnm
      have HR := Lib.hid hR
      have CG := Lib.hid (fun w hG => CN.out R hRl w hG)
      rw [hSR] at CG
      clear hnm hSN hR hb hSR hRl
      go_wp2_with fail
      refine (C1.out _).mono ?_
      rintro e w2 ⟨rfl, rfl⟩
      cases b
      · go_wp2_with fail
        go_roundw
        case rel => exact ⟨i + 1, by go_num, by omega, by omega, Z, TR, Lib.hid fun k h1 h2 => by
          rcases Nat.lt_or_ge k i with h3 | h3
          · exact HNO.out k h1 h3
          · obtain rfl : k = i := by omega
            rw [HNM.out]
            exact HB.out⟩
        case measure => simp [intOf]; omega
      · have HF : Hid (gPlain t = gKind i (gNums R)) := Lib.hid (by rw [← HR.out, ← HNM.out]; exact find_at hi1 hlt HNO.out (by rw [HNM.out]; exact HB.out))
        clear cN
        go_upto_region 7 with fail
        have A : Hid (OnS w (w2.alloc (.cells #[.int .i64 i, .int .i64 0, .int .i64 0, .int .i64 0, .slice none 0 0, .bool false] 25)) rz w2.heap.size i 0 0 0 (.slice none 0 0) false) := Lib.hid ⟨Z.out.new ((Turn.refl _ _).alloc _), blk_new w2 _ 25, TR.out.alloc _, LOW.out, Blk.lt Z.out⟩
        obtain ⟨bx, hbx⟩ : ∃ b, w2.heap.size = b := ⟨_, rfl⟩
        rw [hbx] at A ⊢
        clear hbx
        generalize w2.alloc (.cells #[.int .i64 i, .int .i64 0, .int .i64 0, .int .i64 0, .slice none 0 0, .bool false] 25) = wa at A ⊢
        obtain ⟨n1, hn1⟩ : ∃ x, (gNums R).1 = x := ⟨_, rfl⟩
        obtain ⟨n2, hn2⟩ : ∃ x, (gNums R).2 = x := ⟨_, rfl⟩
        rw [hn1, hn2] at CG
        have HN : Hid (gNums R = (n1, n2)) := Lib.hid (by rw [← hn1, ← hn2])
        clear hn1 hn2
        go_wp2_with fail
        refine (CG.out _ (G.out.new A.out.t)).mono ?_
        rintro e w3 ⟨rfl, t3⟩
        have A := Lib.hid (A.out.new t3)
        clear t3
        rcases (show i = 1 ∨ i = 2 ∨ i = 3 ∨ i = 4 ∨ i = 5 ∨ i = 6 ∨ i = 7 ∨ i = 8 ∨ i = 9 by omega) with rfl | rfl | rfl | rfl | rfl | rfl | rfl | rfl | rfl
        · have _u := True.intro
          obtain ⟨⟨x0, x1, x2, x3, x4, x5⟩, g0, g1, g2, g3, g4, g5⟩ := A.out.x.cells
          go_upto_region 20 with fail
          have A := Lib.hid (A.out.put2 n1)
          clear x0 x1 x2 x3 x4 x5 g0 g1 g2 g3 g4 g5
          generalize w3.setCell ⟨bx, 2, none⟩ (.int .i64 n1) = w4 at A ⊢
          obtain ⟨⟨z0, z1, z2, z3, z4, z5⟩, y0, y1, y2, y3, y4, y5⟩ := A.out.z.cells
          obtain ⟨⟨x0, x1, x2, x3, x4, x5⟩, g0, g1, g2, g3, g4, g5⟩ := A.out.x.cells
          go_wp2_with fail
          have ZF := Lib.hid (A.out.z.all 1 0 n1 0 (.slice none 0 0) false)
          have TF := Lib.hid (A.out.t.and (six_turn w4 rz (.int .i64 1) (.int .i64 0) (.int .i64 n1) (.int .i64 0) (.slice none 0 0) (.bool false)) (fun q hq e => by have := A.out.low; omega))
          clear z0 z1 z2 z3 z4 z5 y0 y1 y2 y3 y4 y5 x0 x1 x2 x3 x4 x5 g0 g1 g2 g3 g4 g5
          generalize ((((((w4.setCell ⟨rz, 0, none⟩ (.int .i64 1)).setCell ⟨rz, 1, none⟩ (.int .i64 0)).setCell ⟨rz, 2, none⟩ (.int .i64 n1)).setCell ⟨rz, 3, none⟩ (.int .i64 0)).setCell ⟨rz, 4, none⟩ (.slice none 0 0)).setCell ⟨rz, 5, none⟩ (.bool false)) = wf at ZF TF ⊢
          obtain ⟨⟨k0, k1, k2, k3, k4, k5⟩, _⟩ := ZF.out.cells
          refine bodyPost_ret (v := .agg #[.int .i64 1, .int .i64 0, .int .i64 n1, .int .i64 0, .slice none 0 0, .bool false]) (by simp [results, Tryd.results68, go_sem, k0, k1, k2, k3, k4, k5]) rfl ⟨by rw [HF.out, HN.out]; rfl, TF.out⟩
        · have _u := True.intro
          obtain ⟨⟨x0, x1, x2, x3, x4, x5⟩, g0, g1, g2, g3, g4, g5⟩ := A.out.x.cells
          go_upto_region 19 with fail
          have A := Lib.hid (A.out.put3 n2)
          clear x0 x1 x2 x3 x4 x5 g0 g1 g2 g3 g4 g5
          generalize w3.setCell ⟨bx, 3, none⟩ (.int .i64 n2) = w4 at A ⊢
          obtain ⟨⟨x0, x1, x2, x3, x4, x5⟩, g0, g1, g2, g3, g4, g5⟩ := A.out.x.cells
          go_upto_region 20 with fail
          have A := Lib.hid (A.out.put1 n1)
          clear x0 x1 x2 x3 x4 x5 g0 g1 g2 g3 g4 g5
          generalize w4.setCell ⟨bx, 1, none⟩ (.int .i64 n1) = w5 at A ⊢
          obtain ⟨⟨z0, z1, z2, z3, z4, z5⟩, y0, y1, y2, y3, y4, y5⟩ := A.out.z.cells
          obtain ⟨⟨x0, x1, x2, x3, x4, x5⟩, g0, g1, g2, g3, g4, g5⟩ := A.out.x.cells
          go_wp2_with fail
          have ZF := Lib.hid (A.out.z.all 2 n1 0 n2 (.slice none 0 0) false)
          have TF := Lib.hid (A.out.t.and (six_turn w5 rz (.int .i64 2) (.int .i64 n1) (.int .i64 0) (.int .i64 n2) (.slice none 0 0) (.bool false)) (fun q hq e => by have := A.out.low; omega))
          clear z0 z1 z2 z3 z4 z5 y0 y1 y2 y3 y4 y5 x0 x1 x2 x3 x4 x5 g0 g1 g2 g3 g4 g5
          generalize ((((((w5.setCell ⟨rz, 0, none⟩ (.int .i64 2)).setCell ⟨rz, 1, none⟩ (.int .i64 n1)).setCell ⟨rz, 2, none⟩ (.int .i64 0)).setCell ⟨rz, 3, none⟩ (.int .i64 n2)).setCell ⟨rz, 4, none⟩ (.slice none 0 0)).setCell ⟨rz, 5, none⟩ (.bool false)) = wf at ZF TF ⊢
          obtain ⟨⟨k0, k1, k2, k3, k4, k5⟩, _⟩ := ZF.out.cells
          refine bodyPost_ret (v := .agg #[.int .i64 2, .int .i64 n1, .int .i64 0, .int .i64 n2, .slice none 0 0, .bool false]) (by simp [results, Tryd.results68, go_sem, k0, k1, k2, k3, k4, k5]) rfl ⟨by rw [HF.out, HN.out]; rfl, TF.out⟩
        · have _u := True.intro
          obtain ⟨⟨x0, x1, x2, x3, x4, x5⟩, g0, g1, g2, g3, g4, g5⟩ := A.out.x.cells
          go_upto_region 20 with fail
          have A := Lib.hid (A.out.put1 n1)
          clear x0 x1 x2 x3 x4 x5 g0 g1 g2 g3 g4 g5
          generalize w3.setCell ⟨bx, 1, none⟩ (.int .i64 n1) = w4 at A ⊢
          obtain ⟨⟨z0, z1, z2, z3, z4, z5⟩, y0, y1, y2, y3, y4, y5⟩ := A.out.z.cells
          obtain ⟨⟨x0, x1, x2, x3, x4, x5⟩, g0, g1, g2, g3, g4, g5⟩ := A.out.x.cells
          go_wp2_with fail
          have ZF := Lib.hid (A.out.z.all 3 n1 0 0 (.slice none 0 0) false)
          have TF := Lib.hid (A.out.t.and (six_turn w4 rz (.int .i64 3) (.int .i64 n1) (.int .i64 0) (.int .i64 0) (.slice none 0 0) (.bool false)) (fun q hq e => by have := A.out.low; omega))
          clear z0 z1 z2 z3 z4 z5 y0 y1 y2 y3 y4 y5 x0 x1 x2 x3 x4 x5 g0 g1 g2 g3 g4 g5
          generalize ((((((w4.setCell ⟨rz, 0, none⟩ (.int .i64 3)).setCell ⟨rz, 1, none⟩ (.int .i64 n1)).setCell ⟨rz, 2, none⟩ (.int .i64 0)).setCell ⟨rz, 3, none⟩ (.int .i64 0)).setCell ⟨rz, 4, none⟩ (.slice none 0 0)).setCell ⟨rz, 5, none⟩ (.bool false)) = wf at ZF TF ⊢
          obtain ⟨⟨k0, k1, k2, k3, k4, k5⟩, _⟩ := ZF.out.cells
          refine bodyPost_ret (v := .agg #[.int .i64 3, .int .i64 n1, .int .i64 0, .int .i64 0, .slice none 0 0, .bool false]) (by simp [results, Tryd.results68, go_sem, k0, k1, k2, k3, k4, k5]) rfl ⟨by rw [HF.out, HN.out]; rfl, TF.out⟩
        · have _u := True.intro
          obtain ⟨⟨x0, x1, x2, x3, x4, x5⟩, g0, g1, g2, g3, g4, g5⟩ := A.out.x.cells
          go_upto_region 19 with fail
          have A := Lib.hid (A.out.put3 n2)
          clear x0 x1 x2 x3 x4 x5 g0 g1 g2 g3 g4 g5
          generalize w3.setCell ⟨bx, 3, none⟩ (.int .i64 n2) = w4 at A ⊢
          obtain ⟨⟨x0, x1, x2, x3, x4, x5⟩, g0, g1, g2, g3, g4, g5⟩ := A.out.x.cells
          go_upto_region 20 with fail
          have A := Lib.hid (A.out.put1 n1)
          clear x0 x1 x2 x3 x4 x5 g0 g1 g2 g3 g4 g5
          generalize w4.setCell ⟨bx, 1, none⟩ (.int .i64 n1) = w5 at A ⊢
          obtain ⟨⟨z0, z1, z2, z3, z4, z5⟩, y0, y1, y2, y3, y4, y5⟩ := A.out.z.cells
          obtain ⟨⟨x0, x1, x2, x3, x4, x5⟩, g0, g1, g2, g3, g4, g5⟩ := A.out.x.cells
          go_wp2_with fail
          have ZF := Lib.hid (A.out.z.all 4 n1 0 n2 (.slice none 0 0) false)
          have TF := Lib.hid (A.out.t.and (six_turn w5 rz (.int .i64 4) (.int .i64 n1) (.int .i64 0) (.int .i64 n2) (.slice none 0 0) (.bool false)) (fun q hq e => by have := A.out.low; omega))
          clear z0 z1 z2 z3 z4 z5 y0 y1 y2 y3 y4 y5 x0 x1 x2 x3 x4 x5 g0 g1 g2 g3 g4 g5
          generalize ((((((w5.setCell ⟨rz, 0, none⟩ (.int .i64 4)).setCell ⟨rz, 1, none⟩ (.int .i64 n1)).setCell ⟨rz, 2, none⟩ (.int .i64 0)).setCell ⟨rz, 3, none⟩ (.int .i64 n2)).setCell ⟨rz, 4, none⟩ (.slice none 0 0)).setCell ⟨rz, 5, none⟩ (.bool false)) = wf at ZF TF ⊢
          obtain ⟨⟨k0, k1, k2, k3, k4, k5⟩, _⟩ := ZF.out.cells
          refine bodyPost_ret (v := .agg #[.int .i64 4, .int .i64 n1, .int .i64 0, .int .i64 n2, .slice none 0 0, .bool false]) (by simp [results, Tryd.results68, go_sem, k0, k1, k2, k3, k4, k5]) rfl ⟨by rw [HF.out, HN.out]; rfl, TF.out⟩
        · have _u := True.intro
          obtain ⟨⟨x0, x1, x2, x3, x4, x5⟩, g0, g1, g2, g3, g4, g5⟩ := A.out.x.cells
          go_upto_region 20 with fail
          have A := Lib.hid (A.out.put1 n1)
          clear x0 x1 x2 x3 x4 x5 g0 g1 g2 g3 g4 g5
          generalize w3.setCell ⟨bx, 1, none⟩ (.int .i64 n1) = w4 at A ⊢
          obtain ⟨⟨z0, z1, z2, z3, z4, z5⟩, y0, y1, y2, y3, y4, y5⟩ := A.out.z.cells
          obtain ⟨⟨x0, x1, x2, x3, x4, x5⟩, g0, g1, g2, g3, g4, g5⟩ := A.out.x.cells
          go_wp2_with fail
          have ZF := Lib.hid (A.out.z.all 5 n1 0 0 (.slice none 0 0) false)
          have TF := Lib.hid (A.out.t.and (six_turn w4 rz (.int .i64 5) (.int .i64 n1) (.int .i64 0) (.int .i64 0) (.slice none 0 0) (.bool false)) (fun q hq e => by have := A.out.low; omega))
          clear z0 z1 z2 z3 z4 z5 y0 y1 y2 y3 y4 y5 x0 x1 x2 x3 x4 x5 g0 g1 g2 g3 g4 g5
          generalize ((((((w4.setCell ⟨rz, 0, none⟩ (.int .i64 5)).setCell ⟨rz, 1, none⟩ (.int .i64 n1)).setCell ⟨rz, 2, none⟩ (.int .i64 0)).setCell ⟨rz, 3, none⟩ (.int .i64 0)).setCell ⟨rz, 4, none⟩ (.slice none 0 0)).setCell ⟨rz, 5, none⟩ (.bool false)) = wf at ZF TF ⊢
          obtain ⟨⟨k0, k1, k2, k3, k4, k5⟩, _⟩ := ZF.out.cells
          refine bodyPost_ret (v := .agg #[.int .i64 5, .int .i64 n1, .int .i64 0, .int .i64 0, .slice none 0 0, .bool false]) (by simp [results, Tryd.results68, go_sem, k0, k1, k2, k3, k4, k5]) rfl ⟨by rw [HF.out, HN.out]; rfl, TF.out⟩
        · have _u := True.intro
          obtain ⟨⟨x0, x1, x2, x3, x4, x5⟩, g0, g1, g2, g3, g4, g5⟩ := A.out.x.cells
          go_upto_region 20 with fail
          have A := Lib.hid (A.out.put1 n1)
          clear x0 x1 x2 x3 x4 x5 g0 g1 g2 g3 g4 g5
          generalize w3.setCell ⟨bx, 1, none⟩ (.int .i64 n1) = w4 at A ⊢
          obtain ⟨⟨z0, z1, z2, z3, z4, z5⟩, y0, y1, y2, y3, y4, y5⟩ := A.out.z.cells
          obtain ⟨⟨x0, x1, x2, x3, x4, x5⟩, g0, g1, g2, g3, g4, g5⟩ := A.out.x.cells
          go_wp2_with fail
          have ZF := Lib.hid (A.out.z.all 6 n1 0 0 (.slice none 0 0) false)
          have TF := Lib.hid (A.out.t.and (six_turn w4 rz (.int .i64 6) (.int .i64 n1) (.int .i64 0) (.int .i64 0) (.slice none 0 0) (.bool false)) (fun q hq e => by have := A.out.low; omega))
          clear z0 z1 z2 z3 z4 z5 y0 y1 y2 y3 y4 y5 x0 x1 x2 x3 x4 x5 g0 g1 g2 g3 g4 g5
          generalize ((((((w4.setCell ⟨rz, 0, none⟩ (.int .i64 6)).setCell ⟨rz, 1, none⟩ (.int .i64 n1)).setCell ⟨rz, 2, none⟩ (.int .i64 0)).setCell ⟨rz, 3, none⟩ (.int .i64 0)).setCell ⟨rz, 4, none⟩ (.slice none 0 0)).setCell ⟨rz, 5, none⟩ (.bool false)) = wf at ZF TF ⊢
          obtain ⟨⟨k0, k1, k2, k3, k4, k5⟩, _⟩ := ZF.out.cells
          refine bodyPost_ret (v := .agg #[.int .i64 6, .int .i64 n1, .int .i64 0, .int .i64 0, .slice none 0 0, .bool false]) (by simp [results, Tryd.results68, go_sem, k0, k1, k2, k3, k4, k5]) rfl ⟨by rw [HF.out, HN.out]; rfl, TF.out⟩
        · have _u := True.intro
          obtain ⟨⟨x0, x1, x2, x3, x4, x5⟩, g0, g1, g2, g3, g4, g5⟩ := A.out.x.cells
          go_upto_region 20 with fail
          have A := Lib.hid (A.out.put1 n1)
          clear x0 x1 x2 x3 x4 x5 g0 g1 g2 g3 g4 g5
          generalize w3.setCell ⟨bx, 1, none⟩ (.int .i64 n1) = w4 at A ⊢
          obtain ⟨⟨z0, z1, z2, z3, z4, z5⟩, y0, y1, y2, y3, y4, y5⟩ := A.out.z.cells
          obtain ⟨⟨x0, x1, x2, x3, x4, x5⟩, g0, g1, g2, g3, g4, g5⟩ := A.out.x.cells
          go_wp2_with fail
          have ZF := Lib.hid (A.out.z.all 7 n1 0 0 (.slice none 0 0) false)
          have TF := Lib.hid (A.out.t.and (six_turn w4 rz (.int .i64 7) (.int .i64 n1) (.int .i64 0) (.int .i64 0) (.slice none 0 0) (.bool false)) (fun q hq e => by have := A.out.low; omega))
          clear z0 z1 z2 z3 z4 z5 y0 y1 y2 y3 y4 y5 x0 x1 x2 x3 x4 x5 g0 g1 g2 g3 g4 g5
          generalize ((((((w4.setCell ⟨rz, 0, none⟩ (.int .i64 7)).setCell ⟨rz, 1, none⟩ (.int .i64 n1)).setCell ⟨rz, 2, none⟩ (.int .i64 0)).setCell ⟨rz, 3, none⟩ (.int .i64 0)).setCell ⟨rz, 4, none⟩ (.slice none 0 0)).setCell ⟨rz, 5, none⟩ (.bool false)) = wf at ZF TF ⊢
          obtain ⟨⟨k0, k1, k2, k3, k4, k5⟩, _⟩ := ZF.out.cells
          refine bodyPost_ret (v := .agg #[.int .i64 7, .int .i64 n1, .int .i64 0, .int .i64 0, .slice none 0 0, .bool false]) (by simp [results, Tryd.results68, go_sem, k0, k1, k2, k3, k4, k5]) rfl ⟨by rw [HF.out, HN.out]; rfl, TF.out⟩
        · have _u := True.intro
          obtain ⟨⟨x0, x1, x2, x3, x4, x5⟩, g0, g1, g2, g3, g4, g5⟩ := A.out.x.cells
          go_upto_region 20 with fail
          have A := Lib.hid (A.out.put1 n1)
          clear x0 x1 x2 x3 x4 x5 g0 g1 g2 g3 g4 g5
          generalize w3.setCell ⟨bx, 1, none⟩ (.int .i64 n1) = w4 at A ⊢
          obtain ⟨⟨z0, z1, z2, z3, z4, z5⟩, y0, y1, y2, y3, y4, y5⟩ := A.out.z.cells
          obtain ⟨⟨x0, x1, x2, x3, x4, x5⟩, g0, g1, g2, g3, g4, g5⟩ := A.out.x.cells
          go_wp2_with fail
          have ZF := Lib.hid (A.out.z.all 8 n1 0 0 (.slice none 0 0) false)
          have TF := Lib.hid (A.out.t.and (six_turn w4 rz (.int .i64 8) (.int .i64 n1) (.int .i64 0) (.int .i64 0) (.slice none 0 0) (.bool false)) (fun q hq e => by have := A.out.low; omega))
          clear z0 z1 z2 z3 z4 z5 y0 y1 y2 y3 y4 y5 x0 x1 x2 x3 x4 x5 g0 g1 g2 g3 g4 g5
          generalize ((((((w4.setCell ⟨rz, 0, none⟩ (.int .i64 8)).setCell ⟨rz, 1, none⟩ (.int .i64 n1)).setCell ⟨rz, 2, none⟩ (.int .i64 0)).setCell ⟨rz, 3, none⟩ (.int .i64 0)).setCell ⟨rz, 4, none⟩ (.slice none 0 0)).setCell ⟨rz, 5, none⟩ (.bool false)) = wf at ZF TF ⊢
          obtain ⟨⟨k0, k1, k2, k3, k4, k5⟩, _⟩ := ZF.out.cells
          refine bodyPost_ret (v := .agg #[.int .i64 8, .int .i64 n1, .int .i64 0, .int .i64 0, .slice none 0 0, .bool false]) (by simp [results, Tryd.results68, go_sem, k0, k1, k2, k3, k4, k5]) rfl ⟨by rw [HF.out, HN.out]; rfl, TF.out⟩
        · have _u := True.intro
          obtain ⟨⟨z0, z1, z2, z3, z4, z5⟩, y0, y1, y2, y3, y4, y5⟩ := A.out.z.cells
          obtain ⟨⟨x0, x1, x2, x3, x4, x5⟩, g0, g1, g2, g3, g4, g5⟩ := A.out.x.cells
          go_wp2_with fail
          have ZF := Lib.hid (A.out.z.all 9 0 0 0 (.slice none 0 0) false)
          have TF := Lib.hid (A.out.t.and (six_turn w3 rz (.int .i64 9) (.int .i64 0) (.int .i64 0) (.int .i64 0) (.slice none 0 0) (.bool false)) (fun q hq e => by have := A.out.low; omega))
          clear z0 z1 z2 z3 z4 z5 y0 y1 y2 y3 y4 y5 x0 x1 x2 x3 x4 x5 g0 g1 g2 g3 g4 g5
          generalize ((((((w3.setCell ⟨rz, 0, none⟩ (.int .i64 9)).setCell ⟨rz, 1, none⟩ (.int .i64 0)).setCell ⟨rz, 2, none⟩ (.int .i64 0)).setCell ⟨rz, 3, none⟩ (.int .i64 0)).setCell ⟨rz, 4, none⟩ (.slice none 0 0)).setCell ⟨rz, 5, none⟩ (.bool false)) = wf at ZF TF ⊢
          obtain ⟨⟨k0, k1, k2, k3, k4, k5⟩, _⟩ := ZF.out.cells
          refine bodyPost_ret (v := .agg #[.int .i64 9, .int .i64 0, .int .i64 0, .int .i64 0, .slice none 0 0, .bool false]) (by simp [results, Tryd.results68, go_sem, k0, k1, k2, k3, k4, k5]) rfl ⟨by rw [HF.out, HN.out]; rfl, TF.out⟩
    · obtain rfl : i = 10 := by omega
      have HF := Lib.hid (find_none HNO.out)
      have ZF := Lib.hid (Z.out.all 0 0 0 0 (.slice none 0 0) false)
      have TF := Lib.hid (TR.out.and (six_turn wr rz (.int .i64 0) (.int .i64 0) (.int .i64 0) (.int .i64 0) (.slice none 0 0) (.bool false)) (fun q hq e => by have := LOW.out; omega))
      obtain ⟨⟨z0, z1, z2, z3, z4, z5⟩, y0, y1, y2, y3, y4, y5⟩ := Z.out.cells
      go_wp2_with fail
      clear z0 z1 z2 z3 z4 z5 y0 y1 y2 y3 y4 y5
      generalize ((((((wr.setCell ⟨rz, 0, none⟩ (.int .i64 0)).setCell ⟨rz, 1, none⟩ (.int .i64 0)).setCell ⟨rz, 2, none⟩ (.int .i64 0)).setCell ⟨rz, 3, none⟩ (.int .i64 0)).setCell ⟨rz, 4, none⟩ (.slice none 0 0)).setCell ⟨rz, 5, none⟩ (.bool false)) = wf at ZF TF ⊢
      obtain ⟨⟨k0, k1, k2, k3, k4, k5⟩, _⟩ := ZF.out.cells
      refine bodyPost_ret (v := .agg #[.int .i64 0, .int .i64 0, .int .i64 0, .int .i64 0, .slice none 0 0, .bool false]) (by simp [results, Tryd.results68, go_sem, k0, k1, k2, k3, k4, k5]) rfl ⟨by rw [HF.out], TF.out⟩
end Go.Proofs.YtfghabjpcjcllaaDoor
