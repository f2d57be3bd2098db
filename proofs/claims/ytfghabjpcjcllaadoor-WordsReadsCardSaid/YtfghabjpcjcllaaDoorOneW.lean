/- The document's one: words as a case. -/
import Derived.Test.YtfghabjpcjcllaaDoorMWords
import Derived.Test.YtfghabjpcjcllaaDoorTails
import Derived.Test.YtfghabjpcjcllaaDoorDBlk
namespace Go.Proofs.YtfghabjpcjcllaaDoor
open Go.RowKit
set_option linter.unusedVariables false

theorem lit_text (t l : Tx) {b : Bool} (h : decide (t = l) = b) : ((bs t).toList == l) = b := by
  rw [bs_list, ← h]
  by_cases e : t = l
  · subst e; simp
  · rw [decide_eq_false e]; simpa using e
theorem addr_zero (a : Addr) : a.add 0 = a := by
  unfold Addr.add
  split <;> simp_all
def GivesC (w : World) (o : Option Cas) (e : Ending) (w' : World) : Prop := Turn (fun _ => False) w w' ∧ ∃ c ok, e = .returned (.tuple #[Cas.val c, .bool ok]) ∧ ok = o.isSome ∧ ∀ c', o = some c' → c = c'


theorem numsV_pair (b c : Tx) : numsV [b, c] 2 = if 0 ≤ digV b ∧ 0 ≤ digV c then some [digV b, digV c] else none := by
  unfold numsV
  simp
theorem numsV_single (b : Tx) : numsV [b] 1 = if 0 ≤ digV b then some [digV b] else none := by
  unfold numsV
  simp

set_option maxRecDepth 100000 in
set_option maxHeartbeats 1000000 in
theorem rone_any (s : Sl) (ws : List Tx) (n : Nat) (o : Option Cas) (w : World) (hw : RTs w s ws) (hn : ws.length = n) (hm : n ≤ 100000) (ho : oneV ws = o) (hf : ∀ x ∈ ws, x.length ≤ 100000) :
    Calls Tryd.prog 60 #[.slice s.ao n s.cap] w (GivesC w o) := by
  have HW := Lib.hid hw
  have HF := Lib.hid hf
  have HO := Lib.hid ho
  clear hw hf ho
  by_cases h3 : n = 3
  · subst h3
    obtain ⟨a, b, c, rfl⟩ : ∃ a b c, ws = [a, b, c] := by
      match ws, hn with
      | [a, b, c], _ => exact ⟨a, b, c, rfl⟩
      | [], h => cases h
      | [a], h => cases h
      | [a, b], h => cases h
      | a :: b :: c :: d :: e, h => simp at h
    have ho := HO.out
    rw [oneV_three] at ho
    by_cases hA : a = wSend
    · obtain ⟨on, hon⟩ : ∃ on, numsV [b, c] 2 = on := ⟨_, rfl⟩
      have HON := Lib.hid hon
      rw [numsV_pair] at hon
      simp only [hA, true_and] at ho
      obtain ⟨⟨ao1, len1, cap1⟩, hs1⟩ : ∃ s1, partV s 1 3 = s1 := ⟨_, rfl⟩
      have hsl := tail_texts s (n := 3) (a := 1) (by decide)
      have HP := Lib.hid (part_tail HW.out hn (a := 1) (by decide))
      rw [hs1] at hsl HP
      dsimp only at hsl
      obtain rfl : len1 = 2 := by rw [← show (partV s 1 3).len = 2 from rfl, hs1]
      have hsl' : ∀ w, (Instr.slice 53 (.slice s.ao 3 s.cap) (some (.int .i64 1)) none none).run Tryd.prog w = .ok (.slice ao1 2 cap1) w := hsl
      clear hsl hs1
      obtain ⟨ao, len, cap⟩ := s
      dsimp only at hsl' ⊢
      obtain ⟨ad, hao, hc0⟩ := HW.out.at (i := 0) (x := a) (by rfl)
      dsimp only at hao
      subst hao
      rw [addr_zero] at hc0
      obtain ⟨S0, hS0⟩ : ∃ S, bs a = S := ⟨_, rfl⟩
      have hq := lit_text a wSend (b := true) (by simp [hA])
      rw [hS0] at hq hc0
      have A0 : Hid (Three (w.alloc (.cells #[.bool false, .int .i64 0, .int .i64 0] 40)) w.heap.size false 0 0) := Lib.hid (blk_new w _ 40)
      have hc1 : (w.alloc (.cells #[.bool false, .int .i64 0, .int .i64 0] 40)).cell? ad = some (.string S0) := ((Turn.refl (fun _ => False) w).alloc _).cell id hc0
      clear hS0 hc0
      have HP0 := Lib.hid (HP.out.new ((Turn.refl (fun _ => False) w).alloc (.cells #[.bool false, .int .i64 0, .int .i64 0] 40)))
      have T0 := Lib.hid ((Turn.refl (fun _ => False) w).alloc (.cells #[.bool false, .int .i64 0, .int .i64 0] 40))
      have hrl : w.heap.size ≤ w.heap.size := Nat.le_refl _
      unfold GivesC
      unfold wSend at hq
      clear hA
      go_enter Tryd.func60, Tryd.ntmps60
      go_wp2_with fail
      generalize w.alloc (.cells #[.bool false, .int .i64 0, .int .i64 0] 40) = w0 at A0 HP0 T0 hc1 ⊢
      refine (rnums_any ⟨ao1, 2, cap1⟩ [b, c] 2 2 on w0 HP0.out rfl (by omega) HON.out (fun x hx => HF.out x (List.mem_cons_of_mem _ hx))).mono ?_
      rintro e w1 ⟨bo, n2, c2, rfl, t1, hsome, hnone⟩
      obtain ⟨rz, hrz⟩ : ∃ b, w.heap.size = b := ⟨_, rfl⟩
      have hrl2 : w.heap.size ≤ rz := Nat.le_of_eq hrz
      rw [hrz] at A0 ⊢
      have A1 := Lib.hid (A0.out.new t1)
      have T1 := Lib.hid (T0.out.trans t1)
      have hc2 : w1.cell? ad = some (.string S0) := t1.cell id hc1
      clear hrz t1 hc1
      obtain ⟨⟨d0, d1, d2⟩, e0, e1, e2⟩ := A1.out.cells
      by_cases hd : 0 ≤ digV b ∧ 0 ≤ digV c
      · rw [if_pos hd] at ho hon
        obtain ⟨hl, hI⟩ := hsome _ hon.symm
        obtain ⟨x, hx⟩ : ∃ x, digV b = x := ⟨_, rfl⟩
        obtain ⟨y, hy⟩ : ∃ y, digV c = y := ⟨_, rfl⟩
        rw [hx, hy] at hI hl ho
        subst ho
        obtain ⟨ad2, rfl, k0⟩ := hI 0 (by simp)
        obtain ⟨_, hE, k1⟩ := hI 1 (by simp)
        cases hE
        simp only [List.getD_cons_zero, List.getD_cons_succ] at k0 k1
        rw [addr_zero] at k0
        have k2 : w1.cell? ⟨ad2.block, ad2.off + 1, none⟩ = some (.int .i64 y) := k1
        clear k1
        obtain rfl : n2 = 2 := hl.symm
        clear hI hl hsome hnone hd hon hx hy
        go_upto_region 4 with fail
        go_region
        have ZF := Lib.hid ((A1.out.all true x y).new ((Turn.refl (fun _ => False) _).drew))
        have TF := Lib.hid ((T1.out.and (three_turn w1 rz (.bool true) (.int .i64 x) (.int .i64 y)) (fun j hj e => by omega)).drew)
        clear d0 d1 d2 e0 e1 e2 k0 k2
        generalize (((w1.setCell ⟨rz, 0, none⟩ (.bool true)).setCell ⟨rz, 1, none⟩ (.int .i64 x)).setCell ⟨rz, 2, none⟩ (.int .i64 y)).drew = wf at ZF TF ⊢
        obtain ⟨⟨c0, c1, c2⟩, _⟩ := ZF.out.cells
        go_wp2_with fail
        refine bodyPost_ret (v := .tuple #[.agg #[.bool true, .int .i64 x, .int .i64 y], .bool true]) (by simp [results, Tryd.results60, go_sem, c0, c1, c2]) rfl ⟨TF.out, ⟨true, x, y⟩, true, rfl, rfl, fun c' h => ?_⟩
        cases h
        rfl
      · rw [if_neg hd] at ho hon
        subst ho
        obtain rfl := hnone hon.symm
        clear hsome hnone hd hon
        go_wp2_with fail
        have ZF := Lib.hid (A1.out.all false 0 0)
        have TF := Lib.hid (T1.out.and (three_turn w1 rz (.bool false) (.int .i64 (0)) (.int .i64 (0))) (fun j hj e => by omega))
        clear d0 d1 d2 e0 e1 e2
        generalize ((w1.setCell ⟨rz, 0, none⟩ (.bool false)).setCell ⟨rz, 1, none⟩ (.int .i64 (0))).setCell ⟨rz, 2, none⟩ (.int .i64 (0)) = wf at ZF TF ⊢
        obtain ⟨⟨c0, c1, c2⟩, _⟩ := ZF.out.cells
        refine bodyPost_ret (v := .tuple #[.agg #[.bool false, .int .i64 (0), .int .i64 (0)], .bool false]) (by simp [results, Tryd.results60, go_sem, c0, c1, c2]) rfl ⟨TF.out, ⟨false, 0, 0⟩, false, rfl, rfl, fun c' h => ?_⟩
        cases h
    · rw [if_neg (fun h => hA h.1)] at ho
      subst ho
      obtain ⟨⟨ao1, len1, cap1⟩, hs1⟩ : ∃ s1, partV s 1 3 = s1 := ⟨_, rfl⟩
      have hsl := tail_texts s (n := 3) (a := 1) (by decide)
      have HP := Lib.hid (part_tail HW.out hn (a := 1) (by decide))
      rw [hs1] at hsl HP
      dsimp only at hsl
      obtain rfl : len1 = 2 := by rw [← show (partV s 1 3).len = 2 from rfl, hs1]
      have hsl' : ∀ w, (Instr.slice 53 (.slice s.ao 3 s.cap) (some (.int .i64 1)) none none).run Tryd.prog w = .ok (.slice ao1 2 cap1) w := hsl
      clear hsl hs1
      obtain ⟨ao, len, cap⟩ := s
      dsimp only at hsl' ⊢
      obtain ⟨ad, hao, hc0⟩ := HW.out.at (i := 0) (x := a) (by rfl)
      dsimp only at hao
      subst hao
      rw [addr_zero] at hc0
      obtain ⟨S0, hS0⟩ : ∃ S, bs a = S := ⟨_, rfl⟩
      have hq := lit_text a wSend (b := false) (by simp [hA])
      rw [hS0] at hq hc0
      have A0 : Hid (Three (w.alloc (.cells #[.bool false, .int .i64 0, .int .i64 0] 40)) w.heap.size false 0 0) := Lib.hid (blk_new w _ 40)
      have hc1 : (w.alloc (.cells #[.bool false, .int .i64 0, .int .i64 0] 40)).cell? ad = some (.string S0) := ((Turn.refl (fun _ => False) w).alloc _).cell id hc0
      clear hS0 hc0
      have HP0 := Lib.hid (HP.out.new ((Turn.refl (fun _ => False) w).alloc (.cells #[.bool false, .int .i64 0, .int .i64 0] 40)))
      have T0 := Lib.hid ((Turn.refl (fun _ => False) w).alloc (.cells #[.bool false, .int .i64 0, .int .i64 0] 40))
      have hrl : w.heap.size ≤ w.heap.size := Nat.le_refl _
      unfold GivesC
      unfold wSend at hq
      clear hA
      go_enter Tryd.func60, Tryd.ntmps60
      obtain ⟨⟨d0, d1, d2⟩, e0, e1, e2⟩ := A0.out.cells
      go_wp2_with fail
      clear e0 e1 e2
      refine bodyPost_ret (v := .tuple #[.agg #[.bool false, .int .i64 0, .int .i64 0], .bool false]) (by simp [results, Tryd.results60, go_sem, d0, d1, d2]) rfl ⟨(Turn.refl _ w).alloc _, ⟨false, 0, 0⟩, false, rfl, rfl, fun c' h => ?_⟩
      cases h
  · by_cases h2 : n = 2
    · subst h2
      clear h3
      obtain ⟨a, b, rfl⟩ : ∃ a b, ws = [a, b] := by
        match ws, hn with
        | [a, b], _ => exact ⟨a, b, rfl⟩
        | [], h => cases h
        | [a], h => cases h
        | a :: b :: c :: e, h => simp at h
      have ho := HO.out
      rw [oneV_two] at ho
      by_cases hA : a = wRecv
      · obtain ⟨on, hon⟩ : ∃ on, numsV [b] 1 = on := ⟨_, rfl⟩
        have HON := Lib.hid hon
        rw [numsV_single] at hon
        simp only [hA, true_and] at ho
        obtain ⟨⟨ao1, len1, cap1⟩, hs1⟩ : ∃ s1, partV s 1 2 = s1 := ⟨_, rfl⟩
        have hsl := tail_texts s (n := 2) (a := 1) (by decide)
        have HP := Lib.hid (part_tail HW.out hn (a := 1) (by decide))
        rw [hs1] at hsl HP
        dsimp only at hsl
        obtain rfl : len1 = 1 := by rw [← show (partV s 1 2).len = 1 from rfl, hs1]
        have hsl' : ∀ w, (Instr.slice 53 (.slice s.ao 2 s.cap) (some (.int .i64 1)) none none).run Tryd.prog w = .ok (.slice ao1 1 cap1) w := hsl
        clear hsl hs1
        obtain ⟨ao, len, cap⟩ := s
        dsimp only at hsl' ⊢
        obtain ⟨ad, hao, hc0⟩ := HW.out.at (i := 0) (x := a) (by rfl)
        dsimp only at hao
        subst hao
        rw [addr_zero] at hc0
        obtain ⟨S0, hS0⟩ : ∃ S, bs a = S := ⟨_, rfl⟩
        have hq := lit_text a wRecv (b := true) (by simp [hA])
        rw [hS0] at hq hc0
        have A0 : Hid (Three (w.alloc (.cells #[.bool false, .int .i64 0, .int .i64 0] 40)) w.heap.size false 0 0) := Lib.hid (blk_new w _ 40)
        have hc1 : (w.alloc (.cells #[.bool false, .int .i64 0, .int .i64 0] 40)).cell? ad = some (.string S0) := ((Turn.refl (fun _ => False) w).alloc _).cell id hc0
        clear hS0 hc0
        have HP0 := Lib.hid (HP.out.new ((Turn.refl (fun _ => False) w).alloc (.cells #[.bool false, .int .i64 0, .int .i64 0] 40)))
        have T0 := Lib.hid ((Turn.refl (fun _ => False) w).alloc (.cells #[.bool false, .int .i64 0, .int .i64 0] 40))
        have hrl : w.heap.size ≤ w.heap.size := Nat.le_refl _
        unfold GivesC
        unfold wRecv at hq
        clear hA
        go_enter Tryd.func60, Tryd.ntmps60
        go_wp2_with fail
        generalize w.alloc (.cells #[.bool false, .int .i64 0, .int .i64 0] 40) = w0 at A0 HP0 T0 hc1 ⊢
        refine (rnums_any ⟨ao1, 1, cap1⟩ [b] 1 1 on w0 HP0.out rfl (by omega) HON.out (fun x hx => HF.out x (List.mem_cons_of_mem _ hx))).mono ?_
        rintro e w1 ⟨bo, n2, c2, rfl, t1, hsome, hnone⟩
        obtain ⟨rz, hrz⟩ : ∃ b, w.heap.size = b := ⟨_, rfl⟩
        have hrl2 : w.heap.size ≤ rz := Nat.le_of_eq hrz
        rw [hrz] at A0 ⊢
        have A1 := Lib.hid (A0.out.new t1)
        have T1 := Lib.hid (T0.out.trans t1)
        have hc2 : w1.cell? ad = some (.string S0) := t1.cell id hc1
        clear hrz t1 hc1
        obtain ⟨⟨d0, d1, d2⟩, e0, e1, e2⟩ := A1.out.cells
        by_cases hd : 0 ≤ digV b
        · rw [if_pos hd] at ho hon
          obtain ⟨hl, hI⟩ := hsome _ hon.symm
          obtain ⟨x, hx⟩ : ∃ x, digV b = x := ⟨_, rfl⟩
          rw [hx] at hI hl ho
          subst ho
          obtain ⟨ad2, rfl, k0⟩ := hI 0 (by simp)
          simp only [List.getD_cons_zero] at k0
          rw [addr_zero] at k0
          obtain rfl : n2 = 1 := hl.symm
          clear hI hl hsome hnone hd hon hx
          go_wp2_with fail
          clear k0
          have ZF := Lib.hid (A1.out.all false x 0)
          have TF := Lib.hid (T1.out.and (three_turn w1 rz (.bool false) (.int .i64 (x)) (.int .i64 (0))) (fun j hj e => by omega))
          clear d0 d1 d2 e0 e1 e2
          generalize ((w1.setCell ⟨rz, 0, none⟩ (.bool false)).setCell ⟨rz, 1, none⟩ (.int .i64 (x))).setCell ⟨rz, 2, none⟩ (.int .i64 (0)) = wf at ZF TF ⊢
          obtain ⟨⟨c0, c1, c2⟩, _⟩ := ZF.out.cells
          refine bodyPost_ret (v := .tuple #[.agg #[.bool false, .int .i64 (x), .int .i64 (0)], .bool true]) (by simp [results, Tryd.results60, go_sem, c0, c1, c2]) rfl ⟨TF.out, ⟨false, x, 0⟩, true, rfl, rfl, fun c' h => ?_⟩
          cases h
          rfl
        · rw [if_neg hd] at ho hon
          subst ho
          obtain rfl := hnone hon.symm
          clear hsome hnone hd hon
          go_wp2_with fail
          have ZF := Lib.hid (A1.out.all false 0 0)
          have TF := Lib.hid (T1.out.and (three_turn w1 rz (.bool false) (.int .i64 (0)) (.int .i64 (0))) (fun j hj e => by omega))
          clear d0 d1 d2 e0 e1 e2
          generalize ((w1.setCell ⟨rz, 0, none⟩ (.bool false)).setCell ⟨rz, 1, none⟩ (.int .i64 (0))).setCell ⟨rz, 2, none⟩ (.int .i64 (0)) = wf at ZF TF ⊢
          obtain ⟨⟨c0, c1, c2⟩, _⟩ := ZF.out.cells
          refine bodyPost_ret (v := .tuple #[.agg #[.bool false, .int .i64 (0), .int .i64 (0)], .bool false]) (by simp [results, Tryd.results60, go_sem, c0, c1, c2]) rfl ⟨TF.out, ⟨false, 0, 0⟩, false, rfl, rfl, fun c' h => ?_⟩
          cases h
      · rw [if_neg (fun h => hA h.1)] at ho
        subst ho
        obtain ⟨⟨ao1, len1, cap1⟩, hs1⟩ : ∃ s1, partV s 1 2 = s1 := ⟨_, rfl⟩
        have hsl := tail_texts s (n := 2) (a := 1) (by decide)
        have HP := Lib.hid (part_tail HW.out hn (a := 1) (by decide))
        rw [hs1] at hsl HP
        dsimp only at hsl
        obtain rfl : len1 = 1 := by rw [← show (partV s 1 2).len = 1 from rfl, hs1]
        have hsl' : ∀ w, (Instr.slice 53 (.slice s.ao 2 s.cap) (some (.int .i64 1)) none none).run Tryd.prog w = .ok (.slice ao1 1 cap1) w := hsl
        clear hsl hs1
        obtain ⟨ao, len, cap⟩ := s
        dsimp only at hsl' ⊢
        obtain ⟨ad, hao, hc0⟩ := HW.out.at (i := 0) (x := a) (by rfl)
        dsimp only at hao
        subst hao
        rw [addr_zero] at hc0
        obtain ⟨S0, hS0⟩ : ∃ S, bs a = S := ⟨_, rfl⟩
        have hq := lit_text a wRecv (b := false) (by simp [hA])
        rw [hS0] at hq hc0
        have A0 : Hid (Three (w.alloc (.cells #[.bool false, .int .i64 0, .int .i64 0] 40)) w.heap.size false 0 0) := Lib.hid (blk_new w _ 40)
        have hc1 : (w.alloc (.cells #[.bool false, .int .i64 0, .int .i64 0] 40)).cell? ad = some (.string S0) := ((Turn.refl (fun _ => False) w).alloc _).cell id hc0
        clear hS0 hc0
        have HP0 := Lib.hid (HP.out.new ((Turn.refl (fun _ => False) w).alloc (.cells #[.bool false, .int .i64 0, .int .i64 0] 40)))
        have T0 := Lib.hid ((Turn.refl (fun _ => False) w).alloc (.cells #[.bool false, .int .i64 0, .int .i64 0] 40))
        have hrl : w.heap.size ≤ w.heap.size := Nat.le_refl _
        unfold GivesC
        unfold wRecv at hq
        clear hA
        go_enter Tryd.func60, Tryd.ntmps60
        obtain ⟨⟨d0, d1, d2⟩, e0, e1, e2⟩ := A0.out.cells
        go_wp2_with fail
        clear e0 e1 e2
        refine bodyPost_ret (v := .tuple #[.agg #[.bool false, .int .i64 0, .int .i64 0], .bool false]) (by simp [results, Tryd.results60, go_sem, d0, d1, d2]) rfl ⟨(Turn.refl _ w).alloc _, ⟨false, 0, 0⟩, false, rfl, rfl, fun c' h => ?_⟩
        cases h
    · obtain rfl : o = none := by
        rw [← HO.out]
        match ws, hn with
        | [], _ => rfl
        | [a], _ => rfl
        | [a, b], h => exact absurd h.symm h2
        | [a, b, c], h => exact absurd h.symm h3
        | a :: b :: c :: d :: e, _ => rfl
      clear hn
      obtain ⟨ao, len, cap⟩ := s
      dsimp only
      unfold GivesC
      go_enter Tryd.func60, Tryd.ntmps60
      have A0 : Hid (Three (w.alloc (.cells #[.bool false, .int .i64 0, .int .i64 0] 40)) w.heap.size false 0 0) := Lib.hid (blk_new w _ 40)
      obtain ⟨⟨d0, d1, d2⟩, e0, e1, e2⟩ := A0.out.cells
      go_wp2_with fail
      clear e0 e1 e2
      refine bodyPost_ret (v := .tuple #[.agg #[.bool false, .int .i64 0, .int .i64 0], .bool false]) (by simp [results, Tryd.results60, go_sem, d0, d1, d2]) rfl ⟨(Turn.refl _ w).alloc _, ⟨false, 0, 0⟩, false, rfl, rfl, fun c' h => ?_⟩
      cases h
end Go.Proofs.YtfghabjpcjcllaaDoor
