/- The document's: are two ops, two lists of ops, two plans one? -/
import Derived.Test.YtenbafkgfdlfpaaKDSmall
import Derived.Test.YtenbafkgfdlfpaaGSkip
namespace Go.Proofs.Ytenbafkgfdlfpaa
open Go.RowKit
set_option linter.unusedVariables false

theorem size_next (w : World) (o : Obj) : (w.alloc o).heap.size = w.heap.size + 1 := by simp

set_option maxRecDepth 100000 in
set_option maxHeartbeats 2000000 in
theorem rsameop_any (r s : OpV) (a b : Opr) (d : Bool) (w : World) (ha : ROp w r a) (hb' : ROp w s b) (hm : a.cases.length ≤ 1000000) (hm' : b.cases.length ≤ 1000000) (hb : sameO a b = d) : Calls Try.prog 74 #[r.val, s.val] w (Says w d) := by
  obtain ⟨k0, ch0, n0, v0, ⟨ao0, len0, cap0⟩, els0⟩ := r
  obtain ⟨k0', ch0', n0', v0', L0, els0'⟩ := a
  obtain ⟨e1, e2, e3, e4, e5, hcs0⟩ := ha
  dsimp only at e1 e2 e3 e4 e5 hcs0 hm
  subst e1 e2 e3 e4 e5
  obtain ⟨k1, ch1, n1, v1, ⟨ao1, len1, cap1⟩, els1⟩ := s
  obtain ⟨k1', ch1', n1', v1', L1, els1'⟩ := b
  obtain ⟨e1, e2, e3, e4, e5, hcs1⟩ := hb'
  dsimp only at e1 e2 e3 e4 e5 hcs1 hm'
  subst e1 e2 e3 e4 e5
  have hlen0 : len0 = L0.length := hcs0.ok.len
  have hlen1 : len1 = L1.length := hcs1.ok.len
  have H0 := Lib.hid hcs0.has
  have H1 := Lib.hid hcs1.has
  dsimp only at H0 H1
  rw [← hlen0] at hm
  rw [← hlen1] at hm'
  have N0 := Lib.hid hlen0.symm
  have N1 := Lib.hid hlen1.symm
  clear hcs0 hcs1 hlen0 hlen1
  unfold OpV.val Says Sl.val
  dsimp only
  by_cases q1 : k0 ≠ k1
  · have HQ := q1
    obtain rfl : d = false := by rw [← hb]; simp [sameO, sameF, HQ]
    clear hb
    go_enter Try.func74, Try.ntmps74
    go_wp2_with fail
    go_ret
    exact ⟨rfl, ((Turn.refl _ w).alloc _).alloc _⟩
  obtain rfl : k0 = k1 := Classical.not_not.1 q1
  by_cases q2 : ch0 ≠ ch1
  · have HQ := q2
    obtain rfl : d = false := by rw [← hb]; simp [sameO, sameF, HQ]
    clear hb
    go_enter Try.func74, Try.ntmps74
    go_wp2_with fail
    go_ret
    exact ⟨rfl, ((Turn.refl _ w).alloc _).alloc _⟩
  obtain rfl : ch0 = ch1 := Classical.not_not.1 q2
  by_cases q3 : n0 ≠ n1
  · have HQ := q3
    obtain rfl : d = false := by rw [← hb]; simp [sameO, sameF, HQ]
    clear hb
    go_enter Try.func74, Try.ntmps74
    go_wp2_with fail
    go_ret
    exact ⟨rfl, ((Turn.refl _ w).alloc _).alloc _⟩
  obtain rfl : n0 = n1 := Classical.not_not.1 q3
  by_cases q4 : v0 ≠ v1
  · have HQ := q4
    obtain rfl : d = false := by rw [← hb]; simp [sameO, sameF, HQ]
    clear hb
    go_enter Try.func74, Try.ntmps74
    go_wp2_with fail
    go_ret
    exact ⟨rfl, ((Turn.refl _ w).alloc _).alloc _⟩
  obtain rfl : v0 = v1 := Classical.not_not.1 q4
  by_cases q5 : els0 ≠ els1
  · have HQ := q5
    obtain rfl : d = false := by rw [← hb]; simp [sameO, sameF, HQ]
    clear hb
    go_enter Try.func74, Try.ntmps74
    go_wp2_with fail
    go_ret
    exact ⟨rfl, ((Turn.refl _ w).alloc _).alloc _⟩
  obtain rfl : els0 = els1 := Classical.not_not.1 q5
  by_cases q6 : len0 ≠ len1
  · have HQ : L0.length ≠ L1.length := by rw [N0.out, N1.out]; exact q6
    obtain rfl : d = false := by rw [← hb]; simp [sameO, sameF, HQ]
    clear hb
    go_enter Try.func74, Try.ntmps74
    go_wp2_with fail
    go_ret
    exact ⟨rfl, ((Turn.refl _ w).alloc _).alloc _⟩
  obtain rfl : len0 = len1 := Classical.not_not.1 q6
  have HB := Lib.hid (show sameBy sameC L0 L1 = d by
    have := hb
    simp [sameO, sameF] at this
    rw [N0.out, N1.out] at this
    simpa using this)
  clear hb q1 q2 q3 q4 q5 q6
  go_enter Try.func74, Try.ntmps74
  go_upto_region 1 with fail
  have C0 := (at6_new w k0 ch0 n0 v0 (.slice ao0 len0 cap0) els0 88).turn ((Turn.refl (fun _ => False) _).alloc (.cells #[.int .i64 k0, .int .i64 ch0, .int .i64 n0, .int .i64 v0, .slice ao1 len0 cap1, .bool els0] 88)) id
  have C1 := at6_new (w.alloc (.cells #[.int .i64 k0, .int .i64 ch0, .int .i64 n0, .int .i64 v0, .slice ao0 len0 cap0, .bool els0] 88)) k0 ch0 n0 v0 (.slice ao1 len0 cap1) els0 88
  rw [size_next] at C1
  have T0 := Lib.hid (((Turn.refl (fun _ => False) w).alloc (.cells #[.int .i64 k0, .int .i64 ch0, .int .i64 n0, .int .i64 v0, .slice ao0 len0 cap0, .bool els0] 88)).alloc (.cells #[.int .i64 k0, .int .i64 ch0, .int .i64 n0, .int .i64 v0, .slice ao1 len0 cap1, .bool els0] 88))
  obtain ⟨BA, hBA⟩ : ∃ b, w.heap.size = b := ⟨_, rfl⟩
  obtain ⟨BC, hBC⟩ : ∃ b, w.heap.size + 1 = b := ⟨_, rfl⟩
  rw [hBC] at C1
  rw [hBA] at C0
  simp only [hBC]
  simp only [hBA]
  generalize (w.alloc (.cells #[.int .i64 k0, .int .i64 ch0, .int .i64 n0, .int .i64 v0, .slice ao0 len0 cap0, .bool els0] 88)).alloc (.cells #[.int .i64 k0, .int .i64 ch0, .int .i64 n0, .int .i64 v0, .slice ao1 len0 cap1, .bool els0] 88) = w2 at C0 C1 T0 ⊢
  clear hBA hBC
  obtain ⟨c0, c1, c2, c3, c4, c5⟩ := C0
  have C0 := Lib.hid (At6.mk c0 c1 c2 c3 c4 c5)
  obtain ⟨d0, d1, d2, d3, d4, d5⟩ := C1
  have C1 := Lib.hid (At6.mk d0 d1 d2 d3 d4 d5)
  go_upto_region 4 with fail
  clear c0 c1 c2 c3 c4 c5 d0 d1 d2 d3 d4 d5
  go_loopw [51] (fun s51 wr => ∃ i : Nat, i ≤ len0 ∧ s51 = .int .i64 i ∧ Hid (∀ (j : Nat) x y, j < i → L0[j]? = some x → L1[j]? = some y → sameC x y = true) ∧ Hid (Turn (fun _ => False) w2 wr)) (fun s51 _ => len0 - (intOf s51).toNat)
  case atStart => exact ⟨0, Nat.zero_le _, rfl, Lib.hid fun j x y hj => absurd hj (Nat.not_lt_zero _), Lib.hid (Turn.refl _ _)⟩
  case round =>
    obtain ⟨i, hi, rfl, HA, HT⟩ := hrel
    by_cases hlt : i < len0
    · obtain ⟨x, hx⟩ : ∃ x, L0[i]? = some x := ⟨_, List.getElem?_eq_getElem (by rw [N0.out]; exact hlt)⟩
      obtain ⟨y, hy⟩ : ∃ x, L1[i]? = some x := ⟨_, List.getElem?_eq_getElem (by rw [N1.out]; exact hlt)⟩
      obtain ⟨a, rfl, hc⟩ := (H0.out.new (T0.out.trans HT.out)) i x hx
      obtain ⟨a', rfl, hc'⟩ := (H1.out.new (T0.out.trans HT.out)) i y hy
      obtain ⟨c0, c1, c2⟩ := cells3 hc
      obtain ⟨d0, d1, d2⟩ := cells3 hc'
      have c4 := (C0.out.turn HT.out id).c4
      have d4 := (C1.out.turn HT.out id).c4
      have HX := Lib.hid hx
      have HY := Lib.hid hy
      obtain ⟨f, hf⟩ : ∃ f, sameC x y = f := ⟨_, rfl⟩
      have HF := Lib.hid hf
      have hg := guard_case
      have hE : ∀ w', (Op.equalIn 10000 117 (.agg #[.bool x.send, .int .i64 x.ch, .int .i64 x.v]) (.agg #[.bool y.send, .int .i64 y.ch, .int .i64 y.v])).run Try.prog w' = .ok f w' := fun w' => by rw [equal_case, hf]
      clear hx hc hf hy hc'
      go_wp2_with fail
      go_quiet (fail)
      cases f
      · go_wp2_with fail
        go_ret
        refine ⟨ret_bool ?_, T0.out.trans (HT.out.drewN _)⟩
        rw [← HB.out, sameBy_no HX.out HY.out HF.out]
      · go_wp2_with fail
        go_roundw
        case rel =>
          refine ⟨i + 1, by omega, by go_num, Lib.hid fun j x' y' hj hx hy => ?_, Lib.hid (HT.out.drewN _)⟩
          rcases Nat.lt_or_ge j i with h | h
          · exact HA.out j x' y' h hx hy
          · obtain rfl : j = i := by omega
            rw [HX.out] at hx
            rw [HY.out] at hy
            obtain rfl := Option.some.inj hx
            obtain rfl := Option.some.inj hy
            exact HF.out
        case measure => simp [intOf]; omega
    · have hin : i = len0 := by omega
      have HIN := Lib.hid hin
      clear hin
      go_wp2_with fail
      go_ret
      refine ⟨ret_bool ?_, T0.out.trans HT.out⟩
      rw [← HB.out, sameBy_yes (by rw [N0.out, N1.out]) (fun j x y hx hy => HA.out j x y (by have := (List.getElem?_eq_some_iff.1 hx).1; have := HIN.out; have := N0.out; omega) hx hy)]

theorem rsameops_any {s t : Sl} {n m : Nat} {l k : List Opr} (b : Bool) (w : World) (hL : ROps w s l) (hK : ROps w t k) (hn : l.length = n) (hk : k.length = m) (hm : MildL l) (hm' : MildL k) (hb : sameL l k = b) :
    Calls Try.prog 41 #[.slice s.ao n s.cap, .slice t.ao m t.cap] w (Says w b) := by
  obtain ⟨ao, lens, c⟩ := s
  obtain ⟨bo, lent, d⟩ := t
  have HL := Lib.hid hL
  have HK := Lib.hid hK
  have HN := Lib.hid hn
  have HM := Lib.hid hk
  have ML := Lib.hid hm
  have MK := Lib.hid hm'
  have HB := Lib.hid hb
  have hm : n ≤ 1000000 := hn ▸ hm.1
  have hm' : m ≤ 1000000 := hk ▸ hm'.1
  clear hL hK hn hk hb
  unfold Says
  dsimp only
  by_cases hnm : n = m
  · subst hnm
    go_enter Try.func41, Try.ntmps41
    go_upto_region 4 with fail
    go_loopw [13] (fun s13 wr => ∃ i : Nat, i ≤ n ∧ s13 = .int .i64 i ∧ Hid (∀ (j : Nat) x y, j < i → l[j]? = some x → k[j]? = some y → sameO x y = true) ∧ Hid (Turn (fun _ => False) w wr)) (fun s13 _ => n - (intOf s13).toNat)
    case atStart => exact ⟨0, Nat.zero_le _, rfl, Lib.hid fun j x y hj => absurd hj (Nat.not_lt_zero _), Lib.hid (Turn.refl _ _)⟩
    case round =>
      obtain ⟨i, hi, rfl, HA, HT⟩ := hrel
      by_cases hlt : i < n
      · obtain ⟨x, hx⟩ : ∃ x, l[i]? = some x := ⟨_, List.getElem?_eq_getElem (by rw [HN.out]; exact hlt)⟩
        obtain ⟨y, hy⟩ : ∃ x, k[i]? = some x := ⟨_, List.getElem?_eq_getElem (by rw [HM.out]; exact hlt)⟩
        obtain ⟨a, r, ha, hr, hc⟩ := (HL.out.new HT.out).at hx
        obtain ⟨a', r', ha', hr', hc'⟩ := (HK.out.new HT.out).at hy
        dsimp only at ha ha'
        subst ha ha'
        obtain ⟨kind, ch, n', v, ⟨ao', len', cap'⟩, els⟩ := r
        obtain ⟨kind1, ch1, n1, v1, ⟨ao1, len1, cap1⟩, els1⟩ := r'
        obtain ⟨c0, c1, c2, c3, c4, c5⟩ := cells6 hc
        obtain ⟨d0, d1, d2, d3, d4, d5⟩ := cells6 hc'
        have HX := Lib.hid hx
        have HY := Lib.hid hy
        obtain ⟨f, hf⟩ : ∃ f, sameO x y = f := ⟨_, rfl⟩
        have HF := Lib.hid hf
        have HR := Lib.hid hr
        have HR' := Lib.hid hr'
        clear hx hf hy hr hr'
        unfold Sl.val at c4 d4
        dsimp only at c0 c1 c2 c3 c4 c5 d0 d1 d2 d3 d4 d5
        go_upto_region 6 with fail
        have TD := Lib.hid (Turn.refl (fun _ => False) wr).drew
        have KEEP := Lib.hid (show ∀ w', Turn (fun _ => False) wr w' → (w'.cell? (a.add (i * 6)) = some (.int .i64 kind) ∧ w'.cell? ⟨(a.add (i * 6)).block, (a.add (i * 6)).off + 1, none⟩ = some (.int .i64 ch) ∧ w'.cell? ⟨(a.add (i * 6)).block, (a.add (i * 6)).off + 2, none⟩ = some (.int .i64 n') ∧ w'.cell? ⟨(a.add (i * 6)).block, (a.add (i * 6)).off + 3, none⟩ = some (.int .i64 v) ∧ w'.cell? ⟨(a.add (i * 6)).block, (a.add (i * 6)).off + 4, none⟩ = some (.slice ao' len' cap') ∧ w'.cell? ⟨(a.add (i * 6)).block, (a.add (i * 6)).off + 5, none⟩ = some (.bool els) ∧ w'.cell? (a'.add (i * 6)) = some (.int .i64 kind1) ∧ w'.cell? ⟨(a'.add (i * 6)).block, (a'.add (i * 6)).off + 1, none⟩ = some (.int .i64 ch1) ∧ w'.cell? ⟨(a'.add (i * 6)).block, (a'.add (i * 6)).off + 2, none⟩ = some (.int .i64 n1) ∧ w'.cell? ⟨(a'.add (i * 6)).block, (a'.add (i * 6)).off + 3, none⟩ = some (.int .i64 v1) ∧ w'.cell? ⟨(a'.add (i * 6)).block, (a'.add (i * 6)).off + 4, none⟩ = some (.slice ao1 len1 cap1) ∧ w'.cell? ⟨(a'.add (i * 6)).block, (a'.add (i * 6)).off + 5, none⟩ = some (.bool els1)) from fun w' t => ⟨t.cell (by simp) c0, t.cell (by simp) c1, t.cell (by simp) c2, t.cell (by simp) c3, t.cell (by simp) c4, t.cell (by simp) c5, t.cell (by simp) d0, t.cell (by simp) d1, t.cell (by simp) d2, t.cell (by simp) d3, t.cell (by simp) d4, t.cell (by simp) d5⟩)
        clear c0 c1 c2 c3 c4 c5 d0 d1 d2 d3 d4 d5 hc hc'
        refine stand_start (by kernel_rfl) 99 (fun w' => w'.cell? (a.add (i * 6)) = some (.int .i64 kind) ∧ w'.cell? ⟨(a.add (i * 6)).block, (a.add (i * 6)).off + 1, none⟩ = some (.int .i64 ch) ∧ w'.cell? ⟨(a.add (i * 6)).block, (a.add (i * 6)).off + 2, none⟩ = some (.int .i64 n') ∧ w'.cell? ⟨(a.add (i * 6)).block, (a.add (i * 6)).off + 3, none⟩ = some (.int .i64 v) ∧ w'.cell? ⟨(a.add (i * 6)).block, (a.add (i * 6)).off + 4, none⟩ = some (.slice ao' len' cap') ∧ w'.cell? ⟨(a.add (i * 6)).block, (a.add (i * 6)).off + 5, none⟩ = some (.bool els) ∧ w'.cell? (a'.add (i * 6)) = some (.int .i64 kind1) ∧ w'.cell? ⟨(a'.add (i * 6)).block, (a'.add (i * 6)).off + 1, none⟩ = some (.int .i64 ch1) ∧ w'.cell? ⟨(a'.add (i * 6)).block, (a'.add (i * 6)).off + 2, none⟩ = some (.int .i64 n1) ∧ w'.cell? ⟨(a'.add (i * 6)).block, (a'.add (i * 6)).off + 3, none⟩ = some (.int .i64 v1) ∧ w'.cell? ⟨(a'.add (i * 6)).block, (a'.add (i * 6)).off + 4, none⟩ = some (.slice ao1 len1 cap1) ∧ w'.cell? ⟨(a'.add (i * 6)).block, (a'.add (i * 6)).off + 5, none⟩ = some (.bool els1)) 99 (fun w' => True) (KEEP.out _ TD.out) trivial ?_
        refine stand_take (i := 0) (v := ?_) rfl (by kernel_rfl) (by kernel_rfl) (by kernel_rfl) (by rfl) (fun _ _ _ h => h) (by decide) (by decide) (by rfl) ?_ ?_
        rotate_left
        · (intro w; go_simp; try with_reducible rfl)
        dsimp only [List.set_cons_zero, List.set_cons_succ]
        refine stand_take (i := 1) (v := ?_) rfl (by kernel_rfl) (by kernel_rfl) (by kernel_rfl) (by rfl) (fun _ _ _ h => h) (by decide) (by decide) (by rfl) ?_ ?_
        rotate_left
        · (intro w; go_simp; try with_reducible rfl)
        dsimp only [List.set_cons_zero, List.set_cons_succ]
        refine stand_take (i := 2) (v := ?_) rfl (by kernel_rfl) (by kernel_rfl) (by kernel_rfl) (by rfl) (fun _ _ _ h => h) (by decide) (by decide) (by rfl) ?_ ?_
        rotate_left
        · (intro w; go_simp; try with_reducible rfl)
        dsimp only [List.set_cons_zero, List.set_cons_succ]
        refine stand_load3 (i := 3) (v := ?_) rfl (by kernel_rfl) (by kernel_rfl) (by kernel_rfl) (by rfl) (fun _ _ _ h => h) (by decide) (by decide) (by kernel_rfl) (by rfl) ?_ ?_
        rotate_left
        · (intro w hA; (try dsimp only at hA); go_simp; try with_reducible rfl)
        dsimp only [List.set_cons_zero, List.set_cons_succ]
        refine stand_take (i := 4) (v := ?_) rfl (by kernel_rfl) (by kernel_rfl) (by kernel_rfl) (by rfl) (fun _ _ _ h => h) (by decide) (by decide) (by rfl) ?_ ?_
        rotate_left
        · (intro w; go_simp; try with_reducible rfl)
        dsimp only [List.set_cons_zero, List.set_cons_succ]
        refine stand_take (i := 5) (v := ?_) rfl (by kernel_rfl) (by kernel_rfl) (by kernel_rfl) (by rfl) (fun _ _ _ h => h) (by decide) (by decide) (by rfl) ?_ ?_
        rotate_left
        · (intro w; go_simp; try with_reducible rfl)
        dsimp only [List.set_cons_zero, List.set_cons_succ]
        refine stand_take (i := 6) (v := ?_) rfl (by kernel_rfl) (by kernel_rfl) (by kernel_rfl) (by rfl) (fun _ _ _ h => h) (by decide) (by decide) (by rfl) ?_ ?_
        rotate_left
        · (intro w; go_simp; try with_reducible rfl)
        dsimp only [List.set_cons_zero, List.set_cons_succ]
        refine stand_load3 (i := 7) (v := ?_) rfl (by kernel_rfl) (by kernel_rfl) (by kernel_rfl) (by rfl) (fun _ _ _ h => h) (by decide) (by decide) (by kernel_rfl) (by rfl) ?_ ?_
        rotate_left
        · (intro w hA; (try dsimp only at hA); go_simp; try with_reducible rfl)
        dsimp only [List.set_cons_zero, List.set_cons_succ]
        refine stand_step (i := 8) (by kernel_rfl) rfl (fun K hK => ?_)
        go_simp
        refine (rsameop_any ⟨kind, ch, n', v, ⟨ao', len', cap'⟩, els⟩ ⟨kind1, ch1, n1, v1, ⟨ao1, len1, cap1⟩, els1⟩ x y f _ (HR.out.new TD.out) (HR'.out.new TD.out) (ML.out.at HX.out) (MK.out.at HY.out) HF.out).mono ?_
        rintro e w4 ⟨rfl, t4⟩
        have T4 := Lib.hid (TD.out.trans t4)
        clear t4
        refine hK.out _ _ (fun _ => KEEP.out _ T4.out) (fun _ => trivial) ?_
        clear hK K
        try simp only [put_laid, List.set_cons_zero, List.set_cons_succ]
        refine stand_take (i := 9) (v := ?_) rfl (by kernel_rfl) (by kernel_rfl) (by kernel_rfl) (by rfl) (fun _ _ _ h => h) (by decide) (by decide) (by rfl) ?_ ?_
        rotate_left
        · (intro w; go_simp; try with_reducible rfl)
        dsimp only [List.set_cons_zero, List.set_cons_succ]
        refine stand_done (by kernel_rfl) ?_
        cases f
        · go_wp2_with fail
          go_ret
          refine ⟨ret_bool ?_, HT.out.trans T4.out⟩
          rw [← HB.out]
          exact (sameBy_no HX.out HY.out HF.out).symm
        · go_wp2_with fail
          go_roundw
          case rel =>
            refine ⟨i + 1, by omega, by go_num, Lib.hid fun j x' y' hj hx hy => ?_, Lib.hid (HT.out.trans T4.out)⟩
            rcases Nat.lt_or_ge j i with h | h
            · exact HA.out j x' y' h hx hy
            · obtain rfl : j = i := by omega
              rw [HX.out] at hx
              rw [HY.out] at hy
              obtain rfl := Option.some.inj hx
              obtain rfl := Option.some.inj hy
              exact HF.out
          case measure => simp [intOf]; omega
      · have hin : i = n := by omega
        have HIN := Lib.hid hin
        clear hin
        go_wp2_with fail
        go_ret
        refine ⟨ret_bool ?_, HT.out⟩
        rw [← HB.out]
        unfold sameL
        rw [sameBy_yes (by rw [HN.out, HM.out]) (fun j x y hx hy => HA.out j x y (by have := (List.getElem?_eq_some_iff.1 hx).1; have := HIN.out; have := HN.out; omega) hx hy)]
  · obtain rfl : b = false := by rw [← HB.out]; exact sameBy_len (by rw [HN.out, HM.out]; exact hnm)
    go_enter Try.func41, Try.ntmps41
    go_wp2_with fail
    go_ret
    exact ⟨rfl, Turn.refl _ w⟩

end Go.Proofs.Ytenbafkgfdlfpaa
