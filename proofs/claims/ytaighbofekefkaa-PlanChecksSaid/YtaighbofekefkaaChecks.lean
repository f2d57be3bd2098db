/- The walk of PlanChecks. -/
import Derived.Test.YtaighbofekefkaaAlive
import Derived.Test.YtaighbofekefkaaRefA
import Derived.Test.YtaighbofekefkaaRefB
namespace Go.Proofs.Ytaighbofekefkaa
open Go.RowKit
set_option linter.unusedVariables false

set_option maxRecDepth 100000 in
set_option maxHeartbeats 4000000 in
theorem lchecks_any (r s : OpV) (a b : Opr) (w : World) (ha : ROp w r a) (hb : ROp w s b) : Calls Try.prog 4 #[r.val, s.val] w (Says w true) := by
  have hma : a.cases.length ≤ maxLen := by have h1 := ha.cs.ok.len; have h2 := ha.cs.ok.cap; have h3 := ha.cs.ok.max; omega
  have hmb : b.cases.length ≤ maxLen := by have h1 := hb.cs.ok.len; have h2 := hb.cs.ok.cap; have h3 := hb.cs.ok.max; omega
  unfold maxLen at hma hmb
  obtain ⟨k0, ch0, n0, v0, ⟨ao0, len0, cap0⟩, els0⟩ := r
  obtain ⟨k1, ch1, n1, v1, ⟨ao1, len1, cap1⟩, els1⟩ := s
  have hlen0 : len0 = a.cases.length := ha.cs.ok.len
  have hlen1 : len1 = b.cases.length := hb.cs.ok.len
  rw [← hlen0] at hma
  rw [← hlen1] at hmb
  have HA := Lib.hid ha
  have HB := Lib.hid hb
  have L0 := Lib.hid hlen0
  have L1 := Lib.hid hlen1
  clear ha hb hlen0 hlen1
  unfold OpV.val Says Sl.val
  dsimp only
  go_enter Try.func4, Try.ntmps4
  go_upto_region 1 with fail
  have C0 := (at6_new w k0 ch0 n0 v0 (.slice ao0 len0 cap0) els0 29).turn ((Turn.refl (fun _ => False) _).alloc (.cells #[.int .i64 k1, .int .i64 ch1, .int .i64 n1, .int .i64 v1, .slice ao1 len1 cap1, .bool els1] 29)) id
  have C1 := at6_new (w.alloc (.cells #[.int .i64 k0, .int .i64 ch0, .int .i64 n0, .int .i64 v0, .slice ao0 len0 cap0, .bool els0] 29)) k1 ch1 n1 v1 (.slice ao1 len1 cap1) els1 29
  rw [size_next] at C1
  have T0 := Lib.hid (((Turn.refl (fun _ => False) w).alloc (.cells #[.int .i64 k0, .int .i64 ch0, .int .i64 n0, .int .i64 v0, .slice ao0 len0 cap0, .bool els0] 29)).alloc (.cells #[.int .i64 k1, .int .i64 ch1, .int .i64 n1, .int .i64 v1, .slice ao1 len1 cap1, .bool els1] 29))
  obtain ⟨BA, hBA⟩ : ∃ b, w.heap.size = b := ⟨_, rfl⟩
  obtain ⟨BC, hBC⟩ : ∃ b, w.heap.size + 1 = b := ⟨_, rfl⟩
  rw [hBC] at C1
  rw [hBA] at C0
  simp only [hBC]
  simp only [hBA]
  generalize (w.alloc (.cells #[.int .i64 k0, .int .i64 ch0, .int .i64 n0, .int .i64 v0, .slice ao0 len0 cap0, .bool els0] 29)).alloc (.cells #[.int .i64 k1, .int .i64 ch1, .int .i64 n1, .int .i64 v1, .slice ao1 len1 cap1, .bool els1] 29) = w2 at C0 C1 T0 ⊢
  clear hBA hBC
  have C0 := Lib.hid C0
  have C1 := Lib.hid C1
  go_wp2_with fail
  refine (alive_any _).mono ?_
  rintro e w3 ⟨rfl, t3⟩
  have C0 := Lib.hid (C0.out.turn t3 id)
  have C1 := Lib.hid (C1.out.turn t3 id)
  have T3 := Lib.hid (T0.out.trans t3)
  clear t3
  obtain ⟨c0, c1, c2, c3, c4, c5⟩ := C0.out
  obtain ⟨d0, d1, d2, d3, d4, d5⟩ := C1.out
  rcases Nat.lt_or_ge 100 len0 with hz0 | hz0
  · go_wp2_with fail
    go_ret
    exact ⟨rfl, T3.out⟩
  rcases Nat.lt_or_ge 100 len1 with hz1 | hz1
  · go_wp2_with fail
    go_ret
    exact ⟨rfl, T3.out⟩
  obtain ⟨f1, q1⟩ : ∃ f, rightO a = f := ⟨_, rfl⟩
  obtain ⟨f2, q2⟩ : ∃ f, sameO a b = f := ⟨_, rfl⟩
  have Q1 := Lib.hid q1
  have Q2 := Lib.hid q2
  have MA := Lib.hid (show a.cases.length ≤ 1000000 by have := L0.out; omega)
  have MB := Lib.hid (show b.cases.length ≤ 1000000 by have := L1.out; omega)
  clear q1 q2
  go_upto_region 5 with fail
  have TD := Lib.hid (Turn.refl (fun _ => False) w3).drew
  have TT := TD
  have KEEP := Lib.hid (show ∀ w', Turn (fun _ => False) w3 w' → (w'.cell? ⟨BA, 0, none⟩ = some (.int .i64 k0) ∧ w'.cell? ⟨BA, 1, none⟩ = some (.int .i64 ch0) ∧ w'.cell? ⟨BA, 2, none⟩ = some (.int .i64 n0) ∧ w'.cell? ⟨BA, 3, none⟩ = some (.int .i64 v0) ∧ w'.cell? ⟨BA, 4, none⟩ = some (.slice ao0 len0 cap0) ∧ w'.cell? ⟨BA, 5, none⟩ = some (.bool els0) ∧ w'.cell? ⟨BC, 0, none⟩ = some (.int .i64 k1) ∧ w'.cell? ⟨BC, 1, none⟩ = some (.int .i64 ch1) ∧ w'.cell? ⟨BC, 2, none⟩ = some (.int .i64 n1) ∧ w'.cell? ⟨BC, 3, none⟩ = some (.int .i64 v1) ∧ w'.cell? ⟨BC, 4, none⟩ = some (.slice ao1 len1 cap1) ∧ w'.cell? ⟨BC, 5, none⟩ = some (.bool els1)) from fun w' t => ⟨t.cell id c0, t.cell id c1, t.cell id c2, t.cell id c3, t.cell id c4, t.cell id c5, t.cell id d0, t.cell id d1, t.cell id d2, t.cell id d3, t.cell id d4, t.cell id d5⟩)
  clear c0 c1 c2 c3 c4 c5 d0 d1 d2 d3 d4 d5
  refine stand_start (by kernel_rfl) 99 (fun w' => w'.cell? ⟨BA, 0, none⟩ = some (.int .i64 k0) ∧ w'.cell? ⟨BA, 1, none⟩ = some (.int .i64 ch0) ∧ w'.cell? ⟨BA, 2, none⟩ = some (.int .i64 n0) ∧ w'.cell? ⟨BA, 3, none⟩ = some (.int .i64 v0) ∧ w'.cell? ⟨BA, 4, none⟩ = some (.slice ao0 len0 cap0) ∧ w'.cell? ⟨BA, 5, none⟩ = some (.bool els0) ∧ w'.cell? ⟨BC, 0, none⟩ = some (.int .i64 k1) ∧ w'.cell? ⟨BC, 1, none⟩ = some (.int .i64 ch1) ∧ w'.cell? ⟨BC, 2, none⟩ = some (.int .i64 n1) ∧ w'.cell? ⟨BC, 3, none⟩ = some (.int .i64 v1) ∧ w'.cell? ⟨BC, 4, none⟩ = some (.slice ao1 len1 cap1) ∧ w'.cell? ⟨BC, 5, none⟩ = some (.bool els1)) 99 (fun w' => True) (KEEP.out _ TD.out) trivial ?_
  refine stand_load3 (i := 0) (v := ?_) rfl (by kernel_rfl) (by kernel_rfl) (by kernel_rfl) (by rfl) (fun _ _ _ h => h) (by decide) (by decide) (by kernel_rfl) (by rfl) ?_ ?_
  rotate_left
  · (intro w hA; (try dsimp only at hA); go_simp; try with_reducible rfl)
  dsimp only [List.set_cons_zero, List.set_cons_succ]
  refine stand_load3 (i := 2) (v := ?_) rfl (by kernel_rfl) (by kernel_rfl) (by kernel_rfl) (by rfl) (fun _ _ _ h => h) (by decide) (by decide) (by kernel_rfl) (by rfl) ?_ ?_
  rotate_left
  · (intro w hA; (try dsimp only at hA); go_simp; try with_reducible rfl)
  dsimp only [List.set_cons_zero, List.set_cons_succ]
  refine stand_step (i := 1) (by kernel_rfl) rfl (fun K hK => ?_)
  go_simp
  refine (rightop_any ⟨k0, ch0, n0, v0, ⟨ao0, len0, cap0⟩, els0⟩ a f1 _ (HA.out.new (T3.out.trans TT.out)) MA.out Q1.out).mono ?_
  rintro e wN ⟨rfl, t4⟩
  have TT := Lib.hid (TT.out.trans t4)
  clear t4
  refine hK.out _ _ (fun _ => KEEP.out _ TT.out) (fun _ => trivial) ?_
  clear hK K
  try simp only [put_laid, List.set_cons_zero, List.set_cons_succ]
  refine stand_step (i := 3) (by kernel_rfl) rfl (fun K hK => ?_)
  go_simp
  refine (rrightop_any ⟨k0, ch0, n0, v0, ⟨ao0, len0, cap0⟩, els0⟩ a f1 _ (HA.out.new (T3.out.trans TT.out)) MA.out Q1.out).mono ?_
  rintro e wN ⟨rfl, t4⟩
  have TT := Lib.hid (TT.out.trans t4)
  clear t4
  refine hK.out _ _ (fun _ => KEEP.out _ TT.out) (fun _ => trivial) ?_
  clear hK K
  try simp only [put_laid, List.set_cons_zero, List.set_cons_succ]
  refine stand_take (i := 4) (v := ?_) rfl (by kernel_rfl) (by kernel_rfl) (by kernel_rfl) (by rfl) (fun _ _ _ h => h) (by decide) (by decide) (by rfl) ?_ ?_
  rotate_left
  · (intro w; go_simp; try with_reducible rfl)
  dsimp only [List.set_cons_zero, List.set_cons_succ]
  refine stand_take (i := 5) (v := ?_) rfl (by kernel_rfl) (by kernel_rfl) (by kernel_rfl) (by rfl) (fun _ _ _ h => h) (by decide) (by decide) (by rfl) ?_ ?_
  rotate_left
  · (intro w; go_simp; try with_reducible rfl)
  dsimp only [List.set_cons_zero, List.set_cons_succ]
  refine stand_load3 (i := 6) (v := ?_) rfl (by kernel_rfl) (by kernel_rfl) (by kernel_rfl) (by rfl) (fun _ _ _ h => h) (by decide) (by decide) (by kernel_rfl) (by rfl) ?_ ?_
  rotate_left
  · (intro w hA; (try dsimp only at hA); go_simp; try with_reducible rfl)
  dsimp only [List.set_cons_zero, List.set_cons_succ]
  refine stand_load3 (i := 7) (v := ?_) rfl (by kernel_rfl) (by kernel_rfl) (by kernel_rfl) (by rfl) (fun _ _ _ h => h) (by decide) (by decide) (by kernel_rfl) (by rfl) ?_ ?_
  rotate_left
  · (intro w hA; (try dsimp only at hA); go_simp; try with_reducible rfl)
  dsimp only [List.set_cons_zero, List.set_cons_succ]
  refine stand_load3 (i := 9) (v := ?_) rfl (by kernel_rfl) (by kernel_rfl) (by kernel_rfl) (by rfl) (fun _ _ _ h => h) (by decide) (by decide) (by kernel_rfl) (by rfl) ?_ ?_
  rotate_left
  · (intro w hA; (try dsimp only at hA); go_simp; try with_reducible rfl)
  dsimp only [List.set_cons_zero, List.set_cons_succ]
  refine stand_load3 (i := 10) (v := ?_) rfl (by kernel_rfl) (by kernel_rfl) (by kernel_rfl) (by rfl) (fun _ _ _ h => h) (by decide) (by decide) (by kernel_rfl) (by rfl) ?_ ?_
  rotate_left
  · (intro w hA; (try dsimp only at hA); go_simp; try with_reducible rfl)
  dsimp only [List.set_cons_zero, List.set_cons_succ]
  refine stand_step (i := 8) (by kernel_rfl) rfl (fun K hK => ?_)
  go_simp
  refine (sameop_any ⟨k0, ch0, n0, v0, ⟨ao0, len0, cap0⟩, els0⟩ ⟨k1, ch1, n1, v1, ⟨ao1, len1, cap1⟩, els1⟩ a b f2 _ (HA.out.new (T3.out.trans TT.out)) (HB.out.new (T3.out.trans TT.out)) MA.out MB.out Q2.out).mono ?_
  rintro e wN ⟨rfl, t4⟩
  have TT := Lib.hid (TT.out.trans t4)
  clear t4
  refine hK.out _ _ (fun _ => KEEP.out _ TT.out) (fun _ => trivial) ?_
  clear hK K
  try simp only [put_laid, List.set_cons_zero, List.set_cons_succ]
  refine stand_step (i := 11) (by kernel_rfl) rfl (fun K hK => ?_)
  go_simp
  refine (rsameop_any ⟨k0, ch0, n0, v0, ⟨ao0, len0, cap0⟩, els0⟩ ⟨k1, ch1, n1, v1, ⟨ao1, len1, cap1⟩, els1⟩ a b f2 _ (HA.out.new (T3.out.trans TT.out)) (HB.out.new (T3.out.trans TT.out)) MA.out MB.out Q2.out).mono ?_
  rintro e wN ⟨rfl, t4⟩
  have TT := Lib.hid (TT.out.trans t4)
  clear t4
  refine hK.out _ _ (fun _ => KEEP.out _ TT.out) (fun _ => trivial) ?_
  clear hK K
  try simp only [put_laid, List.set_cons_zero, List.set_cons_succ]
  refine stand_take (i := 12) (v := ?_) rfl (by kernel_rfl) (by kernel_rfl) (by kernel_rfl) (by rfl) (fun _ _ _ h => h) (by decide) (by decide) (by rfl) ?_ ?_
  rotate_left
  · (intro w; go_simp; try with_reducible rfl)
  dsimp only [List.set_cons_zero, List.set_cons_succ]
  refine stand_take (i := 13) (v := ?_) rfl (by kernel_rfl) (by kernel_rfl) (by kernel_rfl) (by rfl) (fun _ _ _ h => h) (by decide) (by decide) (by rfl) ?_ ?_
  rotate_left
  · (intro w; go_simp; try with_reducible rfl)
  dsimp only [List.set_cons_zero, List.set_cons_succ]
  refine stand_take (i := 14) (v := ?_) rfl (by kernel_rfl) (by kernel_rfl) (by kernel_rfl) (by rfl) (fun _ _ _ h => h) (by decide) (by decide) (by rfl) ?_ ?_
  rotate_left
  · (intro w; go_simp; try with_reducible rfl)
  dsimp only [List.set_cons_zero, List.set_cons_succ]
  refine stand_load3 (i := 15) (v := ?_) rfl (by kernel_rfl) (by kernel_rfl) (by kernel_rfl) (by rfl) (fun _ _ _ h => h) (by decide) (by decide) (by kernel_rfl) (by rfl) ?_ ?_
  rotate_left
  · (intro w hA; (try dsimp only at hA); go_simp; try with_reducible rfl)
  dsimp only [List.set_cons_zero, List.set_cons_succ]
  refine stand_load3 (i := 16) (v := ?_) rfl (by kernel_rfl) (by kernel_rfl) (by kernel_rfl) (by rfl) (fun _ _ _ h => h) (by decide) (by decide) (by kernel_rfl) (by rfl) ?_ ?_
  rotate_left
  · (intro w hA; (try dsimp only at hA); go_simp; try with_reducible rfl)
  dsimp only [List.set_cons_zero, List.set_cons_succ]
  refine stand_step (i := 17) (by kernel_rfl) rfl (fun K hK => ?_)
  go_simp
  refine (sameop_any ⟨k0, ch0, n0, v0, ⟨ao0, len0, cap0⟩, els0⟩ ⟨k0, ch0, n0, v0, ⟨ao0, len0, cap0⟩, els0⟩ a a true _ (HA.out.new (T3.out.trans TT.out)) (HA.out.new (T3.out.trans TT.out)) MA.out MA.out (sameO_refl a)).mono ?_
  rintro e wN ⟨rfl, t4⟩
  have TT := Lib.hid (TT.out.trans t4)
  clear t4
  refine hK.out _ _ (fun _ => KEEP.out _ TT.out) (fun _ => trivial) ?_
  clear hK K
  try simp only [put_laid, List.set_cons_zero, List.set_cons_succ]
  refine stand_take (i := 18) (v := ?_) rfl (by kernel_rfl) (by kernel_rfl) (by kernel_rfl) (by rfl) (fun _ _ _ h => h) (by decide) (by decide) (by rfl) ?_ ?_
  rotate_left
  · (intro w; go_simp; try with_reducible rfl)
  dsimp only [List.set_cons_zero, List.set_cons_succ]
  refine stand_take (i := 19) (v := ?_) rfl (by kernel_rfl) (by kernel_rfl) (by kernel_rfl) (by rfl) (fun _ _ _ h => h) (by decide) (by decide) (by rfl) ?_ ?_
  rotate_left
  · (intro w; go_simp; try with_reducible rfl)
  dsimp only [List.set_cons_zero, List.set_cons_succ]
  refine stand_done (by kernel_rfl) ?_
  go_wp2_with fail
  go_ret
  exact ⟨rfl, T3.out.trans TT.out⟩

end Go.Proofs.Ytaighbofekefkaa
