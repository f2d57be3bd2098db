/- The law WordsTells. -/
import Derived.Test.YtfghabjpcjcllaaDoorCText
import Derived.Test.YtfghabjpcjcllaaDoorCAlive
import Derived.Test.YtfghabjpcjcllaaDoorDGreat
namespace Go.Proofs.YtfghabjpcjcllaaDoor
open Go.RowKit
set_option linter.unusedVariables false

theorem size_next (w : World) (o : Obj) : (w.alloc o).heap.size = w.heap.size + 1 := by simp
set_option maxRecDepth 100000 in
set_option maxHeartbeats 4000000 in
theorem tells_any {s : Sl} {m : Nat} {p : List (List Opr)} (r : OpV) (a : Opr) (code case v n : Int) (ok : Bool) (w : World) (hP : RPlan w s p) (hn : p.length = m) (ha : ROp w r a) (hc : I64 code) (hk : I64 case) (hv : I64 v) (hnn : I64 n) (hG : Gl0 w) :
    Calls Tryd.prog 3 #[.slice s.ao m s.cap, r.val, .agg #[.int .i64 code, .int .i64 case, .int .i64 v, .bool ok, .int .i64 n]] w (Says w true) := by
  have hma : a.cases.length ≤ maxLen := by have h1 := ha.cs.ok.len; have h2 := ha.cs.ok.cap; have h3 := ha.cs.ok.max; omega
  unfold maxLen at hma
  have CG := Lib.hid (fun w (h : RPlan w s p) => great_any w h hn)
  have CA := Lib.hid (fun (hm : MildP p) w (h : RPlan w s p) hG => text_any w h hn hm hG)
  have CB := Lib.hid (fun (hm : MildP p) w (h : RPlan w s p) => rtext_any w h hn hm)
  have CO := Lib.hid (fun (hm : a.cases.length ≤ 1000000) w (h : ROp w r a) hG => op_any r a w h hm hG)
  have CP := Lib.hid (fun (hm : a.cases.length ≤ 1000000) w (h : ROp w r a) => ropt_any r a w h hm)
  have CR := Lib.hid (fun w hG => res_any code case v n ok w hc hk hv hnn hG)
  have CS := Lib.hid (fun w => rres_any code case v n ok w hc hk hv hnn)
  obtain ⟨ST, h_ST⟩ : ∃ S, bs (textS p) = S := ⟨_, rfl⟩
  obtain ⟨SO, h_SO⟩ : ∃ S, bs (opS a) = S := ⟨_, rfl⟩
  obtain ⟨SR, h_SR⟩ : ∃ S, bs (resT code case v ok n) = S := ⟨_, rfl⟩
  unfold GivesS at CA CB CO CP CR CS
  rw [h_ST] at CA CB
  rw [h_SO] at CO CP
  rw [h_SR] at CR CS
  clear h_ST h_SO h_SR hc hk hv hnn
  obtain ⟨ao, len, cap⟩ := s
  obtain ⟨k0, ch0, n0, v0, ⟨ao0, len0, cap0⟩, els0⟩ := r
  have hlen0 : len0 = a.cases.length := ha.cs.ok.len
  rw [← hlen0] at hma
  have HA := Lib.hid ha
  have HP := Lib.hid hP
  have L0 := Lib.hid hlen0
  have G := Lib.hid hG
  clear ha hlen0 hP hn hG
  unfold OpV.val Sl.val at CO CP ⊢
  unfold Says
  dsimp only at CO CP CA CB CG ⊢
  go_enter Tryd.func3, Tryd.ntmps3
  go_upto_region 1 with fail
  have C0 := (at6_new w k0 ch0 n0 v0 (.slice ao0 len0 cap0) els0 25).turn ((Turn.refl (fun _ => False) _).alloc (.cells #[.int .i64 code, .int .i64 case, .int .i64 v, .bool ok, .int .i64 n] 27)) id
  have C1 : Blk ((w.alloc (.cells #[.int .i64 k0, .int .i64 ch0, .int .i64 n0, .int .i64 v0, .slice ao0 len0 cap0, .bool els0] 25)).alloc (.cells #[.int .i64 code, .int .i64 case, .int .i64 v, .bool ok, .int .i64 n] 27)) (w.alloc (.cells #[.int .i64 k0, .int .i64 ch0, .int .i64 n0, .int .i64 v0, .slice ao0 len0 cap0, .bool els0] 25)).heap.size 27 [.int .i64 code, .int .i64 case, .int .i64 v, .bool ok, .int .i64 n] := blk_new (w.alloc (.cells #[.int .i64 k0, .int .i64 ch0, .int .i64 n0, .int .i64 v0, .slice ao0 len0 cap0, .bool els0] 25)) _ 27
  rw [size_next] at C1
  have T0 := Lib.hid (((Turn.refl (fun _ => False) w).alloc (.cells #[.int .i64 k0, .int .i64 ch0, .int .i64 n0, .int .i64 v0, .slice ao0 len0 cap0, .bool els0] 25)).alloc (.cells #[.int .i64 code, .int .i64 case, .int .i64 v, .bool ok, .int .i64 n] 27))
  obtain ⟨BA, hBA⟩ : ∃ b, w.heap.size = b := ⟨_, rfl⟩
  obtain ⟨BC, hBC⟩ : ∃ b, w.heap.size + 1 = b := ⟨_, rfl⟩
  rw [hBC] at C1
  rw [hBA] at C0
  simp only [hBC]
  simp only [hBA]
  generalize (w.alloc (.cells #[.int .i64 k0, .int .i64 ch0, .int .i64 n0, .int .i64 v0, .slice ao0 len0 cap0, .bool els0] 25)).alloc (.cells #[.int .i64 code, .int .i64 case, .int .i64 v, .bool ok, .int .i64 n] 27) = w2 at C0 C1 T0 ⊢
  clear hBA hBC
  have C0 := Lib.hid C0
  have C1 := Lib.hid C1
  go_wp2_with fail
  refine (alive_any _ (G.out.new T0.out)).mono ?_
  rintro e w3 ⟨rfl, t3⟩
  have C0 := Lib.hid (C0.out.turn t3 id)
  have C1 := Lib.hid (C1.out.new t3)
  have T3 := Lib.hid (T0.out.trans t3)
  clear t3
  obtain ⟨c0, c1, c2, c3, c4, c5⟩ := C0.out
  go_wp2_with fail
  refine (CG.out _ (HP.out.new T3.out)).mono ?_
  rintro e w4 ⟨g, rfl, hg, t4⟩
  have C0 := Lib.hid (C0.out.turn t4 id)
  have C1 := Lib.hid (C1.out.new t4)
  have T4 := Lib.hid (T3.out.trans t4)
  have HG := Lib.hid hg
  clear t4 c0 c1 c2 c3 c4 c5 hg
  obtain ⟨c0, c1, c2, c3, c4, c5⟩ := C0.out
  cases g
  case true =>
    go_wp2_with fail
    go_ret
    exact ⟨rfl, T4.out⟩
  rcases Nat.lt_or_ge 100 len0 with hz0 | hz0
  · go_wp2_with fail
    go_ret
    exact ⟨rfl, T4.out⟩
  have MA := Lib.hid (show a.cases.length ≤ 1000000 by have := L0.out; omega)
  have MP := Lib.hid (HG.out rfl).mild
  have d0 := C1.out.c 0 rfl
  have d1 := C1.out.c 1 rfl
  have d2 := C1.out.c 2 rfl
  have d3 := C1.out.c 3 rfl
  have d4 := C1.out.c 4 rfl
  go_upto_region 5 with fail
  have TD := Lib.hid (Turn.refl (fun _ => False) w4).drew
  have TT := TD
  have KEEP := Lib.hid (show ∀ w', Turn (fun _ => False) w4 w' →
    (w'.cell? ⟨BA, 0, none⟩ = some (.int .i64 k0) ∧ w'.cell? ⟨BA, 1, none⟩ = some (.int .i64 ch0) ∧ w'.cell? ⟨BA, 2, none⟩ = some (.int .i64 n0) ∧ w'.cell? ⟨BA, 3, none⟩ = some (.int .i64 v0) ∧ w'.cell? ⟨BA, 4, none⟩ = some (.slice ao0 len0 cap0) ∧ w'.cell? ⟨BA, 5, none⟩ = some (.bool els0) ∧ w'.cell? ⟨BC, 0, none⟩ = some (.int .i64 code) ∧ w'.cell? ⟨BC, 1, none⟩ = some (.int .i64 case) ∧ w'.cell? ⟨BC, 2, none⟩ = some (.int .i64 v) ∧ w'.cell? ⟨BC, 3, none⟩ = some (.bool ok) ∧ w'.cell? ⟨BC, 4, none⟩ = some (.int .i64 n))
    from fun w' t => ⟨t.cell id c0, t.cell id c1, t.cell id c2, t.cell id c3, t.cell id c4, t.cell id c5, t.cell id d0, t.cell id d1, t.cell id d2, t.cell id d3, t.cell id d4⟩)
  clear c0 c1 c2 c3 c4 c5 d0 d1 d2 d3 d4
  refine stand_start (by kernel_rfl) 99 (fun w' =>
    (w'.cell? ⟨BA, 0, none⟩ = some (.int .i64 k0) ∧ w'.cell? ⟨BA, 1, none⟩ = some (.int .i64 ch0) ∧ w'.cell? ⟨BA, 2, none⟩ = some (.int .i64 n0) ∧ w'.cell? ⟨BA, 3, none⟩ = some (.int .i64 v0) ∧ w'.cell? ⟨BA, 4, none⟩ = some (.slice ao0 len0 cap0) ∧ w'.cell? ⟨BA, 5, none⟩ = some (.bool els0) ∧ w'.cell? ⟨BC, 0, none⟩ = some (.int .i64 code) ∧ w'.cell? ⟨BC, 1, none⟩ = some (.int .i64 case) ∧ w'.cell? ⟨BC, 2, none⟩ = some (.int .i64 v) ∧ w'.cell? ⟨BC, 3, none⟩ = some (.bool ok) ∧ w'.cell? ⟨BC, 4, none⟩ = some (.int .i64 n))
    ) 99 (fun w' => True) (KEEP.out _ TD.out) trivial ?_
  refine stand_take (i := 0) (v := ?_) rfl (by kernel_rfl) (by kernel_rfl) (by kernel_rfl) (by rfl) (fun _ _ _ h => h) (by decide) (by decide) (by rfl) ?_ ?_
  rotate_left
  · (intro w; go_simp; try with_reducible rfl)
  dsimp only [List.set_cons_zero, List.set_cons_succ]
  refine stand_take (i := 2) (v := ?_) rfl (by kernel_rfl) (by kernel_rfl) (by kernel_rfl) (by rfl) (fun _ _ _ h => h) (by decide) (by decide) (by rfl) ?_ ?_
  rotate_left
  · (intro w; go_simp; try with_reducible rfl)
  dsimp only [List.set_cons_zero, List.set_cons_succ]
  refine stand_step (i := 1) (by kernel_rfl) rfl (fun K hK => ?_)
  go_simp
  refine (CA.out MP.out _ (HP.out.new (T4.out.trans TT.out)) (G.out.new (T4.out.trans TT.out))).mono ?_
  rintro e wN ⟨rfl, t4⟩
  have TT := Lib.hid (TT.out.trans t4)
  clear t4
  refine hK.out _ _ (fun _ => KEEP.out _ TT.out) (fun _ => trivial) ?_
  clear hK K
  try simp only [put_laid, List.set_cons_zero, List.set_cons_succ]
  refine stand_step (i := 3) (by kernel_rfl) rfl (fun K hK => ?_)
  go_simp
  refine (CB.out MP.out _ (HP.out.new (T4.out.trans TT.out))).mono ?_
  rintro e wN ⟨rfl, t4⟩
  have TT := Lib.hid (TT.out.trans t4)
  clear t4
  refine hK.out _ _ (fun _ => KEEP.out _ TT.out) (fun _ => trivial) ?_
  clear hK K
  try simp only [put_laid, List.set_cons_zero, List.set_cons_succ]
  refine stand_take (i := 4) (v := ?_) rfl (by kernel_rfl) (by kernel_rfl) (by kernel_rfl) (by rfl) (fun _ _ _ h => h) (by decide) (by decide) (by rfl) ?_ ?_
  rotate_left
  · (intro w; go_simp; try with_reducible rfl)
  dsimp only [List.set_cons_zero, List.set_cons_succ]
  refine stand_take (i := 5) (v := ?_) rfl (by kernel_rfl) (by kernel_rfl) (by kernel_rfl) (by rfl) (fun _ _ _ h => h) (by decide) (by decide) (by rfl) ?_ ?_
  rotate_left
  · (intro w; go_simp; try with_reducible rfl)
  dsimp only [List.set_cons_zero, List.set_cons_succ]
  refine stand_load3 (i := 6) (v := ?_) rfl (by kernel_rfl) (by kernel_rfl) (by kernel_rfl) (by rfl) (fun _ _ _ h => h) (by decide) (by decide) (by kernel_rfl) (by rfl) ?_ ?_
  rotate_left
  · (intro w hA; (try dsimp only at hA); go_simp; try with_reducible rfl)
  dsimp only [List.set_cons_zero, List.set_cons_succ]
  refine stand_load3 (i := 8) (v := ?_) rfl (by kernel_rfl) (by kernel_rfl) (by kernel_rfl) (by rfl) (fun _ _ _ h => h) (by decide) (by decide) (by kernel_rfl) (by rfl) ?_ ?_
  rotate_left
  · (intro w hA; (try dsimp only at hA); go_simp; try with_reducible rfl)
  dsimp only [List.set_cons_zero, List.set_cons_succ]
  refine stand_step (i := 7) (by kernel_rfl) rfl (fun K hK => ?_)
  go_simp
  refine (CO.out MA.out _ (HA.out.new (T4.out.trans TT.out)) (G.out.new (T4.out.trans TT.out))).mono ?_
  rintro e wN ⟨rfl, t4⟩
  have TT := Lib.hid (TT.out.trans t4)
  clear t4
  refine hK.out _ _ (fun _ => KEEP.out _ TT.out) (fun _ => trivial) ?_
  clear hK K
  try simp only [put_laid, List.set_cons_zero, List.set_cons_succ]
  refine stand_step (i := 9) (by kernel_rfl) rfl (fun K hK => ?_)
  go_simp
  refine (CP.out MA.out _ (HA.out.new (T4.out.trans TT.out))).mono ?_
  rintro e wN ⟨rfl, t4⟩
  have TT := Lib.hid (TT.out.trans t4)
  clear t4
  refine hK.out _ _ (fun _ => KEEP.out _ TT.out) (fun _ => trivial) ?_
  clear hK K
  try simp only [put_laid, List.set_cons_zero, List.set_cons_succ]
  refine stand_take (i := 10) (v := ?_) rfl (by kernel_rfl) (by kernel_rfl) (by kernel_rfl) (by rfl) (fun _ _ _ h => h) (by decide) (by decide) (by rfl) ?_ ?_
  rotate_left
  · (intro w; go_simp; try with_reducible rfl)
  dsimp only [List.set_cons_zero, List.set_cons_succ]
  refine stand_take (i := 11) (v := ?_) rfl (by kernel_rfl) (by kernel_rfl) (by kernel_rfl) (by rfl) (fun _ _ _ h => h) (by decide) (by decide) (by rfl) ?_ ?_
  rotate_left
  · (intro w; go_simp; try with_reducible rfl)
  dsimp only [List.set_cons_zero, List.set_cons_succ]
  refine stand_take (i := 12) (v := ?_) rfl (by kernel_rfl) (by kernel_rfl) (by kernel_rfl) (by rfl) (fun _ _ _ h => h) (by decide) (by decide) (by rfl) ?_ ?_
  rotate_left
  · (intro w; go_simp; try with_reducible rfl)
  dsimp only [List.set_cons_zero, List.set_cons_succ]
  refine stand_load3 (i := 13) (v := ?_) rfl (by kernel_rfl) (by kernel_rfl) (by kernel_rfl) (by rfl) (fun _ _ _ h => h) (by decide) (by decide) (by kernel_rfl) (by rfl) ?_ ?_
  rotate_left
  · (intro w hA; (try dsimp only at hA); go_simp; try with_reducible rfl)
  dsimp only [List.set_cons_zero, List.set_cons_succ]
  refine stand_load3 (i := 15) (v := ?_) rfl (by kernel_rfl) (by kernel_rfl) (by kernel_rfl) (by rfl) (fun _ _ _ h => h) (by decide) (by decide) (by kernel_rfl) (by rfl) ?_ ?_
  rotate_left
  · (intro w hA; (try dsimp only at hA); go_simp; try with_reducible rfl)
  dsimp only [List.set_cons_zero, List.set_cons_succ]
  refine stand_step (i := 14) (by kernel_rfl) rfl (fun K hK => ?_)
  go_simp
  refine (CR.out _ (G.out.new (T4.out.trans TT.out))).mono ?_
  rintro e wN ⟨rfl, t4⟩
  have TT := Lib.hid (TT.out.trans t4)
  clear t4
  refine hK.out _ _ (fun _ => KEEP.out _ TT.out) (fun _ => trivial) ?_
  clear hK K
  try simp only [put_laid, List.set_cons_zero, List.set_cons_succ]
  refine stand_step (i := 16) (by kernel_rfl) rfl (fun K hK => ?_)
  go_simp
  refine (CS.out _).mono ?_
  rintro e wN ⟨rfl, t4⟩
  have TT := Lib.hid (TT.out.trans t4)
  clear t4
  refine hK.out _ _ (fun _ => KEEP.out _ TT.out) (fun _ => trivial) ?_
  clear hK K
  try simp only [put_laid, List.set_cons_zero, List.set_cons_succ]
  refine stand_take (i := 17) (v := ?_) rfl (by kernel_rfl) (by kernel_rfl) (by kernel_rfl) (by rfl) (fun _ _ _ h => h) (by decide) (by decide) (by rfl) ?_ ?_
  rotate_left
  · (intro w; go_simp; try with_reducible rfl)
  dsimp only [List.set_cons_zero, List.set_cons_succ]
  refine stand_take (i := 18) (v := ?_) rfl (by kernel_rfl) (by kernel_rfl) (by kernel_rfl) (by rfl) (fun _ _ _ h => h) (by decide) (by decide) (by rfl) ?_ ?_
  rotate_left
  · (intro w; go_simp; try with_reducible rfl)
  dsimp only [List.set_cons_zero, List.set_cons_succ]
  refine stand_take (i := 19) (v := ?_) rfl (by kernel_rfl) (by kernel_rfl) (by kernel_rfl) (by rfl) (fun _ _ _ h => h) (by decide) (by decide) (by rfl) ?_ ?_
  rotate_left
  · (intro w; go_simp; try with_reducible rfl)
  dsimp only [List.set_cons_zero, List.set_cons_succ]
  refine stand_done (by kernel_rfl) ?_
  go_wp2_with fail
  go_ret
  exact ⟨rfl, T4.out.trans TT.out⟩
end Go.Proofs.YtfghabjpcjcllaaDoor
