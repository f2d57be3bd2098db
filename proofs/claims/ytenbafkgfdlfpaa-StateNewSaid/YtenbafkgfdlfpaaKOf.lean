/- The code's Of, where there is no channel yet. -/
import Derived.Test.YtenbafkgfdlfpaaKOfA
namespace Go.Proofs.Ytenbafkgfdlfpaa
open Go.RowKit
set_option linter.unusedVariables false

set_option maxRecDepth 100000 in
set_option maxHeartbeats 8000000 in
theorem of_any {D : Nat → Prop} {x : SV} {n : Nat} (w : World) (hx : RS D w x) (ho : OfOk x.s n) :
    Calls Try.prog 11 #[x.val] w fun e w' => ∃ y tag, e = .returned (ptr y.p) ∧ IsW w.heap.size tag w' y ∧ y.st = x.s ∧ (y.G.length = n ∧ y.B.length = n) ∧ Turn (fun _ => False) w w' := by
  have HX := Lib.hid hx
  have HO := Lib.hid ho
  obtain ⟨X, hX1, hX2, hX3⟩ := hx.gs.has
  have hXn : X.length = n := by rw [← ho.gl, ← hX1, List.length_map]
  have HX1 := Lib.hid hX1
  have HX2 := Lib.hid hX2
  have HX3 := Lib.hid hX3
  have HXN := Lib.hid hXn
  have hgl : x.gs.len = n := hx.gs.ok.len.trans ho.gl
  have HGL := Lib.hid hgl
  have hn8 := ho.n8
  have hdl : x.dr.len = x.s.draws.length := hx.dr.ok.len
  have HDL := Lib.hid hdl
  have hcl : x.ch.len = 0 := by rw [hx.ch.ok.len, ho.chans]; rfl
  have HCL := Lib.hid hcl
  have HCAL := Lib.hid (show x.ca.len = x.s.pool.n from hx.ca.ca)
  have HMIL := Lib.hid (show x.mi.len = (x.s.pool.M x.s.pool.n).length from hx.ca.mi)
  have HSD : Hid (Has Sd.cs 7 w x.sd.ao x.s.sudogs ∧ x.s.sudogs.length = x.sd.len ∧ (x.sd.ao = none → x.sd.cap = 0) ∧ x.sd.len ≤ 1000000) := Lib.hid (by
    obtain ⟨Z, h1, h2, _⟩ := hx.sd.has
    rw [List.map_id] at h1
    subst h1
    exact ⟨h2, hx.sd.ok.len.symm, hx.sd.ok.nil, by rw [hx.sd.ok.len]; exact Nat.le_trans ho.sd (by decide)⟩)
  have HDN : Hid (Has Mk.cs 13 w x.dn.ao x.s.done ∧ x.s.done.length = x.dn.len ∧ (x.dn.ao = none → x.dn.cap = 0) ∧ x.dn.len ≤ 1000000) := Lib.hid (by
    obtain ⟨Z, h1, h2, _⟩ := hx.dn.has
    rw [List.map_id] at h1
    subst h1
    exact ⟨h2, hx.dn.ok.len.symm, hx.dn.ok.nil, by rw [hx.dn.ok.len]; exact Nat.le_trans ho.dn (by decide)⟩)
  clear hx ho hX1 hX2 hX3 hXn hgl hdl hcl
  go_enter Try.func11, Try.ntmps11
  go_upto_region 1 with fail
  refine at_world (φ := fun w' => Hid (Boxes w w' [(w.heap.size, 41, x.cs)])) (Lib.hid (boxes1 w 41 x.cs)) ?_
  intro w1 B
  generalize hs0 : w.heap.size = s0 at B ⊢
  have HW1 := Lib.hid (show s0 < w1.heap.size from (B.out.at 0 rfl).lt)
  have T01 := Lib.hid B.out.t
  have F0 : ∀ k, w1.cell? ⟨s0, k, none⟩ = x.cs[k]? := B.out.f 0 rfl
  have HB1 : Hid (Blk w1 s0 41 x.cs) := Lib.hid (B.out.at 0 rfl)
  clear B
  refine stand_start (by kernel_rfl) 99 (fun w' => ∀ k, w'.cell? ⟨s0, k, none⟩ = x.cs[k]?) 99 (fun _ => True) F0 trivial ?_
  have T1 := Lib.hid (T01.out.drew)
  have HB : Hid (Blk w1.drew s0 41 x.cs) := Lib.hid (HB1.out.new (Turn.refl _ _).drew)
  have HW2 : Hid (s0 < w1.drew.heap.size) := HW1
  clear F0 T01 HB1 HW1
  generalize w1.drew = wd at T1 HB HW2 ⊢
  refine stand_take (i := 0) (v := ?_) rfl (by kernel_rfl) (by kernel_rfl) (by kernel_rfl) (by rfl) (fun _ _ _ h => h) (by decide) (by decide) (by rfl) ?_ ?_
  rotate_left
  · (intro w; go_simp; try with_reducible rfl)
  dsimp only [List.set_cons_zero, List.set_cons_succ]
  refine stand_load3 (i := 1) (v := .agg [.int .i64 (x.s.pool.size : Int), .int .i64 (x.s.pool.most : Int)].toArray) rfl (by kernel_rfl) (by kernel_rfl) (by kernel_rfl) (by rfl) (fun _ _ _ h => h) (by decide) (by decide) (by kernel_rfl) (by rfl) (fun w hA => exec_at (cfg_at hA) t_config rfl rfl) ?_
  dsimp only [List.set_cons_zero, List.set_cons_succ]
  refine stand_take (i := 2) (v := ?_) rfl (by kernel_rfl) (by kernel_rfl) (by kernel_rfl) (by rfl) (fun _ _ _ h => h) (by decide) (by decide) (by rfl) ?_ ?_
  rotate_left
  · (intro w; go_simp; try with_reducible rfl)
  dsimp only [List.set_cons_zero, List.set_cons_succ]
  refine stand_load3 (i := 3) (v := ?_) rfl (by kernel_rfl) (by kernel_rfl) (by kernel_rfl) (by rfl) (fun _ _ _ h => h) (by decide) (by decide) (by kernel_rfl) (by rfl) ?_ ?_
  rotate_left
  · (intro w hA; (try dsimp only at hA); go_simp; try with_reducible rfl)
  dsimp only [List.set_cons_zero, List.set_cons_succ]
  refine stand_take (i := 4) (v := ?_) rfl (by kernel_rfl) (by kernel_rfl) (by kernel_rfl) (by rfl) (fun _ _ _ h => h) (by decide) (by decide) (by rfl) ?_ ?_
  rotate_left
  · (intro w; go_simp; try with_reducible rfl)
  dsimp only [List.set_cons_zero, List.set_cons_succ]
  refine stand_load3 (i := 5) (v := ?_) rfl (by kernel_rfl) (by kernel_rfl) (by kernel_rfl) (by rfl) (fun _ _ _ h => h) (by decide) (by decide) (by kernel_rfl) (by rfl) ?_ ?_
  rotate_left
  · (intro w hA; (try dsimp only at hA); go_simp; try with_reducible rfl)
  dsimp only [List.set_cons_zero, List.set_cons_succ]
  refine stand_take (i := 7) (v := ?_) rfl (by kernel_rfl) (by kernel_rfl) (by kernel_rfl) (by rfl) (fun _ _ _ h => h) (by decide) (by decide) (by rfl) ?_ ?_
  rotate_left
  · (intro w; go_simp; try with_reducible rfl)
  dsimp only [List.set_cons_zero, List.set_cons_succ]
  refine stand_load3 (i := 8) (v := ?_) rfl (by kernel_rfl) (by kernel_rfl) (by kernel_rfl) (by rfl) (fun _ _ _ h => h) (by decide) (by decide) (by kernel_rfl) (by rfl) ?_ ?_
  rotate_left
  · (intro w hA; (try dsimp only at hA); go_simp; try with_reducible rfl)
  dsimp only [List.set_cons_zero, List.set_cons_succ]
  refine stand_take (i := 9) (v := ?_) rfl (by kernel_rfl) (by kernel_rfl) (by kernel_rfl) (by rfl) (fun _ _ _ h => h) (by decide) (by decide) (by rfl) ?_ ?_
  rotate_left
  · (intro w; go_simp; try with_reducible rfl)
  dsimp only [List.set_cons_zero, List.set_cons_succ]
  refine stand_take (i := 11) (v := ?_) rfl (by kernel_rfl) (by kernel_rfl) (by kernel_rfl) (by rfl) (fun _ _ _ h => h) (by decide) (by decide) (by rfl) ?_ ?_
  rotate_left
  · (intro w; go_simp; try with_reducible rfl)
  dsimp only [List.set_cons_zero, List.set_cons_succ]
  refine stand_load3 (i := 12) (v := ?_) rfl (by kernel_rfl) (by kernel_rfl) (by kernel_rfl) (by rfl) (fun _ _ _ h => h) (by decide) (by decide) (by kernel_rfl) (by rfl) ?_ ?_
  rotate_left
  · (intro w hA; (try dsimp only at hA); go_simp; try with_reducible rfl)
  dsimp only [List.set_cons_zero, List.set_cons_succ]
  refine stand_take (i := 13) (v := ?_) rfl (by kernel_rfl) (by kernel_rfl) (by kernel_rfl) (by rfl) (fun _ _ _ h => h) (by decide) (by decide) (by rfl) ?_ ?_
  rotate_left
  · (intro w; go_simp; try with_reducible rfl)
  dsimp only [List.set_cons_zero, List.set_cons_succ]
  refine stand_take (i := 15) (v := ?_) rfl (by kernel_rfl) (by kernel_rfl) (by kernel_rfl) (by rfl) (fun _ _ _ h => h) (by decide) (by decide) (by rfl) ?_ ?_
  rotate_left
  · (intro w; go_simp; try with_reducible rfl)
  dsimp only [List.set_cons_zero, List.set_cons_succ]
  refine stand_load3 (i := 16) (v := ?_) rfl (by kernel_rfl) (by kernel_rfl) (by kernel_rfl) (by rfl) (fun _ _ _ h => h) (by decide) (by decide) (by kernel_rfl) (by rfl) ?_ ?_
  rotate_left
  · (intro w hA; (try dsimp only at hA); go_simp; try with_reducible rfl)
  dsimp only [List.set_cons_zero, List.set_cons_succ]
  refine stand_take (i := 18) (v := ?_) rfl (by kernel_rfl) (by kernel_rfl) (by kernel_rfl) (by rfl) (fun _ _ _ h => h) (by decide) (by decide) (by rfl) ?_ ?_
  rotate_left
  · (intro w; go_simp; try with_reducible rfl)
  dsimp only [List.set_cons_zero, List.set_cons_succ]
  refine stand_load3 (i := 19) (v := ?_) rfl (by kernel_rfl) (by kernel_rfl) (by kernel_rfl) (by rfl) (fun _ _ _ h => h) (by decide) (by decide) (by kernel_rfl) (by rfl) ?_ ?_
  rotate_left
  · (intro w hA; (try dsimp only at hA); go_simp; try with_reducible rfl)
  dsimp only [List.set_cons_zero, List.set_cons_succ]
  refine stand_take (i := 21) (v := ?_) rfl (by kernel_rfl) (by kernel_rfl) (by kernel_rfl) (by rfl) (fun _ _ _ h => h) (by decide) (by decide) (by rfl) ?_ ?_
  rotate_left
  · (intro w; go_simp; try with_reducible rfl)
  dsimp only [List.set_cons_zero, List.set_cons_succ]
  refine stand_load3 (i := 22) (v := ?_) rfl (by kernel_rfl) (by kernel_rfl) (by kernel_rfl) (by rfl) (fun _ _ _ h => h) (by decide) (by decide) (by kernel_rfl) (by rfl) ?_ ?_
  rotate_left
  · (intro w hA; (try dsimp only at hA); go_simp; try with_reducible rfl)
  dsimp only [List.set_cons_zero, List.set_cons_succ]
  refine stand_take (i := 24) (v := ?_) rfl (by kernel_rfl) (by kernel_rfl) (by kernel_rfl) (by rfl) (fun _ _ _ h => h) (by decide) (by decide) (by rfl) ?_ ?_
  rotate_left
  · (intro w; go_simp; try with_reducible rfl)
  dsimp only [List.set_cons_zero, List.set_cons_succ]
  refine stand_load3 (i := 25) (v := ?_) rfl (by kernel_rfl) (by kernel_rfl) (by kernel_rfl) (by rfl) (fun _ _ _ h => h) (by decide) (by decide) (by kernel_rfl) (by rfl) ?_ ?_
  rotate_left
  · (intro w hA; (try dsimp only at hA); go_simp; try with_reducible rfl)
  dsimp only [List.set_cons_zero, List.set_cons_succ]
  have HLEN := HGL.out
  have HLEN2 := HCL.out
  have HLEN3 := HDL.out
  rw [HLEN, HLEN2, HLEN3]
  clear HLEN HLEN2 HLEN3
  refine stand_step (i := 6) (by kernel_rfl) rfl (fun K hK => ?_)
  go_simp
  refine (copiedgs_some wd HGL.out HX.out.gs.ok.nil (HX2.out.new T1.out) (fun z hz => (HX3.out z hz).new T1.out) HXN.out (by omega) (fun z hz => HO.out.tame z.g (by rw [← HX1.out]; exact List.mem_map_of_mem hz))).mono ?_
  rintro e w2 ⟨⟨ga, gl, gc⟩, Y, rfl, hs2, o2, hY, hC, t2⟩
  have hs2' : n = gl := hs2.symm
  subst hs2'
  have HB2 := Lib.hid (HB.out.new t2)
  refine hK.out _ _ (fun _ => blk_f HB2.out) (fun _ => trivial) ?_
  clear hK K
  dsimp only [put_laid, List.set_cons_zero, List.set_cons_succ]
  have O2 := Lib.hid o2
  have HY := Lib.hid hY
  have HC := Lib.hid hC
  have T2 := Lib.hid t2
  clear o2 hs2 hY hC t2 HB
  refine stand_step (i := 10) (by kernel_rfl) rfl (fun K hK => ?_)
  go_simp
  refine (C8.new_any (k := (n : Int)) w2 (by omega)).mono ?_
  rintro e w3 ⟨bp, bv, rfl, hb3, t3⟩
  have HB3 := Lib.hid (HB2.out.new t3)
  refine hK.out _ _ (fun _ => blk_f HB3.out) (fun _ => trivial) ?_
  clear hK K
  try simp only [put_laid, List.set_cons_zero, List.set_cons_succ]
  have B3 := Lib.hid hb3
  have T3 := Lib.hid t3
  clear hb3 t3 HB2
  refine stand_step (i := 14) (by kernel_rfl) rfl (fun K hK => ?_)
  go_simp
  refine (C7.new_any (k := 0) w3 (by decide)).mono ?_
  rintro e w4 ⟨lp, lv, rfl, hl4, t4⟩
  have HB4 := Lib.hid (HB3.out.new t4)
  refine hK.out _ _ (fun _ => blk_f HB4.out) (fun _ => trivial) ?_
  clear hK K
  try simp only [put_laid, List.set_cons_zero, List.set_cons_succ]
  have L4 := Lib.hid hl4
  have T4 := Lib.hid t4
  clear hl4 t4 HB3
  have T14 := Lib.hid (((T1.out.trans T2.out).trans T3.out).trans T4.out)
  refine stand_step (i := 17) (by kernel_rfl) rfl (fun K hK => ?_)
  go_simp
  refine (cpsd_any w4 HSD.out.2.1 HSD.out.2.2.2 HSD.out.2.2.1 (HSD.out.1.new T14.out)).mono ?_
  rintro e w5 ⟨⟨sa, sl, sc⟩, rfl, hsl, o5, t5⟩
  have hsl' : sl = x.sd.len := hsl
  subst hsl'
  have HB5 := Lib.hid (HB4.out.new t5)
  refine hK.out _ _ (fun _ => blk_f HB5.out) (fun _ => trivial) ?_
  clear hK K
  dsimp only [put_laid, List.set_cons_zero, List.set_cons_succ]
  have O5 := Lib.hid o5
  have T5 := Lib.hid t5
  clear hsl o5 t5 HB4
  have T15 := Lib.hid (T14.out.trans T5.out)
  refine stand_step (i := 20) (by kernel_rfl) rfl (fun K hK => ?_)
  go_simp
  refine (C1.new_any w5 (HX.out.dr.has.turn T15.out (fun _ _ => id)) HO.out.dr.1 HO.out.dr.2).mono ?_
  rintro e w6 ⟨dp, dg, rfl, hd6, hdp, hdg, t6⟩
  have HB6 := Lib.hid (HB5.out.new t6)
  refine hK.out _ _ (fun _ => blk_f HB6.out) (fun _ => trivial) ?_
  clear hK K
  try simp only [put_laid, List.set_cons_zero, List.set_cons_succ]
  have D6 := Lib.hid (And.intro hd6 (And.intro hdp hdg))
  have T6 := Lib.hid t6
  clear hd6 hdp hdg t6 HB5
  have T16 := Lib.hid (T15.out.trans T6.out)
  refine stand_step (i := 23) (by kernel_rfl) rfl (fun K hK => ?_)
  go_simp
  refine (cpu16_any w6 rfl (Nat.le_trans HO.out.dr.1 (by decide)) HX.out.dr.ok.nil (HX.out.dr.has.turn T16.out (fun _ _ => id))).mono ?_
  rintro e w7 ⟨⟨ra, rl, rc⟩, rfl, hrl, o7, t7⟩
  have hrl' : rl = x.s.draws.length := hrl
  subst hrl'
  have HB7 := Lib.hid (HB6.out.new t7)
  refine hK.out _ _ (fun _ => blk_f HB7.out) (fun _ => trivial) ?_
  clear hK K
  dsimp only [put_laid, List.set_cons_zero, List.set_cons_succ]
  have O7 := Lib.hid o7
  have T7 := Lib.hid t7
  clear hrl o7 t7 HB6
  have T17 := Lib.hid (T16.out.trans T7.out)
  refine stand_step (i := 26) (by kernel_rfl) rfl (fun K hK => ?_)
  go_simp
  refine (cpmk_any w7 HDN.out.2.1 HDN.out.2.2.2 HDN.out.2.2.1 (HDN.out.1.new T17.out)).mono ?_
  rintro e w8 ⟨⟨na, nl, nc⟩, rfl, hnl, o8, t8⟩
  have hnl' : nl = x.dn.len := hnl
  subst hnl'
  have HB8 := Lib.hid (HB7.out.new t8)
  refine hK.out _ _ (fun _ => blk_f HB8.out) (fun _ => trivial) ?_
  clear hK K
  dsimp only [put_laid, List.set_cons_zero, List.set_cons_succ]
  have O8 := Lib.hid o8
  have T8 := Lib.hid t8
  clear hnl o8 t8 HB7
  refine stand_take (i := 27) (v := ?_) rfl (by kernel_rfl) (by kernel_rfl) (by kernel_rfl) (by rfl) (fun _ _ _ h => h) (by decide) (by decide) (by rfl) ?_ ?_
  rotate_left
  · (intro w; go_simp; try with_reducible rfl)
  dsimp only [List.set_cons_zero, List.set_cons_succ]
  refine stand_step (i := 28) (by kernel_rfl) rfl (fun K hK => ?_)
  go_simp
  refine hK.out _ _ (fun _ => blk_f (HB8.out.new ((Turn.refl _ _).alloc _))) (fun _ => trivial) ?_
  clear hK K
  try simp only [put_laid, List.set_cons_zero, List.set_cons_succ]
  refine stand_take (i := 29) (v := ?_) rfl (by kernel_rfl) (by kernel_rfl) (by kernel_rfl) (by rfl) (fun _ _ _ h => h) (by decide) (by decide) (by rfl) ?_ ?_
  rotate_left
  · (intro w; go_simp; try with_reducible rfl)
  dsimp only [List.set_cons_zero, List.set_cons_succ]
  refine stand_done (by kernel_rfl) ?_
  have O8' := O8.out.lt
  obtain ⟨p, hp⟩ : ∃ p, w8.heap.size = p := ⟨_, rfl⟩
  refine at_then (φ := fun w' => Hid (Blk w' p 75 [.int .i64 (x.s.pool.size : Int), .int .i64 (x.s.pool.most : Int), .int .i64 x.s.step, (⟨ga, n, gc⟩ : Sl).val, ptr bp, zSl.val, zSl.val, ptr lp, .pointer none, (⟨sa, x.sd.len, sc⟩ : Sl).val, .pointer none, ptr dp, (⟨ra, x.s.draws.length, rc⟩ : Sl).val, (⟨na, x.dn.len, nc⟩ : Sl).val]) ∧ Hid (Turn (fun _ => False) w8 w')) ⟨Lib.hid (by rw [← hp]; exact blk_new w8 _ 75), Lib.hid ((Turn.refl _ w8).alloc _)⟩ ?_
  rintro w9 ⟨P9, T9⟩
  rw [hp]
  obtain ⟨y, hy⟩ : ∃ y : WV, y = ⟨p, x.s.step, ⟨ga, n, gc⟩, Y, bp, bv, C8.allRun (C8.newN n), lp, lv, List.replicate (C7.newN 0) (-1), 0, 0, 0, ⟨0, 0, fun _ => []⟩, ⟨sa, x.sd.len, sc⟩, x.s.sudogs, 0, 0, fun _ => ⟨none, 0, []⟩, x.s.pool, dp, dg, x.s.draws, 0, ⟨ra, x.s.draws.length, rc⟩, ⟨na, x.dn.len, nc⟩, x.s.done⟩ := ⟨_, rfl⟩
  obtain ⟨cs, hcs⟩ : ∃ cs : List Value, cs = [.int .i64 (x.s.pool.size : Int), .int .i64 (x.s.pool.most : Int), .int .i64 x.s.step, (⟨ga, n, gc⟩ : Sl).val, ptr bp, zSl.val, zSl.val, ptr lp, .pointer none, (⟨sa, x.sd.len, sc⟩ : Sl).val, .pointer none, ptr dp, (⟨ra, x.s.draws.length, rc⟩ : Sl).val, (⟨na, x.dn.len, nc⟩ : Sl).val] := ⟨_, rfl⟩
  have P9' : Hid (Blk w9 p 75 cs) := Lib.hid (by rw [hcs]; exact P9.out)
  have HA : Hid (Asm s0 w2.heap.size w3.heap.size w4.heap.size w5.heap.size w6.heap.size w7.heap.size w8.heap.size y cs w9) := Lib.hid (by rw [hy]; exact asm_made hp HW2.out T2.out T3.out T4.out T5.out T6.out T7.out T8.out T9.out P9'.out O2.out HC.out B3.out L4.out O5.out D6.out O7.out O8.out)
  have HLO : Hid (s0 < w2.heap.size) := Lib.hid (Nat.lt_of_lt_of_le HW2.out T2.out.size)
  have HSB : Hid (Blk w9 s0 41 x.cs) := Lib.hid (HB8.out.new T9.out)
  have TW : Hid (Turn (fun _ => False) w w9) := Lib.hid (T17.out.trans (T8.out.trans T9.out))
  have HYP : Hid (y.p = p ∧ y.bp = bp ∧ y.dp = dp ∧ y.dg = dg ∧ y.drawn = 0 ∧ y.draws = x.s.draws) := Lib.hid (by rw [hy]; exact ⟨rfl, rfl, rfl, rfl, rfl, rfl⟩)
  have HYB : Hid (Set_ x.s.gs 0 y.B) := Lib.hid (by rw [hy]; exact set_zero x.s.gs HO.out.gl hn8)
  have HCS := Lib.hid hcs
  have HYE := Lib.hid hy
  have HC4 := Lib.hid (show cs[4]? = some (.pointer (some ⟨bp, 0, none⟩)) by rw [hcs]; rfl)
  have HC11 := Lib.hid (show cs[11]? = some (.pointer (some ⟨dp, 0, none⟩)) by rw [hcs]; rfl)
  have HC10 := Lib.hid (show cs[10]? = some (.pointer none) by rw [hcs]; rfl)
  have HC8 := Lib.hid (show (cs.set 10 (.pointer none))[8]? = some (.pointer none) by rw [hcs]; rfl)
  clear hcs hy P9 P9' T1 T2 T3 T4 T5 T6 T7 T8 T9 T14 T15 T16 T17 O2 O5 O7 O8 O8' B3 L4 D6 HB8 HC HW2
  generalize w2.heap.size = a2 at HA HLO
  generalize w3.heap.size = a3 at HA
  generalize w4.heap.size = a4 at HA
  generalize w5.heap.size = a5 at HA
  generalize w6.heap.size = a6 at HA
  generalize w7.heap.size = a7 at HA
  generalize w8.heap.size = a8 at HA
  have F0 := blk_f HSB.out
  go_upto_region 3 with fail
  have HLEN := HGL.out
  rw [HLEN]
  clear F0 HLEN hp
  generalize x.gs.ao = go at HX2 ⊢
  go_loopw [40] (fun s40 wr => ∃ (i : Nat) (B : List C8.One), i ≤ n ∧ s40 = .int .i64 i ∧ Hid (Set_ x.s.gs i B) ∧ Hid (Asm s0 a2 a3 a4 a5 a6 a7 a8 { y with B := B } cs wr) ∧ Hid (Blk wr s0 41 x.cs) ∧ Hid (Turn (fun _ => False) w wr)) (fun s40 _ => n - (intOf s40).toNat)
  case atStart => exact ⟨0, y.B, Nat.zero_le _, rfl, HYB, HA, HSB, TW⟩
  case round =>
    clear HYB HA HSB TW
    obtain ⟨i, B, hi, rfl, HSE, HA, HSB, TW⟩ := hrel
    by_cases hlt : i < n
    · obtain ⟨z, hz⟩ : ∃ z, X[i]? = some z := ⟨_, List.getElem?_eq_getElem (by rw [HXN.out]; exact hlt)⟩
      have hzg : x.s.gs[i]? = some z.g := by rw [← HX1.out, List.getElem?_map, hz]; rfl
      have HZG := Lib.hid hzg
      have HZS := Lib.hid (HO.out.st z.g (List.mem_of_getElem? hzg))
      obtain ⟨a, ha, hld, -, -⟩ := has_load (P := Try.prog) (t := 50) gv_ok (HX2.out.new TW.out) hz t_g
      subst ha
      clear hz hzg
      obtain ⟨S5, hS5⟩ : ∃ S5, wr.heap.size = S5 := ⟨_, rfl⟩
      have BB := Lib.hid (boxes1 wr 50 zG.cs)
      rw [hS5] at BB
      go_upto_region 5 with (first | refine wpList_load_at rfl rfl rfl hld ?_ | (refine wpList_store_box rfl rfl BB.out 0 rfl rfl z.cs rfl rfl t_g (gv_ok.one _) ?_; intro w4 B4 T4))
      have HA4 := Lib.hid (HA.out.new B4.out.t)
      have HSB4 : Hid (Blk w4 s0 41 x.cs) := Lib.hid (HSB.out.new B4.out.t)
      have TW4 := Lib.hid (TW.out.trans B4.out.t)
      have P3 : w4.cell? ⟨p, 4, none⟩ = some (.pointer (some ⟨bp, 0, none⟩)) := by
        have := blk_f HA4.out.box 4
        rw [HC4.out] at this
        rw [← HYP.out.1]
        exact this
      have P5 : ∀ k, w4.cell? ⟨S5, k, none⟩ = z.cs[k]? := B4.out.f 0 rfl
      clear HA HSB TW hld BB B4 T4
      refine stand_start (by kernel_rfl) 9 (fun w' => w'.cell? ⟨p, 4, none⟩ = some (.pointer (some ⟨bp, 0, none⟩)) ∧ ∀ k, w'.cell? ⟨S5, k, none⟩ = z.cs[k]?) 99 (fun _ => True) ⟨P3, P5⟩ trivial ?_
      have HA5 := Lib.hid (HA4.out.new (Turn.refl _ _).drew)
      have HSB5 : Hid (Blk w4.drew s0 41 x.cs) := Lib.hid (HSB4.out.new (Turn.refl _ _).drew)
      have TW5 := Lib.hid TW4.out.drew
      clear P3 P5 HA4 HSB4 TW4
      generalize w4.drew = wd at HA5 HSB5 TW5 ⊢
      refine stand_take (i := 0) (v := ?_) rfl (by kernel_rfl) (by kernel_rfl) (by kernel_rfl) (by rfl) (fun _ _ _ h => h) (by decide) (by decide) (by rfl) ?_ ?_
      rotate_left
      · (intro w; go_simp; try with_reducible rfl)
      dsimp only [List.set_cons_zero, List.set_cons_succ]
      refine stand_take (i := 1) (v := ?_) rfl (by kernel_rfl) (by kernel_rfl) (by kernel_rfl) (by rfl) (fun _ _ _ h => h) (by decide) (by decide) (by rfl) ?_ ?_
      rotate_left
      · (intro w; go_simp; try with_reducible rfl)
      dsimp only [List.set_cons_zero, List.set_cons_succ]
      refine stand_take (i := 2) (v := ?_) rfl (by kernel_rfl) (by kernel_rfl) (by kernel_rfl) (by rfl) (fun _ _ _ h => h) (by decide) (by decide) (by rfl) ?_ ?_
      rotate_left
      · (intro w; go_simp; try with_reducible rfl)
      dsimp only [List.set_cons_zero, List.set_cons_succ]
      refine stand_load1 (i := 3) (v := .pointer (some ⟨bp, 0, none⟩)) rfl (by kernel_rfl) (by kernel_rfl) (by kernel_rfl) (by rfl) (fun _ _ _ h => h) (by decide) (by decide) (by kernel_rfl) (by rfl) ?_ ?_
      · (intro w hA; have hA0 := hA.1; clear hA; go_simp; try with_reducible rfl)
      dsimp only [List.set_cons_zero, List.set_cons_succ]
      refine stand_take (i := 4) (v := ?_) rfl (by kernel_rfl) (by kernel_rfl) (by kernel_rfl) (by rfl) (fun _ _ _ h => h) (by decide) (by decide) (by rfl) ?_ ?_
      rotate_left
      · (intro w; go_simp; try with_reducible rfl)
      dsimp only [List.set_cons_zero, List.set_cons_succ]
      refine stand_take (i := 5) (v := ?_) rfl (by kernel_rfl) (by kernel_rfl) (by kernel_rfl) (by rfl) (fun _ _ _ h => h) (by decide) (by decide) (by rfl) ?_ ?_
      rotate_left
      · (intro w; go_simp; try with_reducible rfl)
      dsimp only [List.set_cons_zero, List.set_cons_succ]
      refine stand_load1 (i := 6) (v := .int .i64 z.g.status) rfl (by kernel_rfl) (by kernel_rfl) (by kernel_rfl) (by rfl) (fun _ _ _ h => h) (by decide) (by decide) (by kernel_rfl) (by rfl) ?_ ?_
      · (intro w hA; have hA0 := hA.2; clear hA; go_simp; try with_reducible rfl)
      dsimp only [List.set_cons_zero, List.set_cons_succ]
      refine stand_take (i := 7) (v := ?_) rfl (by kernel_rfl) (by kernel_rfl) (by kernel_rfl) (by rfl) (fun _ _ _ h => h) (by decide) (by decide) (by rfl) ?_ ?_
      rotate_left
      · (intro w; go_simp; try with_reducible rfl)
      dsimp only [List.set_cons_zero, List.set_cons_succ]
      refine stand_load1 (i := 8) (v := .bool z.g.token) rfl (by kernel_rfl) (by kernel_rfl) (by kernel_rfl) (by rfl) (fun _ _ _ h => h) (by decide) (by decide) (by kernel_rfl) (by rfl) ?_ ?_
      · (intro w hA; have hA0 := hA.2; clear hA; go_simp; try with_reducible rfl)
      dsimp only [List.set_cons_zero, List.set_cons_succ]
      refine stand_step (i := 9) (by kernel_rfl) rfl (fun K hK => ?_)
      go_simp
      have HBN : Hid (C8.IsB wd a2 bp y.bv B) := Lib.hid (by have := HA5.out.bench; rw [← HYP.out.2.1]; exact this)
      refine (C8.set_any wd HBN.out rfl).mono ?_
      rintro e w6 ⟨rfl, k6⟩
      refine hK.out _ _ (past (by kernel_rfl)) (fun _ => trivial) ?_
      clear hK K
      try simp only [put_laid, List.set_cons_zero, List.set_cons_succ]
      have K6 := Lib.hid k6
      clear k6
      refine stand_done (by kernel_rfl) ?_
      have HA6 : Hid (Asm s0 a2 a3 a4 a5 a6 a7 a8 { y with B := C8.doL (C8.setF z.g.status z.g.token) B i } cs w6) := Lib.hid (HA5.out.benched (B := C8.doL (C8.setF z.g.status z.g.token) B i) (by show C8.Kept a2 y.bp y.bv _ wd w6; rw [HYP.out.2.1]; exact K6.out))
      have HQB := Lib.hid (fun j (hj : C8.QB bp y.bv j) => (HBN.out.blocks hj).1)
      have HSB6 : Hid (Blk w6 s0 41 x.cs) := Lib.hid (HSB5.out.turn K6.out.2 (fun e => by have := HQB.out _ e; have := HLO.out; omega))
      have TW6 := Lib.hid (TW5.out.and K6.out.2 (fun j hj e => by have := HQB.out _ e; have := HLO.out; omega))
      go_wp2_with fail
      go_roundw
      case rel => exact ⟨i + 1, C8.doL (C8.setF z.g.status z.g.token) B i, by omega, by go_num, Lib.hid (HSE.out.more HZG.out HZS.out), HA6, HSB6, TW6⟩
      case measure => simp [intOf]; omega
    · obtain rfl : i = n := by omega
      have HY0 := HYP.out
      have P11 : wr.cell? ⟨p, 11, none⟩ = some (.pointer (some ⟨dp, 0, none⟩)) := by
        have := blk_f HA.out.box 11
        rw [HC11.out] at this
        rw [← HY0.1]
        exact this
      have F0 : ∀ k, wr.cell? ⟨s0, k, none⟩ = x.cs[k]? := blk_f HSB.out
      go_upto_region 7 with fail
      refine stand_start (by kernel_rfl) 6 (fun w' => w'.cell? ⟨p, 11, none⟩ = some (.pointer (some ⟨dp, 0, none⟩)) ∧ ∀ k, w'.cell? ⟨s0, k, none⟩ = x.cs[k]?) 99 (fun _ => True) ⟨P11, F0⟩ trivial ?_
      have HA5 := Lib.hid (HA.out.new (Turn.refl _ _).drew)
      have HSB5 : Hid (Blk wr.drew s0 41 x.cs) := Lib.hid (HSB.out.new (Turn.refl _ _).drew)
      have TW5 := Lib.hid TW.out.drew
      clear P11 F0 HA HSB TW
      generalize wr.drew = wd at HA5 HSB5 TW5 ⊢
      refine stand_take (i := 0) (v := ?_) rfl (by kernel_rfl) (by kernel_rfl) (by kernel_rfl) (by rfl) (fun _ _ _ h => h) (by decide) (by decide) (by rfl) ?_ ?_
      rotate_left
      · (intro w; go_simp; try with_reducible rfl)
      dsimp only [List.set_cons_zero, List.set_cons_succ]
      refine stand_take (i := 1) (v := ?_) rfl (by kernel_rfl) (by kernel_rfl) (by kernel_rfl) (by rfl) (fun _ _ _ h => h) (by decide) (by decide) (by rfl) ?_ ?_
      rotate_left
      · (intro w; go_simp; try with_reducible rfl)
      dsimp only [List.set_cons_zero, List.set_cons_succ]
      refine stand_take (i := 2) (v := ?_) rfl (by kernel_rfl) (by kernel_rfl) (by kernel_rfl) (by rfl) (fun _ _ _ h => h) (by decide) (by decide) (by rfl) ?_ ?_
      rotate_left
      · (intro w; go_simp; try with_reducible rfl)
      dsimp only [List.set_cons_zero, List.set_cons_succ]
      refine stand_load1 (i := 3) (v := .pointer (some ⟨dp, 0, none⟩)) rfl (by kernel_rfl) (by kernel_rfl) (by kernel_rfl) (by rfl) (fun _ _ _ h => h) (by decide) (by decide) (by kernel_rfl) (by rfl) ?_ ?_
      · (intro w hA; have hA0 := hA.1; clear hA; go_simp; try with_reducible rfl)
      dsimp only [List.set_cons_zero, List.set_cons_succ]
      refine stand_take (i := 4) (v := ?_) rfl (by kernel_rfl) (by kernel_rfl) (by kernel_rfl) (by rfl) (fun _ _ _ h => h) (by decide) (by decide) (by rfl) ?_ ?_
      rotate_left
      · (intro w; go_simp; try with_reducible rfl)
      dsimp only [List.set_cons_zero, List.set_cons_succ]
      refine stand_load1 (i := 5) (v := .int .i64 x.s.drawn) rfl (by kernel_rfl) (by kernel_rfl) (by kernel_rfl) (by rfl) (fun _ _ _ h => h) (by decide) (by decide) (by kernel_rfl) (by rfl) ?_ ?_
      · (intro w hA; have hA0 := hA.2; clear hA; go_simp; try with_reducible rfl)
      dsimp only [List.set_cons_zero, List.set_cons_succ]
      refine stand_step (i := 6) (by kernel_rfl) rfl (fun K hK => ?_)
      go_simp
      have HD5 : Hid (C1.IsDice wd dp y.dg x.s.draws 0) := Lib.hid (by
        have h : C1.IsDice wd y.dp y.dg y.draws y.drawn := HA5.out.dice
        rw [HY0.2.2.1, HY0.2.2.2.2.1, HY0.2.2.2.2.2] at h
        exact h)
      refine (C1.skip_any x.s.drawn wd HD5.out).mono ?_
      rintro e w6 ⟨rfl, hd6, t6⟩
      refine hK.out _ _ (past (by kernel_rfl)) (fun _ => trivial) ?_
      clear hK K
      try simp only [put_laid, List.set_cons_zero, List.set_cons_succ]
      refine stand_done (by kernel_rfl) ?_
      rw [sk_of HO.out.drawn] at hd6
      have HA6 : Hid (Asm s0 a2 a3 a4 a5 a6 a7 a8 { y with B := B, drawn := x.s.drawn.toNat } cs w6) := Lib.hid (HA5.out.diced (m := x.s.drawn.toNat) (by show C1.IsDice w6 y.dp y.dg y.draws _; rw [HY0.2.2.1, HY0.2.2.2.2.2]; exact hd6) (by show Turn (fun i => i = y.dp) wd w6; rw [HY0.2.2.1]; exact t6))
      have HDL0 : Hid (s0 < dp) := Lib.hid (by have h1 : Iv a5 a6 y.dp := HA5.out.td.1; rw [HY0.2.2.1] at h1; have h2 := HA5.out.ord; have := h1.1; have := HLO.out; omega)
      have HSB6 : Hid (Blk w6 s0 41 x.cs) := Lib.hid (HSB5.out.turn t6 (fun e => by have := HDL0.out; omega))
      have TW6 := Lib.hid (TW5.out.and t6 (fun j hj e => by have := HDL0.out; omega))
      clear hd6 t6 HA5 HSB5 TW5 HD5
      have F0 : ∀ k, w6.cell? ⟨s0, k, none⟩ = x.cs[k]? := blk_f HSB6.out
      go_wp2_with fail
      have HLEN := HCAL.out
      have HLEN2 := HMIL.out
      rw [HLEN, HLEN2]
      clear HLEN HLEN2
      have hg := HO.out.good
      refine (R5.C5.of_good w6 hg.n hg.size hg.most hg.fresh (came_of (HX.out.new TW6.out).ca) (fun j hj => by have := hg.short j hj; have := hg.most.2; omega) hg.short (HX.out.new TW6.out).ca.r.mid rfl (by have := hg.row (Nat.le_refl x.s.pool.n); omega) (good_ok hg)).mono ?_
      rintro e w8 ⟨pp, pq, R, rfl, hp8, t8⟩
      have HP8 : Hid (R5.C5.IsPool w8 w6.heap.size pp pq x.s.pool R) := Lib.hid hp8
      have HA8 := Lib.hid (HA6.out.new t8)
      have T8 := Lib.hid t8
      have T68 := Lib.hid (show w6.heap.size ≤ w8.heap.size from t8.size)
      have PLT := Lib.hid (show y.p < w6.heap.size from HA6.out.box.lt)
      have HSB8 : Hid (Blk w8 s0 41 x.cs) := Lib.hid (HSB6.out.new t8)
      clear F0 hg hp8 t8 HSB6 HA6
      have TW8 := Lib.hid (TW6.out.trans T8.out)
      have P10 : w8.cell? ⟨p, 10, none⟩ = some (.pointer none) := by
        have := blk_f HA8.out.box 10
        rw [HC10.out] at this
        rw [← HY0.1]
        exact this
      have P10f : w8.frozen? ⟨p, 10, none⟩ = false := by
        have := HA8.out.box.fr 10
        rw [← HY0.1]
        exact this
      go_upto_region 9 with fail
      have HA9 : Hid (Asm s0 a2 a3 a4 a5 a6 a7 a8 { y with B := B, drawn := x.s.drawn.toNat } (cs.set 10 (ptr pp)) (w8.setCell ⟨p, 10, none⟩ (.pointer (some ⟨pp, 0, none⟩)))) := Lib.hid (by
        have h := HA8.out.put 10 (ptr pp)
        rw [← HY0.1]
        exact h)
      have T9 := Lib.hid (set_turn w8 p 10 (.pointer (some ⟨pp, 0, none⟩)))
      have PLO := Lib.hid (show s0 < p ∧ p < w6.heap.size by have h1 := HA8.out.ord; have h2 : a8 ≤ y.p := h1.2.2.2.2.2.2.2; have := HLO.out; have := PLT.out; have := HY0.1; omega)
      have HP9 : Hid (R5.C5.IsPool (w8.setCell ⟨p, 10, none⟩ (.pointer (some ⟨pp, 0, none⟩))) w6.heap.size pp pq x.s.pool R) := Lib.hid (HP8.out.turn T9.out (fun j hj e => by have := (HP8.out.blocks hj).1; have := PLO.out; omega))
      have HPB : Hid (∀ j, R5.C5.PB pp pq x.s.pool.n R j → Iv w6.heap.size w8.heap.size j) := Lib.hid (fun j hj => HP8.out.blocks hj)
      have TW9 := Lib.hid (TW8.out.and T9.out (fun j hj e => by have := PLO.out; omega))
      have HSB9 : Hid (Blk (w8.setCell ⟨p, 10, none⟩ (.pointer (some ⟨pp, 0, none⟩))) s0 41 x.cs) := Lib.hid (HSB8.out.turn T9.out (fun e => by have := PLO.out; omega))
      have HSZ := Lib.hid (show w8.heap.size ≤ (w8.setCell ⟨p, 10, none⟩ (.pointer (some ⟨pp, 0, none⟩))).heap.size from T9.out.size)
      clear P10 P10f HA8 HP8 T8 T9 TW8 HSB8
      generalize w8.setCell ⟨p, 10, none⟩ (.pointer (some ⟨pp, 0, none⟩)) = w9 at HA9 HP9 TW9 HSZ HSB9 ⊢
      generalize w6.heap.size = aP at HP9 HPB T68 PLT PLO
      generalize w8.heap.size = aQ at HPB HSZ T68
      have F0 : ∀ k, w9.cell? ⟨s0, k, none⟩ = x.cs[k]? := blk_f HSB9.out
      go_wp2_with fail
      refine (C6.new_any (n := x.s.pool.size) (m := 16) w9 rfl rfl HO.out.good.size (by decide)).mono ?_
      rintro e w10 ⟨qp, tb, eb, rfl, hh⟩
      have HQ10 := Lib.hid hh.q
      have T10 := Lib.hid hh.t
      have HA10 := Lib.hid (HA9.out.new hh.t)
      have HP10 := Lib.hid (HP9.out.new hh.t)
      have HSB10 : Hid (Blk w10 s0 41 x.cs) := Lib.hid (HSB9.out.new hh.t)
      have TW10 := Lib.hid (TW9.out.trans hh.t)
      clear F0 hh HA9 HP9 HSB9 TW9
      have P8 : w10.cell? ⟨p, 8, none⟩ = some (.pointer none) := by
        have := blk_f HA10.out.box 8
        rw [show (cs.set 10 (ptr pp))[8]? = (cs.set 10 (.pointer none))[8]? by simp, HC8.out] at this
        rw [← HY0.1]
        exact this
      have P8f : w10.frozen? ⟨p, 8, none⟩ = false := by
        have := HA10.out.box.fr 8
        rw [← HY0.1]
        exact this
      go_upto_region 10 with fail
      have HA11 : Hid (Asm s0 a2 a3 a4 a5 a6 a7 a8 { y with B := B, drawn := x.s.drawn.toNat } ((cs.set 10 (ptr pp)).set 8 (ptr qp)) (w10.setCell ⟨p, 8, none⟩ (.pointer (some ⟨qp, 0, none⟩)))) := Lib.hid (by
        have h := HA10.out.put 8 (ptr qp)
        rw [← HY0.1]
        exact h)
      have T11 := Lib.hid (set_turn w10 p 8 (.pointer (some ⟨qp, 0, none⟩)))
      have HP11 : Hid (R5.C5.IsPool (w10.setCell ⟨p, 8, none⟩ (.pointer (some ⟨qp, 0, none⟩))) aP pp pq x.s.pool R) := Lib.hid (HP10.out.turn T11.out (fun j hj e => by have := (HPB.out j hj).1; have := PLO.out; omega))
      have HQ11 : Hid (C6.IsQ (w10.setCell ⟨p, 8, none⟩ (.pointer (some ⟨qp, 0, none⟩))) w9.heap.size qp tb eb (C6.newS x.s.pool.size 16)) := Lib.hid (HQ10.out.turn T11.out (fun j hj e => by have := (HQ10.out.blocks hj).1; have := PLO.out; have := HSZ.out; have := T68.out; omega))
      have HQB : Hid (∀ j, C6.QB qp tb eb j → w9.heap.size ≤ j) := Lib.hid (fun j hj => (HQ10.out.blocks hj).1)
      have TW11 := Lib.hid (TW10.out.and T11.out (fun j hj e => by have := PLO.out; omega))
      have HSB11 : Hid (Blk (w10.setCell ⟨p, 8, none⟩ (.pointer (some ⟨qp, 0, none⟩))) s0 41 x.cs) := Lib.hid (HSB10.out.turn T11.out (fun e => by have := PLO.out; omega))
      clear P8 P8f HA10 HP10 HQ10 T10 T11 TW10 HSB10
      generalize w10.setCell ⟨p, 8, none⟩ (.pointer (some ⟨qp, 0, none⟩)) = w11 at HA11 HP11 HQ11 TW11 HSB11 ⊢
      generalize w9.heap.size = aR at HQ11 HQB HSZ
      have F0 : ∀ k, w11.cell? ⟨s0, k, none⟩ = x.cs[k]? := blk_f HSB11.out
      go_upto_region 11 with fail
      have HLEN := HCL.out
      rw [HLEN]
      clear F0 HLEN
      go_loopw [95] (fun s95 wr => s95 = .int .i64 0 ∧ Hid (wr = w11)) (fun _ _ => 0)
      case atStart => exact ⟨rfl, Lib.hid rfl⟩
      case round =>
        obtain ⟨rfl, hw⟩ := hrel
        go_wp2_with fail
        go_ret
        rw [hw.out]
        have HYE' := HYE.out
        have HFN := HA11.out.other qp tb eb (C6.newS x.s.pool.size 16) pp pq R
        have hq : aQ ≤ aR := HSZ.out
        obtain ⟨tag, hW⟩ := HFN.whole (by rw [HCS.out, HYE']; rfl) (by rw [HYE']; exact HP11.out.less (by have := PLO.out; omega)) (aP := aP) (aQ := aQ) PLT.out (by rw [HYE']; exact HPB.out) (HQ11.out.less (by have := PLO.out; have := T68.out; omega)) (fun j hj => Nat.le_trans hq (HQB.out j hj))
        obtain ⟨zz, hzz⟩ : ∃ zz : WV, zz = { y with B := B, drawn := x.s.drawn.toNat, qp := qp, tb := tb, eb := eb, q := C6.newS x.s.pool.size 16, pp := pp, pq := pq, R := R } := ⟨_, rfl⟩
        have hW2 : IsW s0 tag w11 zz := by rw [hzz]; exact hW
        refine ⟨zz, tag, ?_, ?_, ?_, ?_, TW11.out⟩
        · rw [hzz]
          show Ending.returned (.pointer (some ⟨p, 0, none⟩)) = .returned (ptr y.p)
          rw [HY0.1]
          rfl
        · first | exact hW2 | (rw [hs0]; exact hW2)
        · have hm := merged (hY := show Y.map GV.g = x.s.gs from by rw [HY.out, HX1.out]) (hB := show Set_ x.s.gs x.s.gs.length B by rw [HO.out.gl]; exact HSE.out)
          rw [hzz, HYE']
          show (⟨x.s.pool, x.s.step, List.zipWith merge Y B, [], x.s.sudogs, x.s.draws, (x.s.drawn.toNat : Int), x.s.done⟩ : St) = x.s
          rw [hm, Int.toNat_of_nonneg HO.out.drawn.1, ← HO.out.chans]
        · rw [hzz, HYE']
          refine ⟨?_, ?_⟩
          · show Y.length = _
            have := congrArg List.length HY.out
            simpa [HXN.out] using this
          · show B.length = _
            rw [HSE.out.len, HO.out.gl]

end Go.Proofs.Ytenbafkgfdlfpaa
