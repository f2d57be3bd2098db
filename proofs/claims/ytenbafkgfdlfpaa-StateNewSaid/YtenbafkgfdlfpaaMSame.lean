/- Texts put together: KSameG, KSame. -/
import Derived.Test.YtenbafkgfdlfpaaKInts
import Derived.Test.YtenbafkgfdlfpaaKGs
/- The document's sameG, of what is the same. -/
namespace Go.Proofs.Ytenbafkgfdlfpaa
open Go.RowKit
set_option linter.unusedVariables false

theorem stood_res : Try.prog.stoodInHeld 48 = false := by kernel_rfl
theorem equal_res (r : Rs) (w : World) : (Op.equalIn 10000 48 (.agg r.cs.toArray) (.agg r.cs.toArray)).run Try.prog w = .ok true w := by
  have hf : Try.prog.fieldsOf 48 = #[⟨ "Code", 3, 0, false, "", "", 0⟩, ⟨ "Case", 3, 1, false, "", "", 8⟩, ⟨ "V", 2, 2, false, "", "", 16⟩, ⟨ "Ok", 4, 3, false, "", "", 24⟩, ⟨ "N", 3, 4, false, "", "", 32⟩] := by kernel_rfl
  rw [run_equalIn_struct w 9999 48 _ _ (by kernel_rfl) stood_res, hf]
  have u0 : Try.prog.underlying 4 = some .bool := by kernel_rfl
  have u1 : Try.prog.underlying 3 = some (.int .i64) := by kernel_rfl
  have u2 : Try.prog.underlying 2 = some (.int .i64) := by kernel_rfl
  unfold Rs.cs
  simp [go_sem, u0, u1, u2]
theorem guard_res : Try.prog.eqGuardType Try.prog.depth 48 = false := by kernel_rfl

set_option maxRecDepth 100000 in
set_option maxHeartbeats 8000000 in
theorem sameg_same {D D' : Nat → Prop} {x y : GV} (w : World) (hx : RG D w x) (hy : RG D' w y) (he : y.g = x.g) (ht : Tame x.g) :
    Calls Try.prog 16 #[.agg x.cs.toArray, .agg y.cs.toArray] w fun e w' => e = .returned (.bool true) ∧ Turn (fun _ => False) w w' := by
  obtain ⟨g, ⟨oa, ol, oc⟩, ⟨ra, rl, rc⟩, ⟨la, ll, lc⟩, ⟨sa, sl, sc⟩, ⟨wa, wl, wc⟩⟩ := x
  obtain ⟨g', ⟨oa', ol', oc'⟩, ⟨ra', rl', rc'⟩, ⟨la', ll', lc'⟩, ⟨sa', sl', sc'⟩, ⟨wa', wl', wc'⟩⟩ := y
  dsimp only at he ht
  subst he
  have e1 : ol = g'.ops.length := hx.ops.ops.ok.len
  have e2 : rl = g'.order.length := hx.order.ok.len
  have e3 : ll = g'.locks.length := hx.locks.ok.len
  have e4 : sl = g'.sgs.length := hx.sgs.ok.len
  have e5 : wl = g'.wakes.length := hx.wakes.ok.len
  have f1 : ol' = g'.ops.length := hy.ops.ops.ok.len
  have f2 : rl' = g'.order.length := hy.order.ok.len
  have f3 : ll' = g'.locks.length := hy.locks.ok.len
  have f4 : sl' = g'.sgs.length := hy.sgs.ok.len
  have f5 : wl' = g'.wakes.length := hy.wakes.ok.len
  obtain ⟨n1, h1⟩ : ∃ n, g'.ops.length = n := ⟨_, rfl⟩
  obtain ⟨n2, h2⟩ : ∃ n, g'.order.length = n := ⟨_, rfl⟩
  obtain ⟨n3, h3⟩ : ∃ n, g'.locks.length = n := ⟨_, rfl⟩
  obtain ⟨n4, h4⟩ : ∃ n, g'.sgs.length = n := ⟨_, rfl⟩
  obtain ⟨n5, h5⟩ : ∃ n, g'.wakes.length = n := ⟨_, rfl⟩
  rw [h1] at e1 f1
  rw [h2] at e2 f2
  rw [h3] at e3 f3
  rw [h4] at e4 f4
  rw [h5] at e5 f5
  subst f1 f2 f3 f4 f5
  subst e1 e2 e3 e4 e5
  have HX := Lib.hid hx
  have HY := Lib.hid hy
  have HT := Lib.hid ht
  have H1 := Lib.hid h1
  have H2 := Lib.hid h2
  have H3 := Lib.hid h3
  have H4 := Lib.hid h4
  have H5 := Lib.hid h5
  clear hx hy ht h1 h2 h3 h4 h5
  obtain ⟨X, hX⟩ : ∃ X : GV, X = ⟨g', ⟨oa, ol, oc⟩, ⟨ra, rl, rc⟩, ⟨la, ll, lc⟩, ⟨sa, sl, sc⟩, ⟨wa, wl, wc⟩⟩ := ⟨_, rfl⟩
  obtain ⟨Y, hY⟩ : ∃ Y : GV, Y = ⟨g', ⟨oa', ol, oc'⟩, ⟨ra', rl, rc'⟩, ⟨la', ll, lc'⟩, ⟨sa', sl, sc'⟩, ⟨wa', wl, wc'⟩⟩ := ⟨_, rfl⟩
  have X0 : X.g = g' ∧ X.so = ⟨oa, ol, oc⟩ ∧ X.sr = ⟨ra, rl, rc⟩ ∧ X.sl = ⟨la, ll, lc⟩ ∧ X.ss = ⟨sa, sl, sc⟩ ∧ X.sw = ⟨wa, wl, wc⟩ := by rw [hX]; exact ⟨rfl, rfl, rfl, rfl, rfl, rfl⟩
  have Y0 : Y.g = g' ∧ Y.so = ⟨oa', ol, oc'⟩ ∧ Y.sr = ⟨ra', rl, rc'⟩ ∧ Y.sl = ⟨la', ll, lc'⟩ ∧ Y.ss = ⟨sa', sl, sc'⟩ ∧ Y.sw = ⟨wa', wl, wc'⟩ := by rw [hY]; exact ⟨rfl, rfl, rfl, rfl, rfl, rfl⟩
  rw [← hX, ← hY]
  rw [← hX] at HX
  rw [← hY] at HY
  have X0 := Lib.hid X0
  have Y0 := Lib.hid Y0
  clear hX hY
  go_enter Try.func16, Try.ntmps16
  go_upto_region 1 with fail
  refine at_world (φ := fun w' => Hid (Boxes w w' [(w.heap.size, 50, X.cs), (w.heap.size + 1, 50, Y.cs)])) (Lib.hid (boxes2 w 50 X.cs 50 Y.cs)) ?_
  intro w1 B1
  generalize w.heap.size = b0 at B1 ⊢
  generalize b0 + 1 = b1 at B1 ⊢
  have FX := X0.out
  have FY := Y0.out
  obtain ⟨x0, x1, x2, x3, x4, x5⟩ := FX
  obtain ⟨y0, y1, y2, y3, y4, y5⟩ := FY
  have F0 := B1.out.f 0 rfl
  have F1 := B1.out.f 1 rfl
  go_wp2_with fail
  refine (rsameops_any (s := ⟨oa, ol, oc⟩) (t := ⟨oa', ol, oc'⟩) true w1 (by have := HX.out.ops.ops.new B1.out.t; rw [x0, x1] at this; exact this) (by have := HY.out.ops.ops.new B1.out.t; rw [y0, y1] at this; exact this) H1.out H1.out HT.out.ops HT.out.ops (sameL_refl _)).mono ?_
  rintro e w2 ⟨rfl, t2⟩
  have B2 := Lib.hid (B1.out.new t2)
  clear F0 F1 t2 B1
  have F0 := B2.out.f 0 rfl
  have F1 := B2.out.f 1 rfl
  go_wp2_with fail
  refine (ints_same (L := g'.order) (s := ⟨ra, rl, rc⟩) (t := ⟨ra', rl, rc'⟩) w2 (by have := HX.out.order.has.turn B2.out.t (fun _ _ => id); rw [x0, x2] at this; exact this) (by have := HY.out.order.has.turn B2.out.t (fun _ _ => id); rw [y0, y2] at this; exact this) H2.out (by have := HT.out.order; have := H2.out; omega)).mono ?_
  rintro e w3 ⟨rfl, t3⟩
  have B3 := Lib.hid (B2.out.new t3)
  clear F0 F1 t3 B2
  have F0 := B3.out.f 0 rfl
  have F1 := B3.out.f 1 rfl
  go_wp2_with fail
  refine (ints_same (L := g'.locks) (s := ⟨la, ll, lc⟩) (t := ⟨la', ll, lc'⟩) w3 (by have := HX.out.locks.has.turn B3.out.t (fun _ _ => id); rw [x0, x3] at this; exact this) (by have := HY.out.locks.has.turn B3.out.t (fun _ _ => id); rw [y0, y3] at this; exact this) H3.out (by have := HT.out.locks; have := H3.out; omega)).mono ?_
  rintro e w4 ⟨rfl, t4⟩
  have B4 := Lib.hid (B3.out.new t4)
  clear F0 F1 t4 B3
  have F0 := B4.out.f 0 rfl
  have F1 := B4.out.f 1 rfl
  go_wp2_with fail
  refine (ints_same (L := g'.sgs) (s := ⟨sa, sl, sc⟩) (t := ⟨sa', sl, sc'⟩) w4 (by have := HX.out.sgs.has.turn B4.out.t (fun _ _ => id); rw [x0, x4] at this; exact this) (by have := HY.out.sgs.has.turn B4.out.t (fun _ _ => id); rw [y0, y4] at this; exact this) H4.out (by have := HT.out.sgs; have := H4.out; omega)).mono ?_
  rintro e w5 ⟨rfl, t5⟩
  have B5 := Lib.hid (B4.out.new t5)
  clear F0 F1 t5 B4
  have F0 := B5.out.f 0 rfl
  have F1 := B5.out.f 1 rfl
  go_wp2_with fail
  refine (ints_same (L := g'.wakes) (s := ⟨wa, wl, wc⟩) (t := ⟨wa', wl, wc'⟩) w5 (by have := HX.out.wakes.has.turn B5.out.t (fun _ _ => id); rw [x0, x5] at this; exact this) (by have := HY.out.wakes.has.turn B5.out.t (fun _ _ => id); rw [y0, y5] at this; exact this) H5.out (by have := HT.out.wakes; have := H5.out; omega)).mono ?_
  rintro e w6 ⟨rfl, t6⟩
  have B6 := Lib.hid (B5.out.new t6)
  clear F0 F1 t6 B5
  have F0 := B6.out.f 0 rfl
  have F1 := B6.out.f 1 rfl
  have hE : ∀ w', (Op.equalIn 10000 48 (.agg (Rs.cs g'.res).toArray) (.agg (Rs.cs g'.res).toArray)).run Try.prog w' = .ok true w' := equal_res g'.res
  unfold Rs.cs at hE
  have hg := guard_res
  go_wp2_with fail
  go_ret
  exact ⟨rfl, B6.out.t⟩

end Go.Proofs.Ytenbafkgfdlfpaa
/- The document's Same, of what is the same (no channel yet). -/
namespace Go.Proofs.Ytenbafkgfdlfpaa
open Go.RowKit
set_option linter.unusedVariables false

theorem equal_cfg (a b : Int) (w : World) : (Op.equalIn 10000 24 (.agg #[.int .i64 a, .int .i64 b]) (.agg #[.int .i64 a, .int .i64 b])).run Try.prog w = .ok true w := by
  have hf : Try.prog.fieldsOf 24 = #[⟨ "Sudogs", 3, 0, false, "", "", 0⟩, ⟨ "Cache", 3, 1, false, "", "", 8⟩] := by kernel_rfl
  rw [run_equalIn_struct w 9999 24 _ _ (by kernel_rfl) (by kernel_rfl), hf]
  have u1 : Try.prog.underlying 3 = some (.int .i64) := by kernel_rfl
  simp [go_sem, u1]
theorem guard_cfg : Try.prog.eqGuardType Try.prog.depth 24 = false := by kernel_rfl
theorem equal_sd (d : Sd) (w : World) : (Op.equalIn 10000 57 (.agg d.cs.toArray) (.agg d.cs.toArray)).run Try.prog w = .ok true w := by
  have hf : Try.prog.fieldsOf 57 = #[⟨ "Live", 4, 0, false, "", "", 0⟩, ⟨ "G", 3, 1, false, "", "", 8⟩, ⟨ "Ch", 3, 2, false, "", "", 16⟩, ⟨ "Case", 3, 3, false, "", "", 24⟩, ⟨ "Send", 4, 4, false, "", "", 32⟩, ⟨ "V", 2, 5, false, "", "", 40⟩, ⟨ "Done", 4, 6, false, "", "", 48⟩] := by kernel_rfl
  rw [run_equalIn_struct w 9999 57 _ _ (by kernel_rfl) (by kernel_rfl), hf]
  have u0 : Try.prog.underlying 4 = some .bool := by kernel_rfl
  have u1 : Try.prog.underlying 3 = some (.int .i64) := by kernel_rfl
  have u2 : Try.prog.underlying 2 = some (.int .i64) := by kernel_rfl
  unfold Sd.cs
  simp [go_sem, u0, u1, u2]
theorem guard_sd : Try.prog.eqGuardType Try.prog.depth 57 = false := by kernel_rfl

theorem cfg_part (x : SV) : ∀ (j : Nat) (v : Value), ([.int .i64 (x.s.pool.size : Int), .int .i64 (x.s.pool.most : Int)] : List Value)[j]? = some v → x.cs[0 + j]? = some v := fun j v hv => by
  rw [Nat.zero_add]
  match j with
  | 0 => exact hv
  | 1 => exact hv
  | j + 2 => simp at hv
theorem t_config' : Struct Try.prog 24 2 := ⟨⟨_, Try.underlying24, rfl⟩, by kernel_rfl⟩
/-- What Same asks of a state that has no channel. -/
structure SmOk (s : St) (n : Nat) : Prop where
  gl : s.gs.length = n
  n8 : n ≤ 8
  pool : s.pool.n = n
  good : R5.Good s.pool
  chans : s.chans = []
  tame : ∀ g ∈ s.gs, Tame g
  sd : s.sudogs.length ≤ 1000
  dn : s.done = []
  dr : s.draws.length ≤ 300

set_option maxRecDepth 100000 in
set_option maxHeartbeats 8000000 in
theorem same_same {D D' : Nat → Prop} {x y : SV} {n : Nat} (w : World) (hx : RS D w x) (hy : RS D' w y) (he : y.s = x.s) (ho : SmOk x.s n) :
    Calls Try.prog 7 #[x.val, y.val] w fun e w' => e = .returned (.bool true) ∧ Turn (fun _ => False) w w' := by
  obtain ⟨s, ⟨ga, gl, gc⟩, ⟨ha, hl, hc⟩, ⟨sa, sl, sc⟩, ⟨ca, cl, cc⟩, ⟨ma, ml, mc⟩, ⟨ra, rl, rc⟩, ⟨na, nl, nc⟩⟩ := x
  obtain ⟨s', ⟨ga', gl', gc'⟩, ⟨ha', hl', hc'⟩, ⟨sa', sl', sc'⟩, ⟨ca', cl', cc'⟩, ⟨ma', ml', mc'⟩, ⟨ra', rl', rc'⟩, ⟨na', nl', nc'⟩⟩ := y
  dsimp only at he ho
  subst he
  have e1 : gl = n := hx.gs.ok.len.trans ho.gl
  have e2 : hl = 0 := hx.ch.ok.len.trans (by rw [ho.chans]; rfl)
  have e3 : sl = s'.sudogs.length := hx.sd.ok.len
  have e4 : cl = n := hx.ca.ca.trans ho.pool
  have e5 : ml = (s'.pool.M s'.pool.n).length := hx.ca.mi
  have e6 : rl = s'.draws.length := hx.dr.ok.len
  have e7 : nl = 0 := hx.dn.ok.len.trans (by rw [ho.dn]; rfl)
  have f1 : gl' = n := hy.gs.ok.len.trans ho.gl
  have f2 : hl' = 0 := hy.ch.ok.len.trans (by rw [ho.chans]; rfl)
  have f3 : sl' = s'.sudogs.length := hy.sd.ok.len
  have f4 : cl' = n := hy.ca.ca.trans ho.pool
  have f5 : ml' = (s'.pool.M s'.pool.n).length := hy.ca.mi
  have f6 : rl' = s'.draws.length := hy.dr.ok.len
  have f7 : nl' = 0 := hy.dn.ok.len.trans (by rw [ho.dn]; rfl)
  obtain ⟨n3, h3⟩ : ∃ k, s'.sudogs.length = k := ⟨_, rfl⟩
  obtain ⟨n5, h5⟩ : ∃ k, (s'.pool.M s'.pool.n).length = k := ⟨_, rfl⟩
  obtain ⟨n6, h6⟩ : ∃ k, s'.draws.length = k := ⟨_, rfl⟩
  rw [h3] at e3 f3
  rw [h5] at e5 f5
  rw [h6] at e6 f6
  subst e1 e2 e3 e4 e5 e6 e7
  subst f2 f3 f5 f6 f7
  subst f1 f4
  have HX := Lib.hid hx
  have HY := Lib.hid hy
  have HO := Lib.hid ho
  have H3 := Lib.hid h3
  have H5 := Lib.hid h5
  have H6 := Lib.hid h6
  have hn8 := ho.n8
  clear hx hy ho h3 h5 h6
  obtain ⟨X, hX⟩ : ∃ X : SV, X = ⟨s', ⟨ga, cl', gc⟩, ⟨ha, 0, hc⟩, ⟨sa, sl', sc⟩, ⟨ca, cl', cc⟩, ⟨ma, ml', mc⟩, ⟨ra, rl', rc⟩, ⟨na, 0, nc⟩⟩ := ⟨_, rfl⟩
  obtain ⟨Y, hY⟩ : ∃ Y : SV, Y = ⟨s', ⟨ga', cl', gc'⟩, ⟨ha', 0, hc'⟩, ⟨sa', sl', sc'⟩, ⟨ca', cl', cc'⟩, ⟨ma', ml', mc'⟩, ⟨ra', rl', rc'⟩, ⟨na', 0, nc'⟩⟩ := ⟨_, rfl⟩
  have X0 : X.s = s' ∧ X.gs = ⟨ga, cl', gc⟩ ∧ X.ch = ⟨ha, 0, hc⟩ ∧ X.sd = ⟨sa, sl', sc⟩ ∧ X.ca = ⟨ca, cl', cc⟩ ∧ X.mi = ⟨ma, ml', mc⟩ ∧ X.dr = ⟨ra, rl', rc⟩ ∧ X.dn = ⟨na, 0, nc⟩ := by rw [hX]; exact ⟨rfl, rfl, rfl, rfl, rfl, rfl, rfl, rfl⟩
  have Y0 : Y.s = s' ∧ Y.gs = ⟨ga', cl', gc'⟩ ∧ Y.ch = ⟨ha', 0, hc'⟩ ∧ Y.sd = ⟨sa', sl', sc'⟩ ∧ Y.ca = ⟨ca', cl', cc'⟩ ∧ Y.mi = ⟨ma', ml', mc'⟩ ∧ Y.dr = ⟨ra', rl', rc'⟩ ∧ Y.dn = ⟨na', 0, nc'⟩ := by rw [hY]; exact ⟨rfl, rfl, rfl, rfl, rfl, rfl, rfl, rfl⟩
  rw [← hX, ← hY]
  clear hX hY
  obtain ⟨x0, x1, x2, x3, x4, x5, x6, x7⟩ := X0
  obtain ⟨y0, y1, y2, y3, y4, y5, y6, y7⟩ := Y0
  go_enter Try.func7, Try.ntmps7
  go_upto_region 1 with fail
  refine at_world (φ := fun w' => Hid (Boxes w w' [(w.heap.size, 41, X.cs), (w.heap.size + 1, 41, Y.cs)])) (Lib.hid (boxes2 w 41 X.cs 41 Y.cs)) ?_
  intro w1 B1
  generalize w.heap.size = b0 at B1 ⊢
  generalize b0 + 1 = b1 at B1 ⊢
  have F0 := B1.out.f 0 rfl
  have F1 := B1.out.f 1 rfl
  have hE : ∀ w', (Op.equalIn 10000 24 (.agg #[.int .i64 (s'.pool.size : Int), .int .i64 (s'.pool.most : Int)]) (.agg #[.int .i64 (s'.pool.size : Int), .int .i64 (s'.pool.most : Int)])).run Try.prog w' = .ok true w' := equal_cfg _ _
  have hg := guard_cfg
  have hpx := cfg_part X
  have hpy := cfg_part Y
  rw [x0] at hpx
  rw [y0] at hpy
  go_wp2_with (first | refine wpList_load_part rfl rfl B1.out 0 rfl 0 [.int .i64 (s'.pool.size : Int), .int .i64 (s'.pool.most : Int)] rfl hpx t_config' ?_ | refine wpList_load_part rfl rfl B1.out 1 rfl 0 [.int .i64 (s'.pool.size : Int), .int .i64 (s'.pool.most : Int)] rfl hpy t_config' ?_)
  refine (ints_same (L := s'.pool.M s'.pool.n) (s := ⟨ma, ml', mc⟩) (t := ⟨ma', ml', mc'⟩) w1 (HX.out.ca.r.mid.turn B1.out.t (fun _ _ => id)) (HY.out.ca.r.mid.turn B1.out.t (fun _ _ => id)) H5.out (by have := HO.out.good.row (Nat.le_refl s'.pool.n); have := H5.out; omega)).mono ?_
  rintro e w2 ⟨rfl, t2⟩
  have B2 := Lib.hid (B1.out.new t2)
  clear F0 F1 t2 B1 hE hg hpx hpy
  have F0 := B2.out.f 0 rfl
  have F1 := B2.out.f 1 rfl
  go_upto_region 4 with fail
  clear F0 F1
  go_loopw [101] (fun s101 wr => ∃ i : Nat, i ≤ cl' ∧ s101 = .int .i64 i ∧ Hid (Boxes w wr [(b0, 41, X.cs), (b1, 41, Y.cs)])) (fun s101 _ => cl' - (intOf s101).toNat)
  case atStart => exact ⟨0, Nat.zero_le _, rfl, B2⟩
  case round =>
    clear B2
    obtain ⟨i, hi, rfl, B⟩ := hrel
    by_cases hlt : i < cl'
    · obtain ⟨g, hg⟩ : ∃ g, s'.gs[i]? = some g := ⟨_, List.getElem?_eq_getElem (by rw [HO.out.gl]; exact hlt)⟩
      have HTG := Lib.hid (HO.out.tame g (List.mem_of_getElem? hg))
      obtain ⟨ad, U, had, hU, hRU, hAU⟩ := rrow_lies (HX.out.new B.out.t).gs hg
      obtain ⟨ad', V, had', hV, hRV, hAV⟩ := rrow_lies (HY.out.new B.out.t).gs hg
      dsimp only at had had'
      subst had had'
      obtain ⟨cd, ka, kc, hcd, hcc, hci, -, -, -⟩ := (HX.out.new B.out.t).ca.r.row i (by rw [HO.out.pool]; exact hlt)
      obtain ⟨cd', ka', kc', hcd', hcc', hci', -, -, -⟩ := (HY.out.new B.out.t).ca.r.row i (by rw [HO.out.pool]; exact hlt)
      dsimp only at hcd hcd'
      subst hcd hcd'
      obtain ⟨q, hq⟩ : ∃ q, (s'.pool.M i).length = q := ⟨_, rfl⟩
      rw [hq] at hcc hcc'
      have HQ := Lib.hid hq
      have hq64 := HO.out.good.row (show i ≤ s'.pool.n by rw [HO.out.pool]; omega)
      rw [hq] at hq64
      have HCI := Lib.hid hci
      have HCI' := Lib.hid hci'
      have HUV := Lib.hid (And.intro hU hV)
      have HRU := Lib.hid hRU
      have HRV := Lib.hid hRV
      have F0 := B.out.f 0 rfl
      have F1 := B.out.f 1 rfl
      have G0 : wr.cell? ⟨b0, 3, none⟩ = some (.slice (some ad) cl' gc) := by rw [F0]; show some X.gs.val = _; rw [x1]; rfl
      have G1 : wr.cell? ⟨b1, 3, none⟩ = some (.slice (some ad') cl' gc') := by rw [F1]; show some Y.gs.val = _; rw [y1]; rfl
      have C0 : wr.cell? ⟨b0, 6, none⟩ = some (.slice (some cd) cl' cc) := by rw [F0]; show some X.ca.val = _; rw [x4]; rfl
      have C1 : wr.cell? ⟨b1, 6, none⟩ = some (.slice (some cd') cl' cc') := by rw [F1]; show some Y.ca.val = _; rw [y4]; rfl
      clear F0 F1 hg hq hci hci' hU hV hRU hRV
      go_upto_region 6 with fail
      obtain ⟨A, hA⟩ : ∃ A : World → Prop, A = fun w' => Turn (fun _ => False) wr w' := ⟨_, rfl⟩
      refine stand_start (by kernel_rfl) 99 (fun w' => w'.cell? ⟨b0, 3, none⟩ = some (.slice (some ad) cl' gc) ∧ w'.cell? ⟨b1, 3, none⟩ = some (.slice (some ad') cl' gc') ∧ w'.cell? ⟨b0, 6, none⟩ = some (.slice (some cd) cl' cc) ∧ w'.cell? ⟨b1, 6, none⟩ = some (.slice (some cd') cl' cc') ∧ At w' (ad.add (i * 25)) U.cs ∧ At w' (ad'.add (i * 25)) V.cs ∧ w'.cell? (cd.add i) = some (.slice ka q kc) ∧ w'.cell? (cd'.add i) = some (.slice ka' q kc')) 99 (fun _ => True) ⟨G0, G1, C0, C1, hAU, hAV, hcc, hcc'⟩ trivial ?_
      have HA := Lib.hid (show wr.drew.cell? ⟨b0, 3, none⟩ = some (.slice (some ad) cl' gc) ∧ wr.drew.cell? ⟨b1, 3, none⟩ = some (.slice (some ad') cl' gc') ∧ wr.drew.cell? ⟨b0, 6, none⟩ = some (.slice (some cd) cl' cc) ∧ wr.drew.cell? ⟨b1, 6, none⟩ = some (.slice (some cd') cl' cc') ∧ At wr.drew (ad.add (i * 25)) U.cs ∧ At wr.drew (ad'.add (i * 25)) V.cs ∧ wr.drew.cell? (cd.add i) = some (.slice ka q kc) ∧ wr.drew.cell? (cd'.add i) = some (.slice ka' q kc') from ⟨G0, G1, C0, C1, hAU, hAV, hcc, hcc'⟩)
      have BD := Lib.hid (B.out.new (Turn.refl _ _).drew)
      have HRU2 := Lib.hid (HRU.out.new (Turn.refl (fun _ => False) wr).drew)
      have HRV2 := Lib.hid (HRV.out.new (Turn.refl (fun _ => False) wr).drew)
      have HCI2 : Hid (Ints .i64 wr.drew ka (s'.pool.M i)) := HCI
      have HCI2' : Hid (Ints .i64 wr.drew ka' (s'.pool.M i)) := HCI'
      clear G0 G1 C0 C1 hAU hAV hcc hcc' B hA HRU HRV HCI HCI'
      generalize wr.drew = wd at HA BD HRU2 HRV2 HCI2 HCI2' ⊢
      have hd0 : decide ((i : Int) < 0) = false := decide_eq_false (by omega)
      refine stand_take (i := 0) (v := ?_) rfl (by kernel_rfl) (by kernel_rfl) (by kernel_rfl) (by rfl) (fun _ _ _ h => h) (by decide) (by decide) (by rfl) ?_ ?_
      rotate_left
      · (intro w; go_simp; try with_reducible rfl)
      dsimp only [List.set_cons_zero, List.set_cons_succ]
      refine stand_load3 (i := 1) (v := .slice (some ad) cl' gc) rfl (by kernel_rfl) (by kernel_rfl) (by kernel_rfl) (by rfl) (fun _ _ _ h => h) (by decide) (by decide) (by kernel_rfl) (by rfl) ?_ ?_
      · (intro w hA; have hA0 := hA.1; clear hA; go_simp; try with_reducible rfl)
      dsimp only [List.set_cons_zero, List.set_cons_succ]
      refine stand_take (i := 2) (v := ?_) rfl (by kernel_rfl) (by kernel_rfl) (by kernel_rfl) (by rfl) (fun _ _ _ h => h) (by decide) (by decide) (by rfl) ?_ ?_
      rotate_left
      · (intro w; go_simp; try with_reducible rfl)
      dsimp only [List.set_cons_zero, List.set_cons_succ]
      refine stand_take (i := 3) (v := ?_) rfl (by kernel_rfl) (by kernel_rfl) (by kernel_rfl) (by rfl) (fun _ _ _ h => h) (by decide) (by decide) (by rfl) ?_ ?_
      rotate_left
      · (intro w; go_simp; try with_reducible rfl)
      dsimp only [List.set_cons_zero, List.set_cons_succ]
      refine stand_load3 (i := 4) (v := .agg U.cs.toArray) rfl (by kernel_rfl) (by kernel_rfl) (by kernel_rfl) (by rfl) (fun _ _ _ h => h) (by decide) (by decide) (by kernel_rfl) (by rfl) (fun w hA => exec_at hA.2.2.2.2.1 t_g rfl rfl) ?_
      dsimp only [List.set_cons_zero, List.set_cons_succ]
      refine stand_take (i := 5) (v := ?_) rfl (by kernel_rfl) (by kernel_rfl) (by kernel_rfl) (by rfl) (fun _ _ _ h => h) (by decide) (by decide) (by rfl) ?_ ?_
      rotate_left
      · (intro w; go_simp; try with_reducible rfl)
      dsimp only [List.set_cons_zero, List.set_cons_succ]
      refine stand_load3 (i := 6) (v := .slice (some ad') cl' gc') rfl (by kernel_rfl) (by kernel_rfl) (by kernel_rfl) (by rfl) (fun _ _ _ h => h) (by decide) (by decide) (by kernel_rfl) (by rfl) ?_ ?_
      · (intro w hA; have hA0 := hA.2.1; clear hA; go_simp; try with_reducible rfl)
      dsimp only [List.set_cons_zero, List.set_cons_succ]
      refine stand_take (i := 7) (v := ?_) rfl (by kernel_rfl) (by kernel_rfl) (by kernel_rfl) (by rfl) (fun _ _ _ h => h) (by decide) (by decide) (by rfl) ?_ ?_
      rotate_left
      · (intro w; go_simp; try with_reducible rfl)
      dsimp only [List.set_cons_zero, List.set_cons_succ]
      refine stand_take (i := 8) (v := ?_) rfl (by kernel_rfl) (by kernel_rfl) (by kernel_rfl) (by rfl) (fun _ _ _ h => h) (by decide) (by decide) (by rfl) ?_ ?_
      rotate_left
      · (intro w; go_simp; try with_reducible rfl)
      dsimp only [List.set_cons_zero, List.set_cons_succ]
      refine stand_load3 (i := 9) (v := .agg V.cs.toArray) rfl (by kernel_rfl) (by kernel_rfl) (by kernel_rfl) (by rfl) (fun _ _ _ h => h) (by decide) (by decide) (by kernel_rfl) (by rfl) (fun w hA => exec_at hA.2.2.2.2.2.1 t_g rfl rfl) ?_
      dsimp only [List.set_cons_zero, List.set_cons_succ]
      refine stand_step (i := 10) (by kernel_rfl) rfl (fun K hK => ?_)
      go_simp
      refine (sameg_same wd HRU2.out HRV2.out (HUV.out.2.trans HUV.out.1.symm) (by rw [HUV.out.1]; exact HTG.out)).mono ?_
      rintro e w6 ⟨rfl, t6⟩
      have HA6 := Lib.hid (show _ ∧ _ ∧ _ ∧ _ ∧ _ ∧ _ ∧ _ ∧ _ from ⟨t6.cell id HA.out.1, t6.cell id HA.out.2.1, t6.cell id HA.out.2.2.1, t6.cell id HA.out.2.2.2.1, HA.out.2.2.2.2.1.new t6, HA.out.2.2.2.2.2.1.new t6, t6.cell id HA.out.2.2.2.2.2.2.1, t6.cell id HA.out.2.2.2.2.2.2.2⟩)
      refine hK.out _ _ (fun _ => HA6.out) (fun _ => trivial) ?_
      clear hK K
      try simp only [put_laid, List.set_cons_zero, List.set_cons_succ]
      have B6 := Lib.hid (BD.out.new t6)
      have T6 := Lib.hid t6
      clear t6 BD HA
      refine stand_take (i := 11) (v := ?_) rfl (by kernel_rfl) (by kernel_rfl) (by kernel_rfl) (by rfl) (fun _ _ _ h => h) (by decide) (by decide) (by rfl) ?_ ?_
      rotate_left
      · (intro w; go_simp; try with_reducible rfl)
      dsimp only [List.set_cons_zero, List.set_cons_succ]
      refine stand_take (i := 12) (v := ?_) rfl (by kernel_rfl) (by kernel_rfl) (by kernel_rfl) (by rfl) (fun _ _ _ h => h) (by decide) (by decide) (by rfl) ?_ ?_
      rotate_left
      · (intro w; go_simp; try with_reducible rfl)
      dsimp only [List.set_cons_zero, List.set_cons_succ]
      refine stand_take (i := 13) (v := ?_) rfl (by kernel_rfl) (by kernel_rfl) (by kernel_rfl) (by rfl) (fun _ _ _ h => h) (by decide) (by decide) (by rfl) ?_ ?_
      rotate_left
      · (intro w; go_simp; try with_reducible rfl)
      dsimp only [List.set_cons_zero, List.set_cons_succ]
      refine stand_load3 (i := 14) (v := .slice (some cd) cl' cc) rfl (by kernel_rfl) (by kernel_rfl) (by kernel_rfl) (by rfl) (fun _ _ _ h => h) (by decide) (by decide) (by kernel_rfl) (by rfl) ?_ ?_
      · (intro w hA; have hA0 := hA.2.2.1; clear hA; go_simp; try with_reducible rfl)
      dsimp only [List.set_cons_zero, List.set_cons_succ]
      refine stand_take (i := 15) (v := ?_) rfl (by kernel_rfl) (by kernel_rfl) (by kernel_rfl) (by rfl) (fun _ _ _ h => h) (by decide) (by decide) (by rfl) ?_ ?_
      rotate_left
      · (intro w; go_simp; try with_reducible rfl)
      dsimp only [List.set_cons_zero, List.set_cons_succ]
      refine stand_take (i := 16) (v := ?_) rfl (by kernel_rfl) (by kernel_rfl) (by kernel_rfl) (by rfl) (fun _ _ _ h => h) (by decide) (by decide) (by rfl) ?_ ?_
      rotate_left
      · (intro w; go_simp; try with_reducible rfl)
      dsimp only [List.set_cons_zero, List.set_cons_succ]
      refine stand_load3 (i := 17) (v := .slice ka q kc) rfl (by kernel_rfl) (by kernel_rfl) (by kernel_rfl) (by rfl) (fun _ _ _ h => h) (by decide) (by decide) (by kernel_rfl) (by rfl) ?_ ?_
      · (intro w hA; have hA0 := hA.2.2.2.2.2.2.1; clear hA; go_simp; try with_reducible rfl)
      dsimp only [List.set_cons_zero, List.set_cons_succ]
      refine stand_take (i := 18) (v := ?_) rfl (by kernel_rfl) (by kernel_rfl) (by kernel_rfl) (by rfl) (fun _ _ _ h => h) (by decide) (by decide) (by rfl) ?_ ?_
      rotate_left
      · (intro w; go_simp; try with_reducible rfl)
      dsimp only [List.set_cons_zero, List.set_cons_succ]
      refine stand_load3 (i := 19) (v := .slice (some cd') cl' cc') rfl (by kernel_rfl) (by kernel_rfl) (by kernel_rfl) (by rfl) (fun _ _ _ h => h) (by decide) (by decide) (by kernel_rfl) (by rfl) ?_ ?_
      · (intro w hA; have hA0 := hA.2.2.2.1; clear hA; go_simp; try with_reducible rfl)
      dsimp only [List.set_cons_zero, List.set_cons_succ]
      refine stand_take (i := 20) (v := ?_) rfl (by kernel_rfl) (by kernel_rfl) (by kernel_rfl) (by rfl) (fun _ _ _ h => h) (by decide) (by decide) (by rfl) ?_ ?_
      rotate_left
      · (intro w; go_simp; try with_reducible rfl)
      dsimp only [List.set_cons_zero, List.set_cons_succ]
      refine stand_take (i := 21) (v := ?_) rfl (by kernel_rfl) (by kernel_rfl) (by kernel_rfl) (by rfl) (fun _ _ _ h => h) (by decide) (by decide) (by rfl) ?_ ?_
      rotate_left
      · (intro w; go_simp; try with_reducible rfl)
      dsimp only [List.set_cons_zero, List.set_cons_succ]
      refine stand_load3 (i := 22) (v := .slice ka' q kc') rfl (by kernel_rfl) (by kernel_rfl) (by kernel_rfl) (by rfl) (fun _ _ _ h => h) (by decide) (by decide) (by kernel_rfl) (by rfl) ?_ ?_
      · (intro w hA; have hA0 := hA.2.2.2.2.2.2.2; clear hA; go_simp; try with_reducible rfl)
      dsimp only [List.set_cons_zero, List.set_cons_succ]
      refine stand_step (i := 23) (by kernel_rfl) rfl (fun K hK => ?_)
      go_simp
      refine (ints_same (L := s'.pool.M i) (s := ⟨ka, q, kc⟩) (t := ⟨ka', q, kc'⟩) w6 (HCI2.out.turn T6.out (fun _ _ => id)) (HCI2'.out.turn T6.out (fun _ _ => id)) HQ.out (by omega)).mono ?_
      rintro e w7 ⟨rfl, t7⟩
      refine hK.out _ _ (fun _ => ⟨t7.cell id HA6.out.1, t7.cell id HA6.out.2.1, t7.cell id HA6.out.2.2.1, t7.cell id HA6.out.2.2.2.1, HA6.out.2.2.2.2.1.new t7, HA6.out.2.2.2.2.2.1.new t7, t7.cell id HA6.out.2.2.2.2.2.2.1, t7.cell id HA6.out.2.2.2.2.2.2.2⟩) (fun _ => trivial) ?_
      clear hK K
      try simp only [put_laid, List.set_cons_zero, List.set_cons_succ]
      have B7 := Lib.hid (B6.out.new t7)
      clear t7 B6 HA6 T6
      refine stand_take (i := 24) (v := ?_) rfl (by kernel_rfl) (by kernel_rfl) (by kernel_rfl) (by rfl) (fun _ _ _ h => h) (by decide) (by decide) (by rfl) ?_ ?_
      rotate_left
      · (intro w; go_simp; try with_reducible rfl)
      dsimp only [List.set_cons_zero, List.set_cons_succ]
      refine stand_take (i := 25) (v := ?_) rfl (by kernel_rfl) (by kernel_rfl) (by kernel_rfl) (by rfl) (fun _ _ _ h => h) (by decide) (by decide) (by rfl) ?_ ?_
      rotate_left
      · (intro w; go_simp; try with_reducible rfl)
      dsimp only [List.set_cons_zero, List.set_cons_succ]
      refine stand_done (by kernel_rfl) ?_
      clear hd0
      go_wp2_with fail
      go_roundw
      case rel => exact ⟨i + 1, by omega, by go_num, B7⟩
      case measure => simp [intOf]; omega
    · obtain rfl : i = cl' := by omega
      have F0 := B.out.f 0 rfl
      have F1 := B.out.f 1 rfl
      go_upto_region 10 with fail
      clear F0 F1
      go_loopw [134] (fun s134 wr => s134 = .int .i64 0 ∧ Hid (Boxes w wr [(b0, 41, X.cs), (b1, 41, Y.cs)])) (fun _ _ => 0)
      case atStart => exact ⟨rfl, B⟩
      case round =>
        clear B
        obtain ⟨rfl, B⟩ := hrel
        have F0 := B.out.f 0 rfl
        have F1 := B.out.f 1 rfl
        go_upto_region 16 with fail
        clear F0 F1
        go_loopw [153] (fun s153 wr => ∃ j : Nat, j ≤ sl' ∧ s153 = .int .i64 j ∧ Hid (Boxes w wr [(b0, 41, X.cs), (b1, 41, Y.cs)])) (fun s153 _ => sl' - (intOf s153).toNat)
        case atStart => exact ⟨0, Nat.zero_le _, rfl, B⟩
        case round =>
          clear B
          obtain ⟨j, hj, rfl, B⟩ := hrel
          by_cases hlt : j < sl'
          · obtain ⟨g, hg⟩ : ∃ g, s'.sudogs[j]? = some g := ⟨_, List.getElem?_eq_getElem (by rw [H3.out]; exact hlt)⟩
            obtain ⟨ad, U, had, hU, -, hAU⟩ := rrow_lies (HX.out.new B.out.t).sd hg
            obtain ⟨ad', V, had', hV, -, hAV⟩ := rrow_lies (HY.out.new B.out.t).sd hg
            dsimp only [id] at had had' hU hV
            subst had had' hU hV
            have hs1 := HO.out.sd
            rw [H3.out] at hs1
            have F0 := B.out.f 0 rfl
            have F1 := B.out.f 1 rfl
            have G0 : wr.cell? ⟨b0, 5, none⟩ = some (.slice (some ad) sl' sc) := by rw [F0]; show some X.sd.val = _; rw [x3]; rfl
            have G1 : wr.cell? ⟨b1, 5, none⟩ = some (.slice (some ad') sl' sc') := by rw [F1]; show some Y.sd.val = _; rw [y3]; rfl
            clear F0 F1 hg
            go_upto_region 18 with fail
            refine stand_start (by kernel_rfl) 99 (fun w' => w'.cell? ⟨b0, 5, none⟩ = some (.slice (some ad) sl' sc) ∧ w'.cell? ⟨b1, 5, none⟩ = some (.slice (some ad') sl' sc') ∧ At w' (ad.add (j * 7)) V.cs ∧ At w' (ad'.add (j * 7)) V.cs) 99 (fun _ => True) ⟨G0, G1, hAU, hAV⟩ trivial ?_
            have BD := Lib.hid (B.out.new (Turn.refl _ _).drew)
            clear G0 G1 hAU hAV B
            generalize wr.drew = wd at BD ⊢
            have hd0 : decide ((j : Int) < 0) = false := decide_eq_false (by omega)
            refine stand_take (i := 0) (v := ?_) rfl (by kernel_rfl) (by kernel_rfl) (by kernel_rfl) (by rfl) (fun _ _ _ h => h) (by decide) (by decide) (by rfl) ?_ ?_
            rotate_left
            · (intro w; go_simp; try with_reducible rfl)
            dsimp only [List.set_cons_zero, List.set_cons_succ]
            refine stand_load3 (i := 1) (v := .slice (some ad) sl' sc) rfl (by kernel_rfl) (by kernel_rfl) (by kernel_rfl) (by rfl) (fun _ _ _ h => h) (by decide) (by decide) (by kernel_rfl) (by rfl) ?_ ?_
            · (intro w hA; have hA0 := hA.1; clear hA; go_simp; try with_reducible rfl)
            dsimp only [List.set_cons_zero, List.set_cons_succ]
            refine stand_take (i := 2) (v := ?_) rfl (by kernel_rfl) (by kernel_rfl) (by kernel_rfl) (by rfl) (fun _ _ _ h => h) (by decide) (by decide) (by rfl) ?_ ?_
            rotate_left
            · (intro w; go_simp; try with_reducible rfl)
            dsimp only [List.set_cons_zero, List.set_cons_succ]
            refine stand_take (i := 3) (v := ?_) rfl (by kernel_rfl) (by kernel_rfl) (by kernel_rfl) (by rfl) (fun _ _ _ h => h) (by decide) (by decide) (by rfl) ?_ ?_
            rotate_left
            · (intro w; go_simp; try with_reducible rfl)
            dsimp only [List.set_cons_zero, List.set_cons_succ]
            refine stand_load3 (i := 4) (v := .agg V.cs.toArray) rfl (by kernel_rfl) (by kernel_rfl) (by kernel_rfl) (by rfl) (fun _ _ _ h => h) (by decide) (by decide) (by kernel_rfl) (by rfl) (fun w hA => exec_at hA.2.2.1 t_sudog rfl rfl) ?_
            dsimp only [List.set_cons_zero, List.set_cons_succ]
            refine stand_take (i := 5) (v := ?_) rfl (by kernel_rfl) (by kernel_rfl) (by kernel_rfl) (by rfl) (fun _ _ _ h => h) (by decide) (by decide) (by rfl) ?_ ?_
            rotate_left
            · (intro w; go_simp; try with_reducible rfl)
            dsimp only [List.set_cons_zero, List.set_cons_succ]
            refine stand_load3 (i := 6) (v := .slice (some ad') sl' sc') rfl (by kernel_rfl) (by kernel_rfl) (by kernel_rfl) (by rfl) (fun _ _ _ h => h) (by decide) (by decide) (by kernel_rfl) (by rfl) ?_ ?_
            · (intro w hA; have hA0 := hA.2.1; clear hA; go_simp; try with_reducible rfl)
            dsimp only [List.set_cons_zero, List.set_cons_succ]
            refine stand_take (i := 7) (v := ?_) rfl (by kernel_rfl) (by kernel_rfl) (by kernel_rfl) (by rfl) (fun _ _ _ h => h) (by decide) (by decide) (by rfl) ?_ ?_
            rotate_left
            · (intro w; go_simp; try with_reducible rfl)
            dsimp only [List.set_cons_zero, List.set_cons_succ]
            refine stand_take (i := 8) (v := ?_) rfl (by kernel_rfl) (by kernel_rfl) (by kernel_rfl) (by rfl) (fun _ _ _ h => h) (by decide) (by decide) (by rfl) ?_ ?_
            rotate_left
            · (intro w; go_simp; try with_reducible rfl)
            dsimp only [List.set_cons_zero, List.set_cons_succ]
            refine stand_load3 (i := 9) (v := .agg V.cs.toArray) rfl (by kernel_rfl) (by kernel_rfl) (by kernel_rfl) (by rfl) (fun _ _ _ h => h) (by decide) (by decide) (by kernel_rfl) (by rfl) (fun w hA => exec_at hA.2.2.2 t_sudog rfl rfl) ?_
            dsimp only [List.set_cons_zero, List.set_cons_succ]
            have hE := equal_sd V
            have hg := guard_sd
            refine stand_take (i := 10) (v := .bool false) rfl (by kernel_rfl) (by kernel_rfl) (by kernel_rfl) (by rfl) (fun _ _ _ h => h) (by decide) (by decide) (by rfl) ?_ ?_
            · (intro w; go_simp; try with_reducible rfl)
            dsimp only [List.set_cons_zero, List.set_cons_succ]
            refine stand_done (by kernel_rfl) ?_
            clear hE hg hd0
            go_wp2_with fail
            go_roundw
            case rel => exact ⟨j + 1, by omega, by go_num, BD⟩
            case measure => simp [intOf]; omega
          · obtain rfl : j = sl' := by omega
            have F0 := B.out.f 0 rfl
            have F1 := B.out.f 1 rfl
            go_upto_region 22 with fail
            clear F0 F1
            go_loopw [171] (fun s171 wr => ∃ k : Nat, k ≤ rl' ∧ s171 = .int .i64 k ∧ Hid (Boxes w wr [(b0, 41, X.cs), (b1, 41, Y.cs)])) (fun s171 _ => rl' - (intOf s171).toNat)
            case atStart => exact ⟨0, Nat.zero_le _, rfl, B⟩
            case round =>
              clear B
              obtain ⟨k, hk, rfl, B⟩ := hrel
              by_cases hlt : k < rl'
              · obtain ⟨a, had, ha⟩ := (HX.out.new B.out.t).dr.has k (by rw [H6.out]; exact hlt)
                obtain ⟨b, had', hb⟩ := (HY.out.new B.out.t).dr.has k (by rw [H6.out]; exact hlt)
                dsimp only at had had'
                subst had had'
                obtain ⟨v, hv⟩ : ∃ v, s'.draws.getD k 0 = v := ⟨_, rfl⟩
                rw [hv] at ha hb
                have hs1 := HO.out.dr
                rw [H6.out] at hs1
                have F0 := B.out.f 0 rfl
                have F1 := B.out.f 1 rfl
                have G0 : wr.cell? ⟨b0, 9, none⟩ = some (.slice (some a) rl' rc) := by rw [F0]; show some X.dr.val = _; rw [x6]; rfl
                have G1 : wr.cell? ⟨b1, 9, none⟩ = some (.slice (some b) rl' rc') := by rw [F1]; show some Y.dr.val = _; rw [y6]; rfl
                clear F0 F1 hv
                go_wp2_with fail
                go_quiet (fail)
                go_wp2_with fail
                go_roundw
                case rel => exact ⟨k + 1, by omega, by go_num, Lib.hid (B.out.new ((Turn.refl _ _).drewN _))⟩
                case measure => simp [intOf]; omega
              · obtain rfl : k = rl' := by omega
                have F0 := B.out.f 0 rfl
                have F1 := B.out.f 1 rfl
                go_upto_region 28 with fail
                clear F0 F1
                go_loopw [189] (fun s189 wr => s189 = .int .i64 0 ∧ Hid (Boxes w wr [(b0, 41, X.cs), (b1, 41, Y.cs)])) (fun _ _ => 0)
                case atStart => exact ⟨rfl, B⟩
                case round =>
                  clear B
                  obtain ⟨rfl, B⟩ := hrel
                  go_wp2_with fail
                  go_ret
                  exact ⟨rfl, B.out.t⟩

end Go.Proofs.Ytenbafkgfdlfpaa
