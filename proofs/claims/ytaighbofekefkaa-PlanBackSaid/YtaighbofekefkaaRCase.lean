/- The code's: the case that is next. -/
import Derived.Test.YtaighbofekefkaaNext
namespace Go.Proofs.Ytaighbofekefkaa
open Go.RowKit
set_option linter.unusedVariables false

theorem next_at {ao : Option Addr} {n c i pu pb : Nat} {B : List Int} {x by_ r : Int} (w0 w : World) (hB : Ints .u8 w0 ao B) (hn : B.length = n) (hN : Nx w0 w pu pb (.slice ao n c) n i) (hx : atB B i = x) (hb : 0 ≤ x ∧ x ≤ 255) (hy : 1 ≤ by_ ∧ by_ ≤ 256) (hm : n ≤ 100000) (hr : x % by_ = r) :
    Calls Try.prog 32 #[.int .i64 by_, .pointer (some ⟨pu, 0, none⟩), .pointer (some ⟨pb, 0, none⟩)] w fun e w' => e = .returned (.int .i64 r) ∧ Nx w0 w' pu pb (.slice ao n c) n (i + 1) ∧ Turn (fun j => j = pu) w w' := by
  subst hr
  exact next_any w0 w hB hn hN hx hb hy hm

/-- Where the walk stands: the answer's block, still zero, and the case's. -/
structure CaS (w wc : World) (pu rz cb : Nat) (f : Bool) (k1 k2 : Int) : Prop where
  z : Three wc rz false 0 0
  x : Three wc cb f k1 k2
  t : Turn (fun j => j = pu) w wc
  pl : pu < w.heap.size
  low : w.heap.size ≤ rz
  nxt : rz < cb
section
variable {w wc w' : World} {pu rz cb : Nat} {k1 k2 : Int} {f : Bool}
theorem CaS.next (h : CaS w wc pu rz cb f k1 k2) (t : Turn (fun j => j = pu) wc w') : CaS w w' pu rz cb f k1 k2 :=
  ⟨h.z.turn t (by have := h.pl; have := h.low; omega), h.x.turn t (by have := h.pl; have := h.low; have := h.nxt; omega), h.t.trans t, h.pl, h.low, h.nxt⟩
theorem CaS.tset (h : CaS w wc pu rz cb f k1 k2) (k : Nat) (u : Value) : Turn (fun j => j = pu) w (wc.setCell ⟨cb, k, none⟩ u) := h.t.and (set_turn wc cb k u) (fun i hi e => by have := h.low; have := h.nxt; omega)
theorem CaS.zset (h : CaS w wc pu rz cb f k1 k2) (k : Nat) (u : Value) : Three (wc.setCell ⟨cb, k, none⟩ u) rz false 0 0 := h.z.far (p := ⟨cb, k, none⟩) (by have := h.nxt; show rz ≠ cb; omega) u
theorem CaS.put1 (h : CaS w wc pu rz cb f k1 k2) (x : Int) : CaS w (wc.setCell ⟨cb, 1, none⟩ (.int .i64 x)) pu rz cb f x k2 := ⟨h.zset 1 _, h.x.put1 x, h.tset 1 _, h.pl, h.low, h.nxt⟩
theorem CaS.put2 (h : CaS w wc pu rz cb f k1 k2) (x : Int) : CaS w (wc.setCell ⟨cb, 2, none⟩ (.int .i64 x)) pu rz cb f k1 x := ⟨h.zset 2 _, h.x.put2 x, h.tset 2 _, h.pl, h.low, h.nxt⟩
end
theorem Nx.far {w0 w : World} {pu pb n i : Nat} {v : Value} (h : Nx w0 w pu pb v n i) {b : Nat} (hb : pu < b) (hb' : pb < b) (k : Nat) (u : Value) : Nx w0 (w.setCell ⟨b, k, none⟩ u) pu pb v n i :=
  h.turned (set_turn w b k u) (by omega) (by omega) (fun j e => by have := h.low; omega)


set_option maxRecDepth 100000 in
set_option maxHeartbeats 2000000 in
theorem readcase_any {ao : Option Addr} {n c i pu pb : Nat} {B : List Int} (w0 w : World) (hB : Ints .u8 w0 ao B) (hn : B.length = n) (hb : IsBytes B) (hm : n ≤ 100000) (hN : Nx w0 w pu pb (.slice ao n c) n i) :
    Calls Try.prog 42 #[.func (.func 32) #[] #[.pointer (some ⟨pu, 0, none⟩), .pointer (some ⟨pb, 0, none⟩)]] w fun e w' => e = .returned (casOne B i).1.val ∧ Nx w0 w' pu pb (.slice ao n c) n (casOne B i).2 ∧ Turn (fun j => j = pu) w w' := by
  have HB := Lib.hid hB
  have HN := Lib.hid hn
  have HNX := Lib.hid hN
  have hpu : pu < w.heap.size := hN.u.lt
  have hpb : pb < w.heap.size := hN.b.lt
  obtain ⟨xa, hxa⟩ : ∃ x, atB B i = x := ⟨_, rfl⟩
  obtain ⟨xc, hxc⟩ : ∃ x, atB B (i + 1) = x := ⟨_, rfl⟩
  obtain ⟨xv, hxv⟩ : ∃ x, atB B (i + 2) = x := ⟨_, rfl⟩
  have ba : 0 ≤ xa ∧ xa ≤ 255 := hxa ▸ hb.at i
  have bc : 0 ≤ xc ∧ xc ≤ 255 := hxc ▸ hb.at (i + 1)
  have bv : 0 ≤ xv ∧ xv ≤ 255 := hxv ▸ hb.at (i + 2)
  have HA := Lib.hid hxa
  have HC := Lib.hid hxc
  have HV := Lib.hid hxv
  obtain ⟨rc, hrc'⟩ : ∃ r, xc % 9 = r := ⟨_, rfl⟩
  have hrc := Lib.hid hrc'
  have hrv := Lib.hid (show xv % 256 = xv by omega)
  have brc : 0 ≤ rc ∧ rc ≤ 8 := by omega
  rcases (show xa % 2 = 1 ∨ xa % 2 = 0 by omega) with hs | hs
  · have HFIN := Lib.hid (show casOne B i = (⟨true, rc, xv⟩, i + 3) by rw [casOne_yes hxa hxc hxv hs, hrc'])
    have hra := Lib.hid hs
    clear hB hn hN hxa hxc hxv hrc' hs
    go_enter Try.func42, Try.ntmps42
    have NN := Lib.hid (HNX.out.new ((Turn.refl (fun _ => False) w).alloc (.cells #[.bool false, .int .i64 0, .int .i64 0] 45)))
    have Z1 : Hid (Three (w.alloc (.cells #[.bool false, .int .i64 0, .int .i64 0] 45)) w.heap.size false 0 0) := Lib.hid (blk_new w _ 45)
    go_wp2_with fail
    refine (next_at w0 _ HB.out HN.out NN.out HA.out ba (by omega) hm hra.out).mono ?_
    rintro e w8 ⟨rfl, nx8, t8⟩
    have NN := Lib.hid nx8
    have T8 := Lib.hid t8
    clear nx8 t8
    have Z2 := Lib.hid (Z1.out.turn T8.out (by omega))
    have S2 : w.heap.size < w8.heap.size := Z2.out.lt
    have T2 := Lib.hid (show Turn (fun j => j = pu) w w8 from ((Turn.refl _ w).alloc _).trans T8.out)
    obtain ⟨rz, hrz⟩ : ∃ b, w.heap.size = b := ⟨_, rfl⟩
    rw [hrz] at Z2 hpu hpb S2 ⊢
    go_upto_region 2 with fail
    have A : Hid (CaS w (w8.alloc (.cells #[.bool true, .int .i64 0, .int .i64 0] 45)) pu rz w8.heap.size true 0 0) := Lib.hid ⟨Z2.out.new ((Turn.refl _ _).alloc _), blk_new w8 _ 45, T2.out.alloc _, by omega, by omega, S2⟩
    have NN := Lib.hid (NN.out.new ((Turn.refl (fun _ => False) w8).alloc (.cells #[.bool true, .int .i64 0, .int .i64 0] 45)))
    obtain ⟨cb, hcb⟩ : ∃ b, w8.heap.size = b := ⟨_, rfl⟩
    rw [hcb] at A S2 ⊢
    generalize w8.alloc (.cells #[.bool true, .int .i64 0, .int .i64 0] 45) = wa at A NN ⊢
    clear Z1 Z2 T2 T8 hrz hcb
    go_wp2_with fail
    refine (next_at w0 _ HB.out HN.out NN.out HC.out bc (by omega) hm hrc.out).mono ?_
    rintro e w8 ⟨rfl, nx8, t8⟩
    have NN := Lib.hid nx8
    have T8 := Lib.hid t8
    clear nx8 t8
    have A := Lib.hid (A.out.next T8.out)
    obtain ⟨⟨d0, d1, d2⟩, e0, e1, e2⟩ := A.out.x.cells
    go_upto_region 3 with fail
    have A := Lib.hid (A.out.put1 rc)
    have NN := Lib.hid (NN.out.far (b := cb) (by omega) (by omega) 1 (.int .i64 rc))
    clear d0 d1 d2 e0 e1 e2
    generalize w8.setCell ⟨cb, 1, none⟩ (.int .i64 rc) = wb at A NN ⊢
    obtain ⟨⟨d0, d1, d2⟩, e0, e1, e2⟩ := A.out.x.cells
    go_wp2_with fail
    refine (next_at w0 _ HB.out HN.out NN.out HV.out bv (by omega) hm hrv.out).mono ?_
    rintro e w8 ⟨rfl, nx8, t8⟩
    have NN := Lib.hid nx8
    have T8 := Lib.hid t8
    clear nx8 t8
    have A := Lib.hid (A.out.next T8.out)
    clear d0 d1 d2 e0 e1 e2
    obtain ⟨⟨d0, d1, d2⟩, e0, e1, e2⟩ := A.out.x.cells
    go_upto_region 5 with fail
    have A := Lib.hid (A.out.put2 xv)
    have NN := Lib.hid (NN.out.far (b := cb) (by omega) (by omega) 2 (.int .i64 xv))
    clear d0 d1 d2 e0 e1 e2
    generalize w8.setCell ⟨cb, 2, none⟩ (.int .i64 xv) = wd at A NN ⊢
    obtain ⟨⟨d0, d1, d2⟩, e0, e1, e2⟩ := A.out.x.cells
    obtain ⟨⟨z0, z1, z2⟩, y0, y1, y2⟩ := A.out.z.cells
    go_wp2_with fail
    clear d0 d1 d2 e0 e1 e2
    clear z0 z1 z2 y0 y1 y2
    have ZF := Lib.hid (A.out.z.all true rc (xv))
    have TF := Lib.hid (A.out.t.and (three_turn wd rz (.bool true) (.int .i64 rc) (.int .i64 (xv))) (fun j hj e => by have := A.out.low; omega))
    have NF := Lib.hid (NN.out.turned (three_turn wd rz (.bool true) (.int .i64 rc) (.int .i64 (xv))) (by omega) (by omega) (fun j e => by have := NN.out.low; omega))
    generalize ((wd.setCell ⟨rz, 0, none⟩ (.bool true)).setCell ⟨rz, 1, none⟩ (.int .i64 rc)).setCell ⟨rz, 2, none⟩ (.int .i64 (xv)) = wf at ZF TF NF ⊢
    obtain ⟨⟨c0, c1, c2⟩, _⟩ := ZF.out.cells
    refine bodyPost_ret (v := .agg #[.bool true, .int .i64 rc, .int .i64 (xv)]) (by simp [results, Try.results42, go_sem, c0, c1, c2]) rfl ?_
    rw [HFIN.out]
    exact ⟨rfl, NF.out, TF.out⟩
  · have HFIN := Lib.hid (show casOne B i = (⟨false, rc, 0⟩, i + 2) by rw [casOne_no hxa hxc hs, hrc'])
    have hra := Lib.hid hs
    clear hB hn hN hxa hxc hxv hrc' hs
    go_enter Try.func42, Try.ntmps42
    have NN := Lib.hid (HNX.out.new ((Turn.refl (fun _ => False) w).alloc (.cells #[.bool false, .int .i64 0, .int .i64 0] 45)))
    have Z1 : Hid (Three (w.alloc (.cells #[.bool false, .int .i64 0, .int .i64 0] 45)) w.heap.size false 0 0) := Lib.hid (blk_new w _ 45)
    go_wp2_with fail
    refine (next_at w0 _ HB.out HN.out NN.out HA.out ba (by omega) hm hra.out).mono ?_
    rintro e w8 ⟨rfl, nx8, t8⟩
    have NN := Lib.hid nx8
    have T8 := Lib.hid t8
    clear nx8 t8
    have Z2 := Lib.hid (Z1.out.turn T8.out (by omega))
    have S2 : w.heap.size < w8.heap.size := Z2.out.lt
    have T2 := Lib.hid (show Turn (fun j => j = pu) w w8 from ((Turn.refl _ w).alloc _).trans T8.out)
    obtain ⟨rz, hrz⟩ : ∃ b, w.heap.size = b := ⟨_, rfl⟩
    rw [hrz] at Z2 hpu hpb S2 ⊢
    go_upto_region 2 with fail
    have A : Hid (CaS w (w8.alloc (.cells #[.bool false, .int .i64 0, .int .i64 0] 45)) pu rz w8.heap.size false 0 0) := Lib.hid ⟨Z2.out.new ((Turn.refl _ _).alloc _), blk_new w8 _ 45, T2.out.alloc _, by omega, by omega, S2⟩
    have NN := Lib.hid (NN.out.new ((Turn.refl (fun _ => False) w8).alloc (.cells #[.bool false, .int .i64 0, .int .i64 0] 45)))
    obtain ⟨cb, hcb⟩ : ∃ b, w8.heap.size = b := ⟨_, rfl⟩
    rw [hcb] at A S2 ⊢
    generalize w8.alloc (.cells #[.bool false, .int .i64 0, .int .i64 0] 45) = wa at A NN ⊢
    clear Z1 Z2 T2 T8 hrz hcb
    go_wp2_with fail
    refine (next_at w0 _ HB.out HN.out NN.out HC.out bc (by omega) hm hrc.out).mono ?_
    rintro e w8 ⟨rfl, nx8, t8⟩
    have NN := Lib.hid nx8
    have T8 := Lib.hid t8
    clear nx8 t8
    have A := Lib.hid (A.out.next T8.out)
    obtain ⟨⟨d0, d1, d2⟩, e0, e1, e2⟩ := A.out.x.cells
    go_upto_region 3 with fail
    have A := Lib.hid (A.out.put1 rc)
    have NN := Lib.hid (NN.out.far (b := cb) (by omega) (by omega) 1 (.int .i64 rc))
    clear d0 d1 d2 e0 e1 e2
    generalize w8.setCell ⟨cb, 1, none⟩ (.int .i64 rc) = wb at A NN ⊢
    obtain ⟨⟨d0, d1, d2⟩, e0, e1, e2⟩ := A.out.x.cells
    obtain ⟨⟨z0, z1, z2⟩, y0, y1, y2⟩ := A.out.z.cells
    go_wp2_with fail
    clear d0 d1 d2 e0 e1 e2
    clear z0 z1 z2 y0 y1 y2
    have ZF := Lib.hid (A.out.z.all false rc (0))
    have TF := Lib.hid (A.out.t.and (three_turn wb rz (.bool false) (.int .i64 rc) (.int .i64 (0))) (fun j hj e => by have := A.out.low; omega))
    have NF := Lib.hid (NN.out.turned (three_turn wb rz (.bool false) (.int .i64 rc) (.int .i64 (0))) (by omega) (by omega) (fun j e => by have := NN.out.low; omega))
    generalize ((wb.setCell ⟨rz, 0, none⟩ (.bool false)).setCell ⟨rz, 1, none⟩ (.int .i64 rc)).setCell ⟨rz, 2, none⟩ (.int .i64 (0)) = wf at ZF TF NF ⊢
    obtain ⟨⟨c0, c1, c2⟩, _⟩ := ZF.out.cells
    refine bodyPost_ret (v := .agg #[.bool false, .int .i64 rc, .int .i64 (0)]) (by simp [results, Try.results42, go_sem, c0, c1, c2]) rfl ?_
    rw [HFIN.out]
    exact ⟨rfl, NF.out, TF.out⟩

end Go.Proofs.Ytaighbofekefkaa
