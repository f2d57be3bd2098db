/- The code's: the op that is next. -/
import Derived.Test.YtaighbofekefkaaRCase
import Derived.Test.YtaighbofekefkaaStepC
namespace Go.Proofs.Ytaighbofekefkaa
open Go.RowKit
set_option linter.unusedVariables false

/-- Where the walk stands: the answer's block, still zero, and the op's. -/
structure RdS (w wc : World) (pu rz bx : Nat) (k0 k1 k2 k3 : Int) (s : Value) (f : Bool) : Prop where
  z : Six wc rz 0 0 0 0 (.slice none 0 0) false
  x : Six wc bx k0 k1 k2 k3 s f
  t : Turn (fun j => j = pu) w wc
  pl : pu < w.heap.size
  low : w.heap.size ≤ rz
  nxt : rz < bx
section
variable {w wc w' : World} {pu rz bx : Nat} {k0 k1 k2 k3 : Int} {s : Value} {f : Bool}
theorem RdS.new (h : RdS w wc pu rz bx k0 k1 k2 k3 s f) (t : Turn (fun _ => False) wc w') : RdS w w' pu rz bx k0 k1 k2 k3 s f := ⟨h.z.new t, h.x.new t, h.t.trans (t.mono (fun _ _ e => e.elim)), h.pl, h.low, h.nxt⟩
theorem RdS.next (h : RdS w wc pu rz bx k0 k1 k2 k3 s f) (t : Turn (fun j => j = pu) wc w') : RdS w w' pu rz bx k0 k1 k2 k3 s f :=
  ⟨h.z.turn t (by have := h.pl; have := h.low; omega), h.x.turn t (by have := h.pl; have := h.low; have := h.nxt; omega), h.t.trans t, h.pl, h.low, h.nxt⟩
theorem RdS.turned {S : Nat → Prop} (h : RdS w wc pu rz bx k0 k1 k2 k3 s f) (t : Turn S wc w') (hs : ∀ i, S i → bx < i) : RdS w w' pu rz bx k0 k1 k2 k3 s f :=
  ⟨h.z.turn t (fun e => by have := hs _ e; have := h.nxt; omega), h.x.turn t (fun e => by have := hs _ e; omega), h.t.and t (fun i hi e => by have := hs _ e; have := h.nxt; have := h.low; omega), h.pl, h.low, h.nxt⟩
theorem RdS.tset (h : RdS w wc pu rz bx k0 k1 k2 k3 s f) (k : Nat) (u : Value) : Turn (fun j => j = pu) w (wc.setCell ⟨bx, k, none⟩ u) := h.t.and (set_turn wc bx k u) (fun i hi e => by have := h.low; have := h.nxt; omega)
theorem RdS.zset (h : RdS w wc pu rz bx k0 k1 k2 k3 s f) (k : Nat) (u : Value) : Six (wc.setCell ⟨bx, k, none⟩ u) rz 0 0 0 0 (.slice none 0 0) false := h.z.far (p := ⟨bx, k, none⟩) (by have := h.nxt; show rz ≠ bx; omega) u
theorem RdS.put1 (h : RdS w wc pu rz bx k0 k1 k2 k3 s f) (x : Int) : RdS w (wc.setCell ⟨bx, 1, none⟩ (.int .i64 x)) pu rz bx k0 x k2 k3 s f := ⟨h.zset 1 _, h.x.put1 x, h.tset 1 _, h.pl, h.low, h.nxt⟩
theorem RdS.put2 (h : RdS w wc pu rz bx k0 k1 k2 k3 s f) (x : Int) : RdS w (wc.setCell ⟨bx, 2, none⟩ (.int .i64 x)) pu rz bx k0 k1 x k3 s f := ⟨h.zset 2 _, h.x.put2 x, h.tset 2 _, h.pl, h.low, h.nxt⟩
theorem RdS.put3 (h : RdS w wc pu rz bx k0 k1 k2 k3 s f) (x : Int) : RdS w (wc.setCell ⟨bx, 3, none⟩ (.int .i64 x)) pu rz bx k0 k1 k2 x s f := ⟨h.zset 3 _, h.x.put3 x, h.tset 3 _, h.pl, h.low, h.nxt⟩
theorem RdS.put4 (h : RdS w wc pu rz bx k0 k1 k2 k3 s f) (x : Value) : RdS w (wc.setCell ⟨bx, 4, none⟩ x) pu rz bx k0 k1 k2 k3 x f := ⟨h.zset 4 _, h.x.put4 x, h.tset 4 _, h.pl, h.low, h.nxt⟩
theorem RdS.put5 (h : RdS w wc pu rz bx k0 k1 k2 k3 s f) (x : Bool) : RdS w (wc.setCell ⟨bx, 5, none⟩ (.bool x)) pu rz bx k0 k1 k2 k3 s x := ⟨h.zset 5 _, h.x.put5 x, h.tset 5 _, h.pl, h.low, h.nxt⟩
end


set_option maxRecDepth 100000 in
set_option maxHeartbeats 4000000 in
theorem readop_any {ao : Option Addr} {n c i pu pb : Nat} {B : List Int} (w0 w : World) (hB : Ints .u8 w0 ao B) (hn : B.length = n) (hb : IsBytes B) (hm : n ≤ 100000) (hi : i ≤ 100000) (hN : Nx w0 w pu pb (.slice ao n c) n i) :
    Calls Try.prog 33 #[.func (.func 32) #[] #[.pointer (some ⟨pu, 0, none⟩), .pointer (some ⟨pb, 0, none⟩)]] w fun e w' => ∃ r : OpV, e = .returned r.val ∧ BOp w' 45 r (opOne B i).1 ∧ Nx w0 w' pu pb (.slice ao n c) n (opOne B i).2 ∧ Turn (fun j => j = pu) w w' := by
  have HB := Lib.hid hB
  have HN := Lib.hid hn
  have HBY := Lib.hid hb
  have HNX := Lib.hid hN
  have hpu : pu < w.heap.size := hN.u.lt
  have hpb : pb < w.heap.size := hN.b.lt
  obtain ⟨x0, hx0⟩ : ∃ x, atB B i = x := ⟨_, rfl⟩
  obtain ⟨x1, hx1⟩ : ∃ x, atB B (i + 1) = x := ⟨_, rfl⟩
  obtain ⟨x2, hx2⟩ : ∃ x, atB B (i + 2) = x := ⟨_, rfl⟩
  have b0 : 0 ≤ x0 ∧ x0 ≤ 255 := hx0 ▸ hb.at i
  have b1 : 0 ≤ x1 ∧ x1 ≤ 255 := hx1 ▸ hb.at (i + 1)
  have b2 : 0 ≤ x2 ∧ x2 ≤ 255 := hx2 ▸ hb.at (i + 2)
  obtain ⟨r0, hr0⟩ : ∃ k, x0 % 9 = k := ⟨_, rfl⟩
  obtain ⟨kind, hk⟩ : ∃ k, 1 + r0 = k := ⟨_, rfl⟩
  have hkk : kindAt B i = kind := by unfold kindAt; rw [hx0]; omega
  have HK := Lib.hid hkk
  have hkb : 1 ≤ kind ∧ kind ≤ 9 := by omega
  have br0 : 0 ≤ r0 ∧ r0 ≤ 8 := by omega
  have H0 := Lib.hid hx0
  have H1 := Lib.hid hx1
  have H2 := Lib.hid hx2
  have R0 := Lib.hid hr0
  have HKK := Lib.hid hk
  clear hB hn hb hN hx0 hr0 hk
  go_enter Try.func33, Try.ntmps33
  have NN := Lib.hid (HNX.out.new ((Turn.refl (fun _ => False) w).alloc (.cells #[.int .i64 0, .int .i64 0, .int .i64 0, .int .i64 0, .slice none 0 0, .bool false] 29)))
  have Z1 : Hid (Six (w.alloc (.cells #[.int .i64 0, .int .i64 0, .int .i64 0, .int .i64 0, .slice none 0 0, .bool false] 29)) w.heap.size 0 0 0 0 (.slice none 0 0) false) := Lib.hid (blk_new w _ 29)
  go_wp2_with fail
  refine (next_at w0 _ HB.out HN.out NN.out H0.out b0 (by omega) hm R0.out).mono ?_
  rintro e w8 ⟨rfl, nx8, t8⟩
  have NN := Lib.hid nx8
  have T8 := Lib.hid t8
  clear nx8 t8
  have Z2 := Lib.hid (Z1.out.turn T8.out (by omega))
  have S2 : w.heap.size < w8.heap.size := Z2.out.lt
  have T2 := Lib.hid (show Turn (fun j => j = pu) w w8 from ((Turn.refl _ w).alloc _).trans T8.out)
  obtain ⟨rz, hrz⟩ : ∃ b, w.heap.size = b := ⟨_, rfl⟩
  rw [hrz] at Z2 hpu hpb S2 ⊢
  go_upto_region 2 with fail
  rw [HKK.out]
  have A : Hid (RdS w (w8.alloc (.cells #[.int .i64 kind, .int .i64 0, .int .i64 0, .int .i64 0, .slice none 0 0, .bool false] 29)) pu rz w8.heap.size kind 0 0 0 (.slice none 0 0) false) := Lib.hid ⟨Z2.out.new ((Turn.refl _ _).alloc _), blk_new w8 _ 29, T2.out.alloc _, by omega, by omega, S2⟩
  have NN := Lib.hid (NN.out.new ((Turn.refl (fun _ => False) w8).alloc (.cells #[.int .i64 kind, .int .i64 0, .int .i64 0, .int .i64 0, .slice none 0 0, .bool false] 29)))
  obtain ⟨bx, hbx⟩ : ∃ b, w8.heap.size = b := ⟨_, rfl⟩
  rw [hbx] at A S2 ⊢
  generalize w8.alloc (.cells #[.int .i64 kind, .int .i64 0, .int .i64 0, .int .i64 0, .slice none 0 0, .bool false] 29) = wc at A NN ⊢
  clear Z1 Z2 T2 T8 hrz hbx
  rcases (show kind = 1 ∨ kind = 9 ∨ (2 ≤ kind ∧ kind ≤ 8) by omega) with rfl | rfl | ⟨p1, p2⟩
  · have B1 : hasCh 1 = false := rfl
    have B0 : ((1 : Int) == 1) = true := rfl
    have B2 : hasV 1 = false := rfl
    obtain ⟨r1, hr1⟩ : ∃ k, x1 % 5 = k := ⟨_, rfl⟩
    have R1 := Lib.hid hr1
    have HFIN := Lib.hid (show opOne B i = (⟨1, 0, r1, 0, [], false⟩, i + 2) by rw [opOne_1 hkk, hx1, hr1])
    clear hr1 hx1 hx2 hkk
    obtain ⟨⟨c0, c1, c2, c3, c4, c5⟩, g0, g1, g2, g3, g4, g5⟩ := A.out.x.cells
    go_wp2_with fail
    refine (hasch_any _ false _ B1).mono ?_
    rintro e w9 ⟨rfl, rfl⟩
    go_wp2_with fail
    refine (hasn_any _ true _ B0).mono ?_
    rintro e w9 ⟨rfl, rfl⟩
    go_wp2_with fail
    refine (next_at w0 _ HB.out HN.out NN.out H1.out b1 (by omega) hm R1.out).mono ?_
    rintro e w8 ⟨rfl, nx8, t8⟩
    have NN := Lib.hid nx8
    have T8 := Lib.hid t8
    clear nx8 t8
    clear c0 c1 c2 c3 c4 c5 g0 g1 g2 g3 g4 g5
    have A := Lib.hid (A.out.next T8.out)
    obtain ⟨⟨c0, c1, c2, c3, c4, c5⟩, g0, g1, g2, g3, g4, g5⟩ := A.out.x.cells
    go_upto_region 6 with fail
    have A := Lib.hid (A.out.put2 r1)
    have NN := Lib.hid (NN.out.far (b := bx) (by omega) (by omega) 2 (.int .i64 r1))
    clear c0 c1 c2 c3 c4 c5 g0 g1 g2 g3 g4 g5
    generalize hwn : w8.setCell ⟨bx, 2, none⟩ (.int .i64 r1) = wd at A NN ⊢
    clear hwn
    obtain ⟨⟨c0, c1, c2, c3, c4, c5⟩, g0, g1, g2, g3, g4, g5⟩ := A.out.x.cells
    go_wp2_with fail
    refine (hasv_any _ false _ B2).mono ?_
    rintro e w9 ⟨rfl, rfl⟩
    obtain ⟨⟨z0, z1, z2, z3, z4, z5⟩, y0, y1, y2, y3, y4, y5⟩ := A.out.z.cells
    go_wp2_with fail
    clear c0 c1 c2 c3 c4 c5 g0 g1 g2 g3 g4 g5
    clear z0 z1 z2 z3 z4 z5 y0 y1 y2 y3 y4 y5
    have SX := six_turn wd rz (.int .i64 (1)) (.int .i64 (0)) (.int .i64 (r1)) (.int .i64 (0)) (.slice none 0 0) (.bool false)
    have ZF := Lib.hid (A.out.z.all (1) (0) (r1) (0) (.slice none 0 0) false)
    have TF := Lib.hid (A.out.t.and SX (fun j hj e => by have := A.out.low; omega))
    have NF := Lib.hid (NN.out.turned SX (by omega) (by omega) (fun j e => by have := NN.out.low; omega))
    clear SX
    generalize (((((wd.setCell ⟨rz, 0, none⟩ (.int .i64 (1))).setCell ⟨rz, 1, none⟩ (.int .i64 (0))).setCell ⟨rz, 2, none⟩ (.int .i64 (r1))).setCell ⟨rz, 3, none⟩ (.int .i64 (0))).setCell ⟨rz, 4, none⟩ (.slice none 0 0)).setCell ⟨rz, 5, none⟩ (.bool false) = wf at ZF TF NF ⊢
    obtain ⟨⟨c0, c1, c2, c3, c4, c5⟩, _⟩ := ZF.out.cells
    have GN := (GCs.nil wf 45 0).done
    refine bodyPost_ret (v := .agg #[.int .i64 (1), .int .i64 (0), .int .i64 (r1), .int .i64 (0), .slice none 0 0, .bool false]) (by simp [results, Try.results33, go_sem, c0, c1, c2, c3, c4, c5]) rfl ?_
    rw [HFIN.out]
    exact ⟨⟨1, 0, r1, 0, ⟨none, 0, 0⟩, false⟩, rfl, ⟨⟨rfl, rfl, rfl, rfl, rfl, GN.r⟩, GN.typ⟩, NF.out, TF.out⟩
  · have B1 : hasCh 9 = false := rfl
    have B0 : ((9 : Int) == 1) = false := rfl
    have B2 : hasV 9 = false := rfl
    obtain ⟨m, hm7⟩ : ∃ m : Nat, x1 % 7 = (m : Int) := ⟨(x1 % 7).toNat, by omega⟩
    have R1 := Lib.hid hm7
    have hm6 : m ≤ 6 := by omega
    obtain ⟨r2, hr2⟩ : ∃ k, x2 % 2 = k := ⟨_, rfl⟩
    have R2 := Lib.hid hr2
    obtain ⟨els, hels⟩ : ∃ b, (r2 == 1) = b := ⟨_, rfl⟩
    have HE := Lib.hid hels
    have HFIN0 := Lib.hid (show opOne B i = (⟨9, 0, 0, 0, (casesAt B (i + 3) m).1, els⟩, (casesAt B (i + 3) m).2) by rw [opOne_9 hkk, hx1, hx2, hm7, hr2, hels, Int.toNat_natCast])
    clear hm7 hr2 hels hx1 hx2 hkk
    obtain ⟨⟨c0, c1, c2, c3, c4, c5⟩, g0, g1, g2, g3, g4, g5⟩ := A.out.x.cells
    go_wp2_with fail
    refine (hasch_any _ false _ B1).mono ?_
    rintro e w9 ⟨rfl, rfl⟩
    go_wp2_with fail
    refine (hasn_any _ false _ B0).mono ?_
    rintro e w9 ⟨rfl, rfl⟩
    go_wp2_with fail
    refine (hasv_any _ false _ B2).mono ?_
    rintro e w9 ⟨rfl, rfl⟩
    go_wp2_with fail
    refine (next_at w0 _ HB.out HN.out NN.out H1.out b1 (by omega) hm R1.out).mono ?_
    rintro e w8 ⟨rfl, nx8, t8⟩
    have NN := Lib.hid nx8
    have T8 := Lib.hid t8
    clear nx8 t8
    clear c0 c1 c2 c3 c4 c5 g0 g1 g2 g3 g4 g5
    have A := Lib.hid (A.out.next T8.out)
    obtain ⟨⟨c0, c1, c2, c3, c4, c5⟩, g0, g1, g2, g3, g4, g5⟩ := A.out.x.cells
    go_wp2_with fail
    refine (next_at w0 _ HB.out HN.out NN.out H2.out b2 (by omega) hm R2.out).mono ?_
    rintro e w8 ⟨rfl, nx8, t8⟩
    have NN := Lib.hid nx8
    have T8 := Lib.hid t8
    clear nx8 t8
    clear c0 c1 c2 c3 c4 c5 g0 g1 g2 g3 g4 g5
    have A := Lib.hid (A.out.next T8.out)
    obtain ⟨⟨c0, c1, c2, c3, c4, c5⟩, g0, g1, g2, g3, g4, g5⟩ := A.out.x.cells
    go_upto_region 12 with fail
    rw [HE.out]
    have A := Lib.hid (A.out.put5 els)
    have NN := Lib.hid (NN.out.far (b := bx) (by omega) (by omega) 5 (.bool els))
    clear c0 c1 c2 c3 c4 c5 g0 g1 g2 g3 g4 g5
    generalize hwn : w8.setCell ⟨bx, 5, none⟩ (.bool els) = wd at A NN ⊢
    clear hwn
    obtain ⟨⟨c0, c1, c2, c3, c4, c5⟩, g0, g1, g2, g3, g4, g5⟩ := A.out.x.cells
    clear c0 c1 c2 c3 c4 c5 g0 g1 g2 g3 g4 g5
    obtain ⟨i3, hi3⟩ : ∃ j, i + 3 = j := ⟨_, rfl⟩
    have NN := Lib.hid (show Nx w0 wd pu pb (.slice ao n c) n i3 from hi3 ▸ NN.out)
    have HFIN := Lib.hid (show opOne B i = (⟨9, 0, 0, 0, (casesAt B i3 m).1, els⟩, (casesAt B i3 m).2) by rw [← hi3]; exact HFIN0.out)
    have hib : i3 ≤ 100010 := by omega
    have ST : Hid (i3 = (casesAt B i3 0).2) := Lib.hid rfl
    have GN : Hid (GCs wd 45 (bx + 1) ⟨none, 0, 0⟩ (casesAt B i3 0).1) := Lib.hid (GCs.nil wd 45 (bx + 1))
    clear hi3 HFIN0
    go_loopw [37] (fun s37 wr => ∃ (k pl : Nat) (sl : Sl), k ≤ m ∧ s37 = .int .i64 k ∧ Hid (pl = (casesAt B i3 k).2) ∧ Hid (RdS w wr pu rz bx 9 0 0 0 sl.val els) ∧ Hid (GCs wr 45 (bx + 1) sl (casesAt B i3 k).1) ∧ Hid (Nx w0 wr pu pb (.slice ao n c) n pl)) (fun s37 _ => m - (intOf s37).toNat)
    case atStart => exact ⟨0, i3, ⟨none, 0, 0⟩, Nat.zero_le _, rfl, ST, A, GN, NN⟩
    case round =>
      clear A ST GN NN
      obtain ⟨k, pl, ⟨sao, slen, scap⟩, hk, rfl, HPL, A, G, NN⟩ := hrel
      have A : Hid (RdS w wr pu rz bx 9 0 0 0 (.slice sao slen scap) els) := A
      have HLK := Lib.hid (show (casesAt B i3 k).1.length = k from casesAt_length B i3 k)
      obtain ⟨LL, hLL⟩ : ∃ l, (casesAt B i3 k).1 = l := ⟨_, rfl⟩
      have HLL := Lib.hid hLL
      rw [hLL] at G HLK
      have hbxs : bx < wr.heap.size := A.out.x.lt
      by_cases hlt : k < m
      · obtain ⟨z, hz⟩ : ∃ z, casOne B pl = z := ⟨_, rfl⟩
        obtain ⟨⟨s, qc, qv⟩, p4⟩ := z
        have HZ := Lib.hid hz
        have HCA := Lib.hid ((casesAt_next HPL.out).trans (by rw [hz, HLL.out]))
        obtain ⟨k1, hk1⟩ : ∃ k1, LL.length + 1 = k1 := ⟨_, rfl⟩
        have hk17 : k1 ≤ 7 := by rw [← hk1, HLK.out]; omega
        have HK1 := Lib.hid hk1
        clear hz hk1 hLL
        go_upto_region 13 with fail
        have TD := Lib.hid (Turn.refl (fun j => j = pu) wr).drew
        have KEEP := Lib.hid (show ∀ w', Turn (fun j => j = pu) wr w' → (w'.cell? ⟨bx, 4, none⟩ = some (.slice sao slen scap)) from fun w' t => (A.out.x.turn t (by have := A.out.pl; have := A.out.low; have := A.out.nxt; omega)).cells.1.2.2.2.2.1)
        refine stand_start (by kernel_rfl) 5 (fun w' => w'.cell? ⟨bx, 4, none⟩ = some (.slice sao slen scap)) 99 (fun w' => True) (KEEP.out _ TD.out) trivial ?_
        refine stand_take (i := 0) (v := ?_) rfl (by kernel_rfl) (by kernel_rfl) (by kernel_rfl) (by rfl) (fun _ _ _ h => h) (by decide) (by decide) (by rfl) ?_ ?_
        rotate_left
        · (intro w; go_simp; try with_reducible rfl)
        dsimp only [List.set_cons_zero, List.set_cons_succ]
        refine stand_load1 (i := 1) (v := ?_) rfl (by kernel_rfl) (by kernel_rfl) (by kernel_rfl) (by rfl) (fun _ _ _ h => h) (by decide) (by decide) (by kernel_rfl) (by rfl) ?_ ?_
        rotate_left
        · (intro w hA; (try dsimp only at hA); go_simp; try with_reducible rfl)
        dsimp only [List.set_cons_zero, List.set_cons_succ]
        refine stand_take (i := 2) (v := ?_) rfl (by kernel_rfl) (by kernel_rfl) (by kernel_rfl) (by rfl) (fun _ _ _ h => h) (by decide) (by decide) (by rfl) ?_ ?_
        rotate_left
        · (intro w; go_simp; try with_reducible rfl)
        dsimp only [List.set_cons_zero, List.set_cons_succ]
        refine stand_step (i := 3) (by kernel_rfl) rfl (fun K hK => ?_)
        go_simp
        have RC := readcase_any w0 wr.drew HB.out HN.out HBY.out hm (NN.out.new (Turn.refl (fun _ => False) wr).drew)
        simp only [HZ.out, Cas.val] at RC
        refine RC.mono ?_
        clear RC
        rintro e w4 ⟨rfl, nx4, t4⟩
        have T4 := Lib.hid (TD.out.trans t4)
        have N4 := Lib.hid nx4
        clear nx4 t4
        refine hK.out _ _ (fun _ => KEEP.out _ T4.out) (fun _ => trivial) ?_
        clear hK K
        try simp only [put_laid, List.set_cons_zero, List.set_cons_succ]
        refine stand_step (i := 4) (by kernel_rfl) rfl (fun K hK => ?_)
        go_simp
        have T5 := Lib.hid (T4.out.alloc (.cells #[.bool s, .int .i64 qc, .int .i64 qv] 45))
        refine hK.out _ _ (fun _ => KEEP.out _ T5.out) (fun _ => trivial) ?_
        clear hK K
        try simp only [put_laid, List.set_cons_zero, List.set_cons_succ]
        have C5 := Lib.hid (heap_alloc_new w4 (.cells #[.bool s, .int .i64 qc, .int .i64 qv] 45))
        have N5 := Lib.hid (N4.out.new ((Turn.refl (fun _ => False) w4).alloc (.cells #[.bool s, .int .i64 qc, .int .i64 qv] 45)))
        generalize w4.heap.size = ob at C5 ⊢
        generalize w4.alloc (.cells #[.bool s, .int .i64 qc, .int .i64 qv] 45) = w5 at T5 C5 N5 ⊢
        have A5 := Lib.hid (A.out.next T5.out)
        have G5 := Lib.hid (show GCs w5 45 (bx + 1) ⟨sao, slen, scap⟩ LL from G.out.far T5.out (fun q e => by omega))
        have hbx5 : bx + 1 ≤ w5.heap.size := A5.out.x.lt
        clear T4 N4
        refine stand_step (i := 5) (by kernel_rfl) rfl (fun K hK => ?_)
        refine step_append_case Try.underlying27 info_case rfl (by decide) rfl (.tmp 40) (.tmp 43) rfl ⟨sao, slen, scap⟩ LL ⟨s, qc, qv⟩ rfl G5.out ob rfl C5.out k1 HK1.out (by omega) hbx5 ?_
        intro g gc w6 hg h6 t6
        have A6 := Lib.hid (A5.out.turned t6.out (fun q e => by have := G5.out.low q e; omega))
        have N6 := Lib.hid (N5.out.turned t6.out (fun e => by have := G5.out.low _ e; omega) (fun e => by have := G5.out.low _ e; omega) (fun q e => by have := G5.out.low q e; have := NN.out.t.size; have := A.out.low; have := A.out.pl; have := NN.out.low; omega))
        refine hK.out _ _ (past (by kernel_rfl)) (fun _ => trivial) ?_
        clear hK K
        try simp only [put_laid, List.set_cons_zero, List.set_cons_succ]
        clear t6
        obtain ⟨⟨c0, c1, c2, c3, c4, c5⟩, g0, g1, g2, g3, g4, g5⟩ := A6.out.x.cells
        refine stand_take (i := 6) (v := ?_) rfl (by kernel_rfl) (by kernel_rfl) (by kernel_rfl) (by rfl) (fun _ _ _ h => h) (by decide) (by decide) (by rfl) ?_ ?_
        rotate_left
        · (intro w; go_simp; try with_reducible rfl)
        dsimp only [List.set_cons_zero, List.set_cons_succ]
        refine stand_step (i := 7) (by kernel_rfl) rfl (fun K hK => ?_)
        go_simp
        have A7 := Lib.hid (A6.out.put4 (.slice (some ⟨g, 0, none⟩) k1 gc))
        have N7 := Lib.hid (N6.out.far (b := bx) (by omega) (by omega) 4 (.slice (some ⟨g, 0, none⟩) k1 gc))
        have G7 := Lib.hid (h6.out.far (set_turn w6 bx 4 (.slice (some ⟨g, 0, none⟩) k1 gc)) (fun q e => by omega))
        refine hK.out _ _ (past (by kernel_rfl)) (fun _ => trivial) ?_
        clear hK K
        try simp only [put_laid, List.set_cons_zero, List.set_cons_succ]
        clear c0 c1 c2 c3 c4 c5 g0 g1 g2 g3 g4 g5
        generalize w6.setCell ⟨bx, 4, none⟩ (.slice (some ⟨g, 0, none⟩) k1 gc) = w7 at A7 N7 G7 ⊢
        refine stand_done (by kernel_rfl) ?_
        go_wp2_with fail
        go_roundw
        case rel => exact ⟨k + 1, p4, ⟨some ⟨g, 0, none⟩, k1, gc⟩, by omega, by go_num, Lib.hid (by rw [HCA.out]), A7, Lib.hid (by rw [HCA.out]; exact G7.out), N7⟩
        case measure => simp [intOf]; omega
      · have hkm : k = m := by omega
        have HFIN2 := Lib.hid (show opOne B i = (⟨9, 0, 0, 0, LL, els⟩, pl) by rw [HFIN.out, ← hkm, ← HPL.out, hLL])
        clear hkm hLL HFIN
        obtain ⟨⟨c0, c1, c2, c3, c4, c5⟩, g0, g1, g2, g3, g4, g5⟩ := A.out.x.cells
        obtain ⟨⟨z0, z1, z2, z3, z4, z5⟩, y0, y1, y2, y3, y4, y5⟩ := A.out.z.cells
        go_wp2_with fail
        clear c0 c1 c2 c3 c4 c5 g0 g1 g2 g3 g4 g5
        clear z0 z1 z2 z3 z4 z5 y0 y1 y2 y3 y4 y5
        have SX := six_turn wr rz (.int .i64 (9)) (.int .i64 (0)) (.int .i64 (0)) (.int .i64 (0)) (.slice sao slen scap) (.bool els)
        have ZF := Lib.hid (A.out.z.all (9) (0) (0) (0) (.slice sao slen scap) els)
        have TF := Lib.hid (A.out.t.and SX (fun j hj e => by have := A.out.low; omega))
        have NF := Lib.hid (NN.out.turned SX (by omega) (by omega) (fun j e => by have := NN.out.low; omega))
        have GF := Lib.hid ((G.out.far SX (fun q e => by have := A.out.nxt; omega)).done)
        clear SX
        generalize (((((wr.setCell ⟨rz, 0, none⟩ (.int .i64 9)).setCell ⟨rz, 1, none⟩ (.int .i64 0)).setCell ⟨rz, 2, none⟩ (.int .i64 0)).setCell ⟨rz, 3, none⟩ (.int .i64 0)).setCell ⟨rz, 4, none⟩ (.slice sao slen scap)).setCell ⟨rz, 5, none⟩ (.bool els) = wf at ZF TF NF GF ⊢
        obtain ⟨⟨c0, c1, c2, c3, c4, c5⟩, _⟩ := ZF.out.cells
        refine bodyPost_ret (v := .agg #[.int .i64 9, .int .i64 0, .int .i64 0, .int .i64 0, .slice sao slen scap, .bool els]) (by simp [results, Try.results33, go_sem, c0, c1, c2, c3, c4, c5]) rfl ?_
        rw [HFIN2.out]
        exact ⟨⟨9, 0, 0, 0, ⟨sao, slen, scap⟩, els⟩, rfl, ⟨⟨rfl, rfl, rfl, rfl, rfl, GF.out.r⟩, GF.out.typ⟩, NF.out, TF.out⟩
  · have B1 : hasCh kind = true := by simp [hasCh, p1, p2]
    have B0 : (kind == 1) = false := by simp; omega
    have B9 : (kind == 9) = false := by simp; omega
    obtain ⟨bv, B2⟩ : ∃ b, hasV kind = b := ⟨_, rfl⟩
    obtain ⟨r1, hr1⟩ : ∃ k, x1 % 9 = k := ⟨_, rfl⟩
    have R1 := Lib.hid hr1
    have R2 := Lib.hid (show x2 % 256 = x2 by omega)
    cases bv
    · have HFIN := Lib.hid (show opOne B i = (⟨kind, r1, 0, 0, [], false⟩, i + 2) by rw [opOne_c hkk B1 B2 B0 B9, hx1, hr1])
      clear hr1 hx1 hx2 hkk
      obtain ⟨⟨c0, c1, c2, c3, c4, c5⟩, g0, g1, g2, g3, g4, g5⟩ := A.out.x.cells
      go_wp2_with fail
      refine (hasch_any _ true _ B1).mono ?_
      rintro e w9 ⟨rfl, rfl⟩
      go_wp2_with fail
      refine (next_at w0 _ HB.out HN.out NN.out H1.out b1 (by omega) hm R1.out).mono ?_
      rintro e w8 ⟨rfl, nx8, t8⟩
      have NN := Lib.hid nx8
      have T8 := Lib.hid t8
      clear nx8 t8
      clear c0 c1 c2 c3 c4 c5 g0 g1 g2 g3 g4 g5
      have A := Lib.hid (A.out.next T8.out)
      obtain ⟨⟨c0, c1, c2, c3, c4, c5⟩, g0, g1, g2, g3, g4, g5⟩ := A.out.x.cells
      go_upto_region 4 with fail
      have A := Lib.hid (A.out.put1 r1)
      have NN := Lib.hid (NN.out.far (b := bx) (by omega) (by omega) 1 (.int .i64 r1))
      clear c0 c1 c2 c3 c4 c5 g0 g1 g2 g3 g4 g5
      generalize hwn : w8.setCell ⟨bx, 1, none⟩ (.int .i64 r1) = wd at A NN ⊢
      clear hwn
      obtain ⟨⟨c0, c1, c2, c3, c4, c5⟩, g0, g1, g2, g3, g4, g5⟩ := A.out.x.cells
      go_wp2_with fail
      refine (hasn_any _ false _ B0).mono ?_
      rintro e w9 ⟨rfl, rfl⟩
      go_wp2_with fail
      refine (hasv_any _ false _ B2).mono ?_
      rintro e w9 ⟨rfl, rfl⟩
      obtain ⟨⟨z0, z1, z2, z3, z4, z5⟩, y0, y1, y2, y3, y4, y5⟩ := A.out.z.cells
      go_wp2_with fail
      clear c0 c1 c2 c3 c4 c5 g0 g1 g2 g3 g4 g5
      clear z0 z1 z2 z3 z4 z5 y0 y1 y2 y3 y4 y5
      have SX := six_turn wd rz (.int .i64 (kind)) (.int .i64 (r1)) (.int .i64 (0)) (.int .i64 (0)) (.slice none 0 0) (.bool false)
      have ZF := Lib.hid (A.out.z.all (kind) (r1) (0) (0) (.slice none 0 0) false)
      have TF := Lib.hid (A.out.t.and SX (fun j hj e => by have := A.out.low; omega))
      have NF := Lib.hid (NN.out.turned SX (by omega) (by omega) (fun j e => by have := NN.out.low; omega))
      clear SX
      generalize (((((wd.setCell ⟨rz, 0, none⟩ (.int .i64 (kind))).setCell ⟨rz, 1, none⟩ (.int .i64 (r1))).setCell ⟨rz, 2, none⟩ (.int .i64 (0))).setCell ⟨rz, 3, none⟩ (.int .i64 (0))).setCell ⟨rz, 4, none⟩ (.slice none 0 0)).setCell ⟨rz, 5, none⟩ (.bool false) = wf at ZF TF NF ⊢
      obtain ⟨⟨c0, c1, c2, c3, c4, c5⟩, _⟩ := ZF.out.cells
      have GN := (GCs.nil wf 45 0).done
      refine bodyPost_ret (v := .agg #[.int .i64 (kind), .int .i64 (r1), .int .i64 (0), .int .i64 (0), .slice none 0 0, .bool false]) (by simp [results, Try.results33, go_sem, c0, c1, c2, c3, c4, c5]) rfl ?_
      rw [HFIN.out]
      exact ⟨⟨kind, r1, 0, 0, ⟨none, 0, 0⟩, false⟩, rfl, ⟨⟨rfl, rfl, rfl, rfl, rfl, GN.r⟩, GN.typ⟩, NF.out, TF.out⟩
    · have HFIN := Lib.hid (show opOne B i = (⟨kind, r1, 0, x2, [], false⟩, i + 3) by rw [opOne_v hkk B1 B2 B0 B9, hx1, hr1, hx2])
      clear hr1 hx1 hx2 hkk
      obtain ⟨⟨c0, c1, c2, c3, c4, c5⟩, g0, g1, g2, g3, g4, g5⟩ := A.out.x.cells
      go_wp2_with fail
      refine (hasch_any _ true _ B1).mono ?_
      rintro e w9 ⟨rfl, rfl⟩
      go_wp2_with fail
      refine (next_at w0 _ HB.out HN.out NN.out H1.out b1 (by omega) hm R1.out).mono ?_
      rintro e w8 ⟨rfl, nx8, t8⟩
      have NN := Lib.hid nx8
      have T8 := Lib.hid t8
      clear nx8 t8
      clear c0 c1 c2 c3 c4 c5 g0 g1 g2 g3 g4 g5
      have A := Lib.hid (A.out.next T8.out)
      obtain ⟨⟨c0, c1, c2, c3, c4, c5⟩, g0, g1, g2, g3, g4, g5⟩ := A.out.x.cells
      go_upto_region 4 with fail
      have A := Lib.hid (A.out.put1 r1)
      have NN := Lib.hid (NN.out.far (b := bx) (by omega) (by omega) 1 (.int .i64 r1))
      clear c0 c1 c2 c3 c4 c5 g0 g1 g2 g3 g4 g5
      generalize hwn : w8.setCell ⟨bx, 1, none⟩ (.int .i64 r1) = wd at A NN ⊢
      clear hwn
      obtain ⟨⟨c0, c1, c2, c3, c4, c5⟩, g0, g1, g2, g3, g4, g5⟩ := A.out.x.cells
      go_wp2_with fail
      refine (hasn_any _ false _ B0).mono ?_
      rintro e w9 ⟨rfl, rfl⟩
      go_wp2_with fail
      refine (hasv_any _ true _ B2).mono ?_
      rintro e w9 ⟨rfl, rfl⟩
      go_wp2_with fail
      refine (next_at w0 _ HB.out HN.out NN.out H2.out b2 (by omega) hm R2.out).mono ?_
      rintro e w8 ⟨rfl, nx8, t8⟩
      have NN := Lib.hid nx8
      have T8 := Lib.hid t8
      clear nx8 t8
      clear c0 c1 c2 c3 c4 c5 g0 g1 g2 g3 g4 g5
      have A := Lib.hid (A.out.next T8.out)
      obtain ⟨⟨c0, c1, c2, c3, c4, c5⟩, g0, g1, g2, g3, g4, g5⟩ := A.out.x.cells
      go_upto_region 8 with fail
      have A := Lib.hid (A.out.put3 x2)
      have NN := Lib.hid (NN.out.far (b := bx) (by omega) (by omega) 3 (.int .i64 x2))
      clear c0 c1 c2 c3 c4 c5 g0 g1 g2 g3 g4 g5
      generalize hwn : w8.setCell ⟨bx, 3, none⟩ (.int .i64 x2) = we at A NN ⊢
      clear hwn
      obtain ⟨⟨c0, c1, c2, c3, c4, c5⟩, g0, g1, g2, g3, g4, g5⟩ := A.out.x.cells
      obtain ⟨⟨z0, z1, z2, z3, z4, z5⟩, y0, y1, y2, y3, y4, y5⟩ := A.out.z.cells
      go_wp2_with fail
      clear c0 c1 c2 c3 c4 c5 g0 g1 g2 g3 g4 g5
      clear z0 z1 z2 z3 z4 z5 y0 y1 y2 y3 y4 y5
      have SX := six_turn we rz (.int .i64 (kind)) (.int .i64 (r1)) (.int .i64 (0)) (.int .i64 (x2)) (.slice none 0 0) (.bool false)
      have ZF := Lib.hid (A.out.z.all (kind) (r1) (0) (x2) (.slice none 0 0) false)
      have TF := Lib.hid (A.out.t.and SX (fun j hj e => by have := A.out.low; omega))
      have NF := Lib.hid (NN.out.turned SX (by omega) (by omega) (fun j e => by have := NN.out.low; omega))
      clear SX
      generalize (((((we.setCell ⟨rz, 0, none⟩ (.int .i64 (kind))).setCell ⟨rz, 1, none⟩ (.int .i64 (r1))).setCell ⟨rz, 2, none⟩ (.int .i64 (0))).setCell ⟨rz, 3, none⟩ (.int .i64 (x2))).setCell ⟨rz, 4, none⟩ (.slice none 0 0)).setCell ⟨rz, 5, none⟩ (.bool false) = wf at ZF TF NF ⊢
      obtain ⟨⟨c0, c1, c2, c3, c4, c5⟩, _⟩ := ZF.out.cells
      have GN := (GCs.nil wf 45 0).done
      refine bodyPost_ret (v := .agg #[.int .i64 (kind), .int .i64 (r1), .int .i64 (0), .int .i64 (x2), .slice none 0 0, .bool false]) (by simp [results, Try.results33, go_sem, c0, c1, c2, c3, c4, c5]) rfl ?_
      rw [HFIN.out]
      exact ⟨⟨kind, r1, 0, x2, ⟨none, 0, 0⟩, false⟩, rfl, ⟨⟨rfl, rfl, rfl, rfl, rfl, GN.r⟩, GN.typ⟩, NF.out, TF.out⟩

end Go.Proofs.Ytaighbofekefkaa
