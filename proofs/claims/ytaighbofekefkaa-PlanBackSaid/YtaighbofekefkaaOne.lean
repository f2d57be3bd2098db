/- The document's: the op that begins at a place. -/
import Derived.Test.YtaighbofekefkaaBlk
namespace Go.Proofs.Ytaighbofekefkaa
open Go.RowKit
set_option linter.unusedVariables false

theorem opOne_1 {B : List Int} {i : Nat} (h : kindAt B i = 1) : opOne B i = (⟨1, 0, atB B (i + 1) % 5, 0, [], false⟩, i + 2) := by
  unfold opOne headAt ePlace vPlace nPlace
  rw [h]
  rfl
theorem opOne_v {B : List Int} {i : Nat} {k : Int} (h : kindAt B i = k) (h1 : hasCh k = true) (h2 : hasV k = true) (h3 : (k == 1) = false) (h4 : (k == 9) = false) : opOne B i = (⟨k, atB B (i + 1) % 9, 0, atB B (i + 2), [], false⟩, i + 3) := by
  unfold opOne headAt ePlace vPlace nPlace
  rw [h, h1, h2, h3, h4]
  rfl
theorem opOne_c {B : List Int} {i : Nat} {k : Int} (h : kindAt B i = k) (h1 : hasCh k = true) (h2 : hasV k = false) (h3 : (k == 1) = false) (h4 : (k == 9) = false) : opOne B i = (⟨k, atB B (i + 1) % 9, 0, 0, [], false⟩, i + 2) := by
  unfold opOne headAt ePlace vPlace nPlace
  rw [h, h1, h2, h3, h4]
  rfl
theorem opOne_9 {B : List Int} {i : Nat} (h : kindAt B i = 9) : opOne B i = (⟨9, 0, 0, 0, (casesAt B (i + 3) (atB B (i + 1) % 7).toNat).1, atB B (i + 2) % 2 == 1⟩, (casesAt B (i + 3) (atB B (i + 1) % 7).toNat).2) := by
  unfold opOne headAt ePlace vPlace nPlace
  rw [h]
  rfl

/-- Where the walk stands: the answer's block, still zero, and the op's. -/
structure OnS (w wc : World) (rz bx : Nat) (k0 k1 k2 k3 : Int) (s : Value) (f : Bool) : Prop where
  z : Six wc rz 0 0 0 0 (.slice none 0 0) false
  x : Six wc bx k0 k1 k2 k3 s f
  t : Turn (fun _ => False) w wc
  low : w.heap.size ≤ rz
  nxt : rz < bx
section
variable {w wc w' : World} {rz bx : Nat} {k0 k1 k2 k3 : Int} {s : Value} {f : Bool}
theorem OnS.new (h : OnS w wc rz bx k0 k1 k2 k3 s f) (t : Turn (fun _ => False) wc w') : OnS w w' rz bx k0 k1 k2 k3 s f := ⟨h.z.new t, h.x.new t, h.t.trans t, h.low, h.nxt⟩
theorem OnS.tset (h : OnS w wc rz bx k0 k1 k2 k3 s f) (k : Nat) (u : Value) : Turn (fun _ => False) w (wc.setCell ⟨bx, k, none⟩ u) := h.t.and (set_turn wc bx k u) (fun i hi e => by have := h.low; have := h.nxt; omega)
theorem OnS.zset (h : OnS w wc rz bx k0 k1 k2 k3 s f) (k : Nat) (u : Value) : Six (wc.setCell ⟨bx, k, none⟩ u) rz 0 0 0 0 (.slice none 0 0) false := h.z.far (p := ⟨bx, k, none⟩) (by have := h.nxt; show rz ≠ bx; omega) u
theorem OnS.put1 (h : OnS w wc rz bx k0 k1 k2 k3 s f) (x : Int) : OnS w (wc.setCell ⟨bx, 1, none⟩ (.int .i64 x)) rz bx k0 x k2 k3 s f := ⟨h.zset 1 _, h.x.put1 x, h.tset 1 _, h.low, h.nxt⟩
theorem OnS.put2 (h : OnS w wc rz bx k0 k1 k2 k3 s f) (x : Int) : OnS w (wc.setCell ⟨bx, 2, none⟩ (.int .i64 x)) rz bx k0 k1 x k3 s f := ⟨h.zset 2 _, h.x.put2 x, h.tset 2 _, h.low, h.nxt⟩
theorem OnS.put3 (h : OnS w wc rz bx k0 k1 k2 k3 s f) (x : Int) : OnS w (wc.setCell ⟨bx, 3, none⟩ (.int .i64 x)) rz bx k0 k1 k2 x s f := ⟨h.zset 3 _, h.x.put3 x, h.tset 3 _, h.low, h.nxt⟩
theorem OnS.put4 (h : OnS w wc rz bx k0 k1 k2 k3 s f) (x : Value) : OnS w (wc.setCell ⟨bx, 4, none⟩ x) rz bx k0 k1 k2 k3 x f := ⟨h.zset 4 _, h.x.put4 x, h.tset 4 _, h.low, h.nxt⟩
theorem OnS.put5 (h : OnS w wc rz bx k0 k1 k2 k3 s f) (x : Bool) : OnS w (wc.setCell ⟨bx, 5, none⟩ (.bool x)) rz bx k0 k1 k2 k3 s x := ⟨h.zset 5 _, h.x.put5 x, h.tset 5 _, h.low, h.nxt⟩
theorem ons_new (w : World) (k : Int) : OnS w ((w.alloc (.cells #[.int .i64 0, .int .i64 0, .int .i64 0, .int .i64 0, .slice none 0 0, .bool false] 29)).alloc (.cells #[.int .i64 k, .int .i64 0, .int .i64 0, .int .i64 0, .slice none 0 0, .bool false] 29)) w.heap.size (w.heap.size + 1) k 0 0 0 (.slice none 0 0) false := by
  refine ⟨(show Six _ _ _ _ _ _ _ _ from blk_new w _ 29).new ((Turn.refl _ _).alloc _), ?_, ((Turn.refl _ w).alloc _).alloc _, Nat.le_refl _, Nat.lt_succ_self _⟩
  have := blk_new (w.alloc (.cells #[.int .i64 0, .int .i64 0, .int .i64 0, .int .i64 0, .slice none 0 0, .bool false] 29)) [.int .i64 k, .int .i64 0, .int .i64 0, .int .i64 0, .slice none 0 0, .bool false] 29
  rwa [show (w.alloc (.cells #[.int .i64 0, .int .i64 0, .int .i64 0, .int .i64 0, .slice none 0 0, .bool false] 29)).heap.size = w.heap.size + 1 by simp] at this

theorem OnS.turned {S : Nat → Prop} (h : OnS w wc rz bx k0 k1 k2 k3 s f) (t : Turn S wc w') (hs : ∀ i, S i → bx < i) : OnS w w' rz bx k0 k1 k2 k3 s f :=
  ⟨h.z.turn t (fun e => by have := hs _ e; have := h.nxt; omega), h.x.turn t (fun e => by have := hs _ e; omega), h.t.and t (fun i hi e => by have := hs _ e; have := h.nxt; have := h.low; omega), h.low, h.nxt⟩
theorem GCs.far {base : Nat} {eC : TypeId} {S : Nat → Prop} {v : Sl} {L : List Cas} (h : GCs wc eC base v L) (t : Turn S wc w') (hs : ∀ i, S i → i < base) : GCs w' eC base v L :=
  ⟨h.len, own_turn h.own t (fun k hk e => by have := (h.own.lt k hk).1; have := hs k e; omega)⟩
theorem GCs.low {base : Nat} {eC : TypeId} {v : Sl} {L : List Cas} (h : GCs wc eC base v L) : ∀ i, v.val.ownBlock = some i → base ≤ i := fun i e => (h.own.lt i e).1
end
theorem casesAt_next {B : List Int} {i k pl : Nat} (h : pl = (casesAt B i k).2) : casesAt B i (k + 1) = ((casesAt B i k).1 ++ [(casOne B pl).1], (casOne B pl).2) := by subst h; rfl
theorem casOne_yes {B : List Int} {pl : Nat} {xa xb xc : Int} (ha : atB B pl = xa) (hb : atB B (pl + 1) = xb) (hc : atB B (pl + 2) = xc) (hs : xa % 2 = 1) : casOne B pl = (⟨true, xb % 9, xc⟩, pl + 3) := by
  unfold casOne
  rw [ha, hb, hc, if_pos hs]
theorem casOne_no {B : List Int} {pl : Nat} {xa xb : Int} (ha : atB B pl = xa) (hb : atB B (pl + 1) = xb) (hs : xa % 2 = 0) : casOne B pl = (⟨false, xb % 9, 0⟩, pl + 2) := by
  unfold casOne
  rw [ha, hb, if_neg (by omega)]


theorem ret_op {v : Value} {a b : Int} (h : a = b) : Ending.returned (.tuple #[v, .int .i64 a]) = .returned (.tuple #[v, .int .i64 b]) := by rw [h]

set_option maxRecDepth 100000 in
set_option maxHeartbeats 4000000 in
theorem one_any {ao : Option Addr} {n c i : Nat} {B : List Int} (w : World) (hB : Ints .u8 w ao B) (hn : B.length = n) (hb : IsBytes B) (hm : n ≤ 100000) (hi : i ≤ 100000) :
    Calls Try.prog 35 #[.slice ao n c, .int .i64 i] w fun e w' => ∃ r : OpV, e = .returned (.tuple #[r.val, .int .i64 (opOne B i).2]) ∧ BOp w' 45 r (opOne B i).1 ∧ Turn (fun _ => False) w w' := by
  obtain ⟨x0, hx0⟩ : ∃ x, atB B i = x := ⟨_, rfl⟩
  obtain ⟨x1, hx1⟩ : ∃ x, atB B (i + 1) = x := ⟨_, rfl⟩
  obtain ⟨x2, hx2⟩ : ∃ x, atB B (i + 2) = x := ⟨_, rfl⟩
  have b0 : 0 ≤ x0 ∧ x0 ≤ 255 := hx0 ▸ hb.at i
  have b1 : 0 ≤ x1 ∧ x1 ≤ 255 := hx1 ▸ hb.at (i + 1)
  have b2 : 0 ≤ x2 ∧ x2 ≤ 255 := hx2 ▸ hb.at (i + 2)
  obtain ⟨kind, hk⟩ : ∃ k, x0 % 9 + 1 = k := ⟨_, rfl⟩
  have HK := Lib.hid (show kindAt B i = kind by unfold kindAt; rw [hx0, hk])
  have hkb : 1 ≤ kind ∧ kind ≤ 9 := by omega
  have HB := Lib.hid hB
  have HN := Lib.hid hn
  have HBY := Lib.hid hb
  have H0 := Lib.hid hx0
  have H1 := Lib.hid hx1
  have H2 := Lib.hid hx2
  have HKK := Lib.hid hk
  clear hB hn hb hx0 hx1 hx2 hk
  go_enter Try.func35, Try.ntmps35
  go_wp2_with fail
  refine (at_any _ (HB.out.turn ((Turn.refl (fun _ => False) w).alloc _) (fun _ _ => id)) HN.out H0.out b0 (by omega)).mono ?_
  rintro e w1 ⟨rfl, rfl⟩
  go_upto_region 3 with fail
  have A := Lib.hid (ons_new w kind)
  obtain ⟨rz, hrz⟩ : ∃ b, w.heap.size = b := ⟨_, rfl⟩
  obtain ⟨bx, hbx⟩ : ∃ b, rz + 1 = b := ⟨_, rfl⟩
  rw [HKK.out]
  rw [hrz, hbx] at A
  simp only [hrz, hbx]
  generalize (w.alloc (.cells #[.int .i64 0, .int .i64 0, .int .i64 0, .int .i64 0, .slice none 0 0, .bool false] 29)).alloc (.cells #[.int .i64 kind, .int .i64 0, .int .i64 0, .int .i64 0, .slice none 0 0, .bool false] 29) = wc at A ⊢
  clear hrz hbx
  rcases (show kind = 1 ∨ kind = 9 ∨ (2 ≤ kind ∧ kind ≤ 8) by omega) with rfl | rfl | ⟨p1, p2⟩
  · have B1 : hasCh 1 = false := rfl
    have B2 : hasV 1 = false := rfl
    obtain ⟨⟨c0, c1, c2, c3, c4, c5⟩, g0, g1, g2, g3, g4, g5⟩ := A.out.x.cells
    go_wp2_with fail
    refine (rhasch_any _ false _ B1).mono ?_
    rintro e w8 ⟨rfl, rfl⟩
    go_wp2_with fail
    refine (at_sum (i+1) _ (HB.out.turn A.out.t (fun _ _ => id)) HN.out (by omega) H1.out b1 (by omega)).mono ?_
    rintro e w8 ⟨rfl, rfl⟩
    go_upto_region 9 with fail
    have A := Lib.hid (A.out.put2 (x1 % 5))
    clear c0 c1 c2 c3 c4 c5 g0 g1 g2 g3 g4 g5
    generalize hwn : wc.setCell ⟨bx, 2, none⟩ (.int .i64 (x1 % 5)) = wd at A ⊢
    clear hwn
    obtain ⟨⟨c0, c1, c2, c3, c4, c5⟩, g0, g1, g2, g3, g4, g5⟩ := A.out.x.cells
    go_wp2_with fail
    refine (rhasv_any _ false _ B2).mono ?_
    rintro e w8 ⟨rfl, rfl⟩
    obtain ⟨⟨z0, z1, z2, z3, z4, z5⟩, y0, y1, y2, y3, y4, y5⟩ := A.out.z.cells
    go_wp2_with fail
    clear c0 c1 c2 c3 c4 c5 g0 g1 g2 g3 g4 g5
    clear z0 z1 z2 z3 z4 z5 y0 y1 y2 y3 y4 y5
    have ZF := Lib.hid (A.out.z.all (1) (0) (x1 % 5) (0) (.slice none 0 0) false)
    have TF := Lib.hid (A.out.t.and (six_turn wd rz (.int .i64 (1)) (.int .i64 (0)) (.int .i64 (x1 % 5)) (.int .i64 (0)) (.slice none 0 0) (.bool false)) (fun j hj e => by have := A.out.low; omega))
    generalize (((((wd.setCell ⟨rz, 0, none⟩ (.int .i64 (1))).setCell ⟨rz, 1, none⟩ (.int .i64 (0))).setCell ⟨rz, 2, none⟩ (.int .i64 (x1 % 5))).setCell ⟨rz, 3, none⟩ (.int .i64 (0))).setCell ⟨rz, 4, none⟩ (.slice none 0 0)).setCell ⟨rz, 5, none⟩ (.bool false) = wf at ZF TF ⊢
    obtain ⟨⟨c0, c1, c2, c3, c4, c5⟩, _⟩ := ZF.out.cells
    have GN := (GCs.nil wf 45 0).done
    refine bodyPost_ret (v := .tuple #[.agg #[.int .i64 (1), .int .i64 (0), .int .i64 (x1 % 5), .int .i64 (0), .slice none 0 0, .bool false], .int .i64 (↑i + 1 + 1)]) (by simp [results, Try.results35, go_sem, c0, c1, c2, c3, c4, c5]) rfl ⟨⟨1, 0, x1 % 5, 0, ⟨none, 0, 0⟩, false⟩, ?_, ?_, TF.out⟩
    · rw [opOne_1 HK.out]
      exact ret_op (by omega)
    · rw [opOne_1 HK.out]
      exact ⟨⟨rfl, by first | rfl | (rw [H1.out]), by first | rfl | (rw [H1.out]), by first | rfl | (rw [H2.out]), rfl, GN.r⟩, GN.typ⟩
  · have B1 : hasCh 9 = false := rfl
    have B2 : hasV 9 = false := rfl
    obtain ⟨m, hm7⟩ : ∃ m : Nat, x1 % 7 = (m : Int) := ⟨(x1 % 7).toNat, by omega⟩
    have HM7 := Lib.hid hm7
    have hm6 : m ≤ 6 := by omega
    obtain ⟨els, hels⟩ : ∃ b, (x2 % 2 == 1) = b := ⟨_, rfl⟩
    have HE := Lib.hid hels
    clear hm7 hels
    obtain ⟨⟨c0, c1, c2, c3, c4, c5⟩, g0, g1, g2, g3, g4, g5⟩ := A.out.x.cells
    go_wp2_with fail
    refine (rhasch_any _ false _ B1).mono ?_
    rintro e w8 ⟨rfl, rfl⟩
    go_wp2_with fail
    refine (rhasv_any _ false _ B2).mono ?_
    rintro e w8 ⟨rfl, rfl⟩
    go_wp2_with fail
    refine (at_sum (i+1) _ (HB.out.turn A.out.t (fun _ _ => id)) HN.out (by omega) H1.out b1 (by omega)).mono ?_
    rintro e w8 ⟨rfl, rfl⟩
    go_wp2_with fail
    refine (at_sum (i+2) _ (HB.out.turn A.out.t (fun _ _ => id)) HN.out (by omega) H2.out b2 (by omega)).mono ?_
    rintro e w8 ⟨rfl, rfl⟩
    go_upto_region 18 with fail
    rw [HM7.out, HE.out]
    have A := Lib.hid (A.out.put5 els)
    clear c0 c1 c2 c3 c4 c5 g0 g1 g2 g3 g4 g5
    generalize hwn : wc.setCell ⟨bx, 5, none⟩ (.bool els) = wd at A ⊢
    clear hwn
    obtain ⟨⟨c0, c1, c2, c3, c4, c5⟩, g0, g1, g2, g3, g4, g5⟩ := A.out.x.cells
    clear c0 c1 c2 c3 c4 c5 g0 g1 g2 g3 g4 g5
    obtain ⟨i3, hi3⟩ : ∃ j, i + 3 = j := ⟨_, rfl⟩
    have HI3 := Lib.hid hi3
    have hib : i3 ≤ 100010 := by omega
    have ST : Hid (i3 = (casesAt B i3 0).2) := Lib.hid rfl
    have GN : Hid (GCs wd 45 (bx + 1) ⟨none, 0, 0⟩ (casesAt B i3 0).1) := Lib.hid (GCs.nil wd 45 (bx + 1))
    have hst : (i : Int) + 1 + 2 = (i3 : Int) := by omega
    clear hi3
    go_loopw [1, 8] (fun s1 s8 wr => ∃ (k pl : Nat) (sl : Sl), k ≤ m ∧ s8 = .int .i64 k ∧ s1 = .int .i64 pl ∧ pl ≤ 100010 + 3 * k ∧ Hid (pl = (casesAt B i3 k).2) ∧ Hid (OnS w wr rz bx 9 0 0 0 sl.val els) ∧ Hid (GCs wr 45 (bx + 1) sl (casesAt B i3 k).1)) (fun _ s8 _ => m - (intOf s8).toNat)
    case atStart => exact ⟨0, i3, ⟨none, 0, 0⟩, Nat.zero_le _, rfl, by rw [hst], by omega, ST, A, GN⟩
    case round =>
      clear A ST GN hst
      obtain ⟨k, pl, ⟨sao, slen, scap⟩, hk, rfl, rfl, hpl, HPL, A, G⟩ := hrel
      have A : Hid (OnS w wr rz bx 9 0 0 0 (.slice sao slen scap) els) := A
      have HLK := Lib.hid (show (casesAt B i3 k).1.length = k from casesAt_length B i3 k)
      obtain ⟨LL, hLL⟩ : ∃ l, (casesAt B i3 k).1 = l := ⟨_, rfl⟩
      have HLL := Lib.hid hLL
      rw [hLL] at G HLK
      have HSL := Lib.hid (show slen = k from G.out.len.trans HLK.out)
      by_cases hlt : k < m
      · obtain ⟨xa, hxa⟩ : ∃ x, atB B pl = x := ⟨_, rfl⟩
        obtain ⟨xb, hxb⟩ : ∃ x, atB B (pl + 1) = x := ⟨_, rfl⟩
        obtain ⟨xc, hxc⟩ : ∃ x, atB B (pl + 2) = x := ⟨_, rfl⟩
        have ba : 0 ≤ xa ∧ xa ≤ 255 := hxa ▸ HBY.out.at pl
        have bb : 0 ≤ xb ∧ xb ≤ 255 := hxb ▸ HBY.out.at (pl + 1)
        have bc : 0 ≤ xc ∧ xc ≤ 255 := hxc ▸ HBY.out.at (pl + 2)
        have HXA := Lib.hid hxa
        have HXB := Lib.hid hxb
        have HXC := Lib.hid hxc
        have hkn : LL.length + 1 ≤ 7 := by rw [HLK.out]; omega
        clear hxa hxb hxc hLL
        rcases (show xa % 2 = 1 ∨ xa % 2 = 0 by omega) with hs | hs
        · have HS := Lib.hid hs
          have HCA := Lib.hid ((casesAt_next HPL.out).trans (by rw [casOne_yes HXA.out HXB.out HXC.out hs, HLL.out]))
          obtain ⟨⟨c0, c1, c2, c3, c4, c5⟩, g0, g1, g2, g3, g4, g5⟩ := A.out.x.cells
          go_wp2_with fail
          refine (at_sum pl _ (HB.out.turn A.out.t (fun _ _ => id)) HN.out (by omega) HXA.out ba (by omega)).mono ?_
          rintro e w8 ⟨rfl, rfl⟩
          go_wp2_with fail
          refine (at_sum (pl+1) _ (HB.out.turn A.out.t (fun _ _ => id)) HN.out (by omega) HXB.out bb (by omega)).mono ?_
          rintro e w8 ⟨rfl, rfl⟩
          go_upto_region 22 with fail
          have A1 := Lib.hid (A.out.new ((Turn.refl (fun _ => False) wr).alloc (.cells #[.bool true, .int .i64 (xb % 9), .int .i64 0] 45)))
          have G1 := Lib.hid (G.out.new ((Turn.refl (fun _ => False) wr).alloc (.cells #[.bool true, .int .i64 (xb % 9), .int .i64 0] 45)))
          have C1 : Hid (Three (wr.alloc (.cells #[.bool true, .int .i64 (xb % 9), .int .i64 0] 45)) wr.heap.size true (xb % 9) 0) := Lib.hid (blk_new wr _ 45)
          clear c0 c1 c2 c3 c4 c5 g0 g1 g2 g3 g4 g5
          obtain ⟨cb, hcb⟩ : ∃ b, wr.heap.size = b := ⟨_, rfl⟩
          have hcbx : bx < cb := hcb ▸ A.out.x.lt
          have hgl : ∀ q, (Sl.val ⟨sao, slen, scap⟩).ownBlock = some q → q < cb := fun q hq => hcb ▸ (G.out.own.lt q hq).2
          rw [hcb] at C1 ⊢
          generalize wr.alloc (.cells #[.bool true, .int .i64 (xb % 9), .int .i64 0] 45) = w1 at A1 G1 C1 ⊢
          clear hcb A G
          have A := A1
          obtain ⟨⟨d0, d1, d2⟩, e0, e1, e2⟩ := C1.out.cells
          go_wp2_with fail
          refine (at_sum (pl+2) _ (HB.out.turn A.out.t (fun _ _ => id)) HN.out (by omega) HXC.out bc (by omega)).mono ?_
          rintro e w8 ⟨rfl, rfl⟩
          go_upto_region 25 with fail
          have C2 := Lib.hid (C1.out.put2 xc)
          have ST2 := Lib.hid (set_turn w1 cb 2 (.int .i64 xc))
          have A2 := Lib.hid (A1.out.turned ST2.out (fun i e => by omega))
          have G2 := Lib.hid (show GCs (w1.setCell ⟨cb, 2, none⟩ (.int .i64 xc)) 45 (bx + 1) ⟨sao, slen, scap⟩ LL from ⟨G1.out.len, own_turn G1.out.own ST2.out (fun q hq e => by have := hgl q hq; omega)⟩)
          clear d0 d1 d2 e0 e1 e2
          generalize w1.setCell ⟨cb, 2, none⟩ (.int .i64 xc) = w2 at A2 G2 C2 ⊢
          clear ST2
          obtain ⟨⟨d0, d1, d2⟩, _⟩ := C2.out.cells
          have A := A2
          obtain ⟨⟨c0, c1, c2, c3, c4, c5⟩, g0, g1, g2, g3, g4, g5⟩ := A.out.x.cells
          obtain ⟨k1, hk1⟩ : ∃ k1, LL.length + 1 = k1 := ⟨_, rfl⟩
          have HK1 := Lib.hid hk1
          have hk17 : k1 ≤ 7 := by omega
          have hbx2 : bx + 1 ≤ w2.heap.size := A2.out.x.lt
          clear hk1
          go_upto_region 19 with (at_builtin; refine wpList_append_case Try.underlying27 info_case rfl (by decide) rfl (.tmp 92) (.tmp 94) rfl ⟨sao, slen, scap⟩ LL ⟨true, xb % 9, xc⟩ rfl rfl G2.out rfl k1 HK1.out (by omega) hbx2 ?_; intro g gc w3 hg h3 t3 b3; have A3 := Lib.hid (A2.out.turned t3.out (fun q e => by have := G2.out.low q e; omega)); clear c0 c1 c2 c3 c4 c5 g0 g1 g2 g3 g4 g5; obtain ⟨⟨c0, c1, c2, c3, c4, c5⟩, g0, g1, g2, g3, g4, g5⟩ := A3.out.x.cells)
          have A4 := Lib.hid (A3.out.put4 (.slice (some ⟨g, 0, none⟩) k1 gc))
          have G4 := Lib.hid (h3.out.far (set_turn w3 bx 4 (.slice (some ⟨g, 0, none⟩) k1 gc)) (fun q e => by omega))
          clear c0 c1 c2 c3 c4 c5 g0 g1 g2 g3 g4 g5
          clear h3 t3 b3 A3 d0 d1 d2
          generalize w3.setCell ⟨bx, 4, none⟩ (.slice (some ⟨g, 0, none⟩) k1 gc) = w4 at A4 G4 ⊢
          go_wp2_with fail
          go_roundw
          case rel => exact ⟨k + 1, pl + 3, ⟨some ⟨g, 0, none⟩, k1, gc⟩, by omega, by go_num, by go_num, by omega, Lib.hid (by rw [HCA.out]), A4, Lib.hid (by rw [HCA.out]; exact G4.out)⟩
          case measure => simp [intOf]; omega
        · have HS := Lib.hid hs
          have HCA := Lib.hid ((casesAt_next HPL.out).trans (by rw [casOne_no HXA.out HXB.out hs, HLL.out]))
          obtain ⟨⟨c0, c1, c2, c3, c4, c5⟩, g0, g1, g2, g3, g4, g5⟩ := A.out.x.cells
          go_wp2_with fail
          refine (at_sum pl _ (HB.out.turn A.out.t (fun _ _ => id)) HN.out (by omega) HXA.out ba (by omega)).mono ?_
          rintro e w8 ⟨rfl, rfl⟩
          go_wp2_with fail
          refine (at_sum (pl+1) _ (HB.out.turn A.out.t (fun _ _ => id)) HN.out (by omega) HXB.out bb (by omega)).mono ?_
          rintro e w8 ⟨rfl, rfl⟩
          go_upto_region 22 with fail
          have A1 := Lib.hid (A.out.new ((Turn.refl (fun _ => False) wr).alloc (.cells #[.bool false, .int .i64 (xb % 9), .int .i64 0] 45)))
          have G1 := Lib.hid (G.out.new ((Turn.refl (fun _ => False) wr).alloc (.cells #[.bool false, .int .i64 (xb % 9), .int .i64 0] 45)))
          have C1 : Hid (Three (wr.alloc (.cells #[.bool false, .int .i64 (xb % 9), .int .i64 0] 45)) wr.heap.size false (xb % 9) 0) := Lib.hid (blk_new wr _ 45)
          clear c0 c1 c2 c3 c4 c5 g0 g1 g2 g3 g4 g5
          obtain ⟨cb, hcb⟩ : ∃ b, wr.heap.size = b := ⟨_, rfl⟩
          have hcbx : bx < cb := hcb ▸ A.out.x.lt
          have hgl : ∀ q, (Sl.val ⟨sao, slen, scap⟩).ownBlock = some q → q < cb := fun q hq => hcb ▸ (G.out.own.lt q hq).2
          rw [hcb] at C1 ⊢
          generalize wr.alloc (.cells #[.bool false, .int .i64 (xb % 9), .int .i64 0] 45) = w1 at A1 G1 C1 ⊢
          clear hcb A G
          have A := A1
          obtain ⟨⟨d0, d1, d2⟩, e0, e1, e2⟩ := C1.out.cells
          have C2 := C1
          have A2 := A1
          have G2 := G1
          clear d0 d1 d2 e0 e1 e2
          generalize hw12 : w1 = w2 at A2 G2 C2 ⊢
          clear hw12
          obtain ⟨⟨d0, d1, d2⟩, _⟩ := C2.out.cells
          have A := A2
          obtain ⟨⟨c0, c1, c2, c3, c4, c5⟩, g0, g1, g2, g3, g4, g5⟩ := A.out.x.cells
          obtain ⟨k1, hk1⟩ : ∃ k1, LL.length + 1 = k1 := ⟨_, rfl⟩
          have HK1 := Lib.hid hk1
          have hk17 : k1 ≤ 7 := by omega
          have hbx2 : bx + 1 ≤ w2.heap.size := A2.out.x.lt
          clear hk1
          go_upto_region 19 with (at_builtin; refine wpList_append_case Try.underlying27 info_case rfl (by decide) rfl (.tmp 92) (.tmp 94) rfl ⟨sao, slen, scap⟩ LL ⟨false, xb % 9, 0⟩ rfl rfl G2.out rfl k1 HK1.out (by omega) hbx2 ?_; intro g gc w3 hg h3 t3 b3; have A3 := Lib.hid (A2.out.turned t3.out (fun q e => by have := G2.out.low q e; omega)); clear c0 c1 c2 c3 c4 c5 g0 g1 g2 g3 g4 g5; obtain ⟨⟨c0, c1, c2, c3, c4, c5⟩, g0, g1, g2, g3, g4, g5⟩ := A3.out.x.cells)
          have A4 := Lib.hid (A3.out.put4 (.slice (some ⟨g, 0, none⟩) k1 gc))
          have G4 := Lib.hid (h3.out.far (set_turn w3 bx 4 (.slice (some ⟨g, 0, none⟩) k1 gc)) (fun q e => by omega))
          clear c0 c1 c2 c3 c4 c5 g0 g1 g2 g3 g4 g5
          clear h3 t3 b3 A3 d0 d1 d2
          generalize w3.setCell ⟨bx, 4, none⟩ (.slice (some ⟨g, 0, none⟩) k1 gc) = w4 at A4 G4 ⊢
          go_wp2_with fail
          go_roundw
          case rel => exact ⟨k + 1, pl + 2, ⟨some ⟨g, 0, none⟩, k1, gc⟩, by omega, by go_num, by go_num, by omega, Lib.hid (by rw [HCA.out]), A4, Lib.hid (by rw [HCA.out]; exact G4.out)⟩
          case measure => simp [intOf]; omega
      · have hkm : k = m := by omega
        have HFIN := Lib.hid (show opOne B i = (⟨9, 0, 0, 0, LL, els⟩, pl) by
          rw [opOne_9 HK.out, H1.out, H2.out, HE.out, HI3.out, HM7.out, Int.toNat_natCast, ← hkm, ← HPL.out, hLL])
        clear hkm hLL
        obtain ⟨⟨c0, c1, c2, c3, c4, c5⟩, g0, g1, g2, g3, g4, g5⟩ := A.out.x.cells
        obtain ⟨⟨z0, z1, z2, z3, z4, z5⟩, y0, y1, y2, y3, y4, y5⟩ := A.out.z.cells
        go_wp2_with fail
        clear c0 c1 c2 c3 c4 c5 g0 g1 g2 g3 g4 g5
        clear z0 z1 z2 z3 z4 z5 y0 y1 y2 y3 y4 y5
        have ZF := Lib.hid (A.out.z.all (9) (0) (0) (0) (.slice sao slen scap) els)
        have TF := Lib.hid (A.out.t.and (six_turn wr rz (.int .i64 (9)) (.int .i64 (0)) (.int .i64 (0)) (.int .i64 (0)) (.slice sao slen scap) (.bool els)) (fun j hj e => by have := A.out.low; omega))
        have GF : Hid (BCs ((((((wr.setCell ⟨rz, 0, none⟩ (.int .i64 (9))).setCell ⟨rz, 1, none⟩ (.int .i64 (0))).setCell ⟨rz, 2, none⟩ (.int .i64 (0))).setCell ⟨rz, 3, none⟩ (.int .i64 (0))).setCell ⟨rz, 4, none⟩ (.slice sao slen scap)).setCell ⟨rz, 5, none⟩ (.bool els)) 45 ⟨sao, slen, scap⟩ LL) := Lib.hid ((G.out.far (six_turn wr rz (.int .i64 (9)) (.int .i64 (0)) (.int .i64 (0)) (.int .i64 (0)) (.slice sao slen scap) (.bool els)) (fun q e => by have := A.out.nxt; omega)).done)
        generalize (((((wr.setCell ⟨rz, 0, none⟩ (.int .i64 (9))).setCell ⟨rz, 1, none⟩ (.int .i64 (0))).setCell ⟨rz, 2, none⟩ (.int .i64 (0))).setCell ⟨rz, 3, none⟩ (.int .i64 (0))).setCell ⟨rz, 4, none⟩ (.slice sao slen scap)).setCell ⟨rz, 5, none⟩ (.bool els) = wf at ZF TF GF ⊢
        obtain ⟨⟨c0, c1, c2, c3, c4, c5⟩, _⟩ := ZF.out.cells
        refine bodyPost_ret (v := .tuple #[.agg #[.int .i64 9, .int .i64 0, .int .i64 0, .int .i64 0, .slice sao slen scap, .bool els], .int .i64 pl]) (by simp [results, Try.results35, go_sem, c0, c1, c2, c3, c4, c5]) rfl ⟨⟨9, 0, 0, 0, ⟨sao, slen, scap⟩, els⟩, ?_, ?_, TF.out⟩
        · rw [HFIN.out]
          rfl
        · rw [HFIN.out]
          exact ⟨⟨rfl, rfl, rfl, rfl, rfl, GF.out.r⟩, GF.out.typ⟩
  · have B1 : hasCh kind = true := by simp [hasCh, p1, p2]
    have B0 : (kind == 1) = false := by simp; omega
    have B9 : (kind == 9) = false := by simp; omega
    obtain ⟨bv, B2⟩ : ∃ b, hasV kind = b := ⟨_, rfl⟩
    obtain ⟨⟨c0, c1, c2, c3, c4, c5⟩, g0, g1, g2, g3, g4, g5⟩ := A.out.x.cells
    go_wp2_with fail
    refine (rhasch_any _ true _ B1).mono ?_
    rintro e w8 ⟨rfl, rfl⟩
    go_wp2_with fail
    refine (at_sum (i+1) _ (HB.out.turn A.out.t (fun _ _ => id)) HN.out (by omega) H1.out b1 (by omega)).mono ?_
    rintro e w8 ⟨rfl, rfl⟩
    go_upto_region 6 with fail
    have A := Lib.hid (A.out.put1 (x1 % 9))
    clear c0 c1 c2 c3 c4 c5 g0 g1 g2 g3 g4 g5
    generalize hwn : wc.setCell ⟨bx, 1, none⟩ (.int .i64 (x1 % 9)) = wd at A ⊢
    clear hwn
    obtain ⟨⟨c0, c1, c2, c3, c4, c5⟩, g0, g1, g2, g3, g4, g5⟩ := A.out.x.cells
    cases bv
    · go_wp2_with fail
      refine (rhasv_any _ false _ B2).mono ?_
      rintro e w8 ⟨rfl, rfl⟩
      obtain ⟨⟨z0, z1, z2, z3, z4, z5⟩, y0, y1, y2, y3, y4, y5⟩ := A.out.z.cells
      go_wp2_with fail
      clear c0 c1 c2 c3 c4 c5 g0 g1 g2 g3 g4 g5
      clear z0 z1 z2 z3 z4 z5 y0 y1 y2 y3 y4 y5
      have ZF := Lib.hid (A.out.z.all (kind) (x1 % 9) (0) (0) (.slice none 0 0) false)
      have TF := Lib.hid (A.out.t.and (six_turn wd rz (.int .i64 (kind)) (.int .i64 (x1 % 9)) (.int .i64 (0)) (.int .i64 (0)) (.slice none 0 0) (.bool false)) (fun j hj e => by have := A.out.low; omega))
      generalize (((((wd.setCell ⟨rz, 0, none⟩ (.int .i64 (kind))).setCell ⟨rz, 1, none⟩ (.int .i64 (x1 % 9))).setCell ⟨rz, 2, none⟩ (.int .i64 (0))).setCell ⟨rz, 3, none⟩ (.int .i64 (0))).setCell ⟨rz, 4, none⟩ (.slice none 0 0)).setCell ⟨rz, 5, none⟩ (.bool false) = wf at ZF TF ⊢
      obtain ⟨⟨c0, c1, c2, c3, c4, c5⟩, _⟩ := ZF.out.cells
      have GN := (GCs.nil wf 45 0).done
      refine bodyPost_ret (v := .tuple #[.agg #[.int .i64 (kind), .int .i64 (x1 % 9), .int .i64 (0), .int .i64 (0), .slice none 0 0, .bool false], .int .i64 (↑i + 1 + 1)]) (by simp [results, Try.results35, go_sem, c0, c1, c2, c3, c4, c5]) rfl ⟨⟨kind, x1 % 9, 0, 0, ⟨none, 0, 0⟩, false⟩, ?_, ?_, TF.out⟩
      · rw [opOne_c HK.out B1 B2 B0 B9]
        exact ret_op (by omega)
      · rw [opOne_c HK.out B1 B2 B0 B9]
        exact ⟨⟨rfl, by first | rfl | (rw [H1.out]), by first | rfl | (rw [H1.out]), by first | rfl | (rw [H2.out]), rfl, GN.r⟩, GN.typ⟩
    · go_wp2_with fail
      refine (rhasv_any _ true _ B2).mono ?_
      rintro e w8 ⟨rfl, rfl⟩
      go_wp2_with fail
      refine (at_sum (i+2) _ (HB.out.turn A.out.t (fun _ _ => id)) HN.out (by omega) H2.out b2 (by omega)).mono ?_
      rintro e w8 ⟨rfl, rfl⟩
      go_upto_region 12 with fail
      have A := Lib.hid (A.out.put3 x2)
      clear c0 c1 c2 c3 c4 c5 g0 g1 g2 g3 g4 g5
      generalize hwn : wd.setCell ⟨bx, 3, none⟩ (.int .i64 x2) = we at A ⊢
      clear hwn
      obtain ⟨⟨c0, c1, c2, c3, c4, c5⟩, g0, g1, g2, g3, g4, g5⟩ := A.out.x.cells
      obtain ⟨⟨z0, z1, z2, z3, z4, z5⟩, y0, y1, y2, y3, y4, y5⟩ := A.out.z.cells
      go_wp2_with fail
      clear c0 c1 c2 c3 c4 c5 g0 g1 g2 g3 g4 g5
      clear z0 z1 z2 z3 z4 z5 y0 y1 y2 y3 y4 y5
      have ZF := Lib.hid (A.out.z.all (kind) (x1 % 9) (0) (x2) (.slice none 0 0) false)
      have TF := Lib.hid (A.out.t.and (six_turn we rz (.int .i64 (kind)) (.int .i64 (x1 % 9)) (.int .i64 (0)) (.int .i64 (x2)) (.slice none 0 0) (.bool false)) (fun j hj e => by have := A.out.low; omega))
      generalize (((((we.setCell ⟨rz, 0, none⟩ (.int .i64 (kind))).setCell ⟨rz, 1, none⟩ (.int .i64 (x1 % 9))).setCell ⟨rz, 2, none⟩ (.int .i64 (0))).setCell ⟨rz, 3, none⟩ (.int .i64 (x2))).setCell ⟨rz, 4, none⟩ (.slice none 0 0)).setCell ⟨rz, 5, none⟩ (.bool false) = wf at ZF TF ⊢
      obtain ⟨⟨c0, c1, c2, c3, c4, c5⟩, _⟩ := ZF.out.cells
      have GN := (GCs.nil wf 45 0).done
      refine bodyPost_ret (v := .tuple #[.agg #[.int .i64 (kind), .int .i64 (x1 % 9), .int .i64 (0), .int .i64 (x2), .slice none 0 0, .bool false], .int .i64 (↑i + 1 + 1 + 1)]) (by simp [results, Try.results35, go_sem, c0, c1, c2, c3, c4, c5]) rfl ⟨⟨kind, x1 % 9, 0, x2, ⟨none, 0, 0⟩, false⟩, ?_, ?_, TF.out⟩
      · rw [opOne_v HK.out B1 B2 B0 B9]
        exact ret_op (by omega)
      · rw [opOne_v HK.out B1 B2 B0 B9]
        exact ⟨⟨rfl, by first | rfl | (rw [H1.out]), by first | rfl | (rw [H1.out]), by first | rfl | (rw [H2.out]), rfl, GN.r⟩, GN.typ⟩

end Go.Proofs.Ytaighbofekefkaa
