/- The code's copiedGs, walked. -/
import Derived.Test.YtenbafkgfdlfpaaKGs
namespace Go.Proofs.Ytenbafkgfdlfpaa
open Go.RowKit
set_option linter.unusedVariables false

/-- Within a round: the new row of ops, of which those below j are copies. -/
structure Inn (w : World) (S0 g2 c2 n b5 : Nat) (x : GV) (Y : List GV) (oa : Option Addr) (oc m j : Nat) (ops : List Opr) (R R' : List OpV) (wr : World) : Prop where
  rnd : Rnd w S0 g2 c2 n b5 x Y wr
  own : wr.ownsRow S0 88 6 (.slice oa m oc) m (flat encOV R')
  ne : ∀ ad, oa = some ad → ad.block ≠ b5
  len : R'.length = m
  rest : ∀ k, j ≤ k → R'[k]? = R[k]?
  done : ∀ (k : Nat) o, k < j → ops[k]? = some o → ∃ r, R'[k]? = some r ∧ ROp wr r o ∧ ∀ ad, r.cs.ao = some ad → S0 ≤ ad.block ∧ ad.block < wr.heap.size ∧ ∀ a2, oa = some a2 → ad.block ≠ a2.block
section
variable {w : World} {S0 g2 c2 n b5 : Nat} {x : GV} {Y : List GV} {oa : Option Addr} {oc m j : Nat} {ops : List Opr} {R R' : List OpV} {wr w' : World}
theorem Inn.new (h : Inn w S0 g2 c2 n b5 x Y oa oc m j ops R R' wr) (t : Turn (fun _ => False) wr w') : Inn w S0 g2 c2 n b5 x Y oa oc m j ops R R' w' :=
  ⟨h.rnd.new t, own_turn h.own t (fun _ _ => id), h.ne, h.len, h.rest, fun k o hk ho => by
    obtain ⟨r, h1, h2, h3⟩ := h.done k o hk ho
    exact ⟨r, h1, h2.new t, fun ad e => ⟨(h3 ad e).1, by have := h3 ad e; have := t.size; omega, (h3 ad e).2.2⟩⟩⟩
/-- The copy of one more. -/
theorem Inn.more {go : Nat} (h : Inn w S0 g2 c2 n b5 x Y (some ⟨go, 0, none⟩) oc m j ops R R' wr) {r' : OpV} {o : Opr} (ho : ops[j]? = some o) (hr : ROp wr r' o) (hd : ∀ ad, r'.cs.ao = some ad → S0 ≤ ad.block ∧ ad.block < wr.heap.size ∧ ad.block ≠ go) (hj : j < m)
    (own : w'.ownsRow S0 88 6 (.slice (some ⟨go, 0, none⟩) m oc) m (flat encOV (R'.set j r'))) (t : Turn (fun k => k = go) wr w') : Inn w S0 g2 c2 n b5 x Y (some ⟨go, 0, none⟩) oc m (j + 1) ops R (R'.set j r') w' := by
  have hgo := h.own.lt go (by rw [own_block]; rfl)
  refine ⟨h.rnd.aside t hgo.1 (fun e => h.ne _ rfl e), own, h.ne, by rw [List.length_set]; exact h.len, fun k hk => ?_, fun k o' hk ho' => ?_⟩
  · rw [List.getElem?_set_ne (by omega)]
    exact h.rest k (by omega)
  · by_cases hkj : k = j
    · subst hkj
      obtain rfl : o = o' := Option.some.inj (ho.symm.trans ho')
      refine ⟨r', by simp [h.len, hj], rop_keep hr t (fun ad e e' => (hd ad e).2.2 e'), fun ad e => ⟨(hd ad e).1, by have := t.size; have := hd ad e; omega, fun a2 e2 => by cases e2; exact (hd ad e).2.2⟩⟩
    · obtain ⟨r, h1, h2, h3⟩ := h.done k o' (by omega) ho'
      refine ⟨r, by rw [List.getElem?_set_ne (fun e => hkj e.symm)]; exact h1, rop_keep h2 t (fun ad e e' => (h3 ad e).2.2 _ rfl e'), fun ad e => ⟨(h3 ad e).1, by have := t.size; have := h3 ad e; omega, (h3 ad e).2.2⟩⟩
theorem Inn.all (h : Inn w S0 g2 c2 n b5 x Y oa oc m m ops R R' wr) (hm : ops.length = m) : QOps (Sg S0 wr) wr ⟨oa, m, oc⟩ ops := by
  obtain ⟨ao', c', e1, h1, h2, h3, h4⟩ := own_slice h.own
  cases e1
  refine ⟨⟨hm.symm, h1, h2, h3⟩, fun ad e => ?_, R', by rw [h.len, hm], Has.of_own encOV_ok (by decide) h.own, fun i r o hr ho => ?_⟩
  · obtain ⟨g, rfl, hg⟩ := h4 ad e
    exact hg
  · obtain ⟨r', h5, h6, h7⟩ := h.done i o (by have := (List.getElem?_eq_some_iff.1 ho).1; omega) ho
    obtain rfl : r' = r := Option.some.inj (h5.symm.trans hr)
    exact ⟨h6, fun ad e => ⟨(h7 ad e).1, (h7 ad e).2.1⟩⟩
end

/-- The copies of the rounds before. -/
def Dns (w : World) (S0 g2 i : Nat) (X Y : List GV) (wr : World) : Prop := ∀ (k : Nat) z, k < i → X[k]? = some z → ∃ y, Y[k]? = some y ∧ y.g = z.g ∧ CG (fun b => w.heap.size ≤ b ∧ b < S0 ∧ b ≠ g2) wr y
theorem Dns.keep {w wr w' : World} {S0 g2 i : Nat} {X Y : List GV} {S : Nat → Prop} (h : Dns w S0 g2 i X Y wr) (t : Turn S wr w') (hs : ∀ b, b < S0 → b ≠ g2 → ¬ S b) : Dns w S0 g2 i X Y w' := fun k z hk hz => by
  obtain ⟨y, h1, h2, h3⟩ := h k z hk hz
  exact ⟨y, h1, h2, h3.keep t (fun b hb => hs b hb.2.1 hb.2.2)⟩
/-- Goroutines like those of l, in memory of their own: a row, and rows beside it. -/
def CpGs (l : List Gr) (n : Nat) (w : World) (e : Ending) (w' : World) : Prop :=
  ∃ (s : Sl) (Y : List GV), e = .returned (.slice s.ao n s.cap) ∧ s.len = n ∧ w'.ownsRow w.heap.size 50 25 s.val n (flat GV.cs Y) ∧ Y.map GV.g = l ∧ (∀ y ∈ Y, CG (fun b => w.heap.size ≤ b ∧ b < w'.heap.size ∧ s.val.ownBlock ≠ some b) w' y) ∧ Turn (fun _ => False) w w'

set_option maxRecDepth 100000 in
set_option maxHeartbeats 8000000 in
theorem copiedgs_some {D : Nat → Prop} {s : Sl} {X : List GV} {n : Nat} (w : World) (hs : s.len = n) (hnil : s.ao = none → s.cap = 0) (hX : Has GV.cs 25 w s.ao X) (hr : ∀ x ∈ X, RG D w x) (hn : X.length = n) (hm : n ≤ 4096) (ht : ∀ x ∈ X, Tame x.g) :
    Calls Try.prog 18 #[.slice s.ao n s.cap] w (CpGs (X.map GV.g) n w) := by
  have HX := Lib.hid hX
  have HR := Lib.hid hr
  have HN := Lib.hid hn
  have HT := Lib.hid ht
  have HNIL := Lib.hid hnil
  have HS := Lib.hid hs
  clear hX hr hn ht hnil hs
  go_enter Try.func18, Try.ntmps18
  go_wp2_with fail
  refine (cpg_any w HN.out (by omega) HNIL.out HX.out).mono ?_
  rintro e w1 ⟨⟨a2, l2, c2⟩, rfl, hl2, o1, t1⟩
  have hl2' : l2 = n := hl2
  subst hl2'
  have O1 := Lib.hid o1
  have T1 := Lib.hid t1
  clear hl2 o1 t1
  dsimp only
  go_upto_region 3 with fail
  by_cases h0 : l2 = 0
  · subst h0
    go_loopw [12] (fun s12 wr => s12 = .int .i64 0 ∧ Hid (wr = w1)) (fun _ _ => 0)
    case atStart => exact ⟨rfl, Lib.hid rfl⟩
    case round =>
      obtain ⟨rfl, hw⟩ := hrel
      go_wp2_with fail
      go_ret
      refine ⟨⟨a2, 0, c2⟩, X, rfl, rfl, by rw [hw.out]; exact O1.out, rfl, ?_, by rw [hw.out]; exact T1.out⟩
      intro y hy
      have : X.length = 0 := HN.out
      rw [List.eq_nil_of_length_eq_zero this] at hy
      cases hy
  obtain ⟨g2, c2', e1, hg2, -, -⟩ := own_form O1.out (by show 0 < l2; omega)
  cases e1
  have HC : Hid (Cps w g2 c2 l2 0 X X w1) := Lib.hid ⟨O1.out, HN.out, fun _ _ => rfl, fun k x hk => absurd hk (Nat.not_lt_zero _), T1.out⟩
  clear O1 T1
  go_loopw [12] (fun s12 wr => ∃ (i : Nat) (Y : List GV), i ≤ l2 ∧ s12 = .int .i64 i ∧ Hid (Cps w g2 c2 l2 i X Y wr)) (fun s12 _ => l2 - (intOf s12).toNat)
  case atStart => exact ⟨0, X, Nat.zero_le _, rfl, HC⟩
  case round =>
    clear HC
    obtain ⟨i, Y, hi, rfl, HC⟩ := hrel
    by_cases hlt : i < l2
    · obtain ⟨x, hx⟩ : ∃ x, X[i]? = some x := ⟨_, List.getElem?_eq_getElem (by rw [HN.out]; exact hlt)⟩
      have hyx : Y[i]? = some x := (HC.out.rest i (Nat.le_refl i)).trans hx
      have hxm := List.mem_of_getElem? hx
      obtain ⟨a, ha, hld, -, -⟩ := has_load (P := Try.prog) (t := 50) gv_ok (Has.of_own gv_ok (by decide) HC.out.own) hyx t_g
      cases ha
      rw [Addr.add_lit, Nat.zero_add] at hld
      have HXI := Lib.hid hx
      have HYX := Lib.hid hyx
      have HXM := Lib.hid hxm
      clear hx hyx hxm
      obtain ⟨m, hmo⟩ : ∃ m, x.g.ops.length = m := ⟨_, rfl⟩
      have hm1 : m ≤ 1000000 := hmo ▸ (HT.out x HXM.out).ops.1
      have HMO := Lib.hid hmo
      have HRX := Lib.hid (HR.out x HXM.out)
      obtain ⟨R, hRl, hRh, hRr⟩ := HRX.out.ops.ops.has
      have hRm : R.length = m := hRl.trans hmo
      have HRM := Lib.hid hRm
      have HRH := Lib.hid hRh
      have HRR := Lib.hid hRr
      have HLO := Lib.hid (HRX.out.ops.ops.ok.len.trans hmo)
      clear hmo hRl hRh hRr hRm
      have BB := Lib.hid (boxes1 wr 50 zG.cs)
      go_upto_region 5 with (first | refine wpList_load_at rfl rfl rfl hld ?_ | (refine wpList_store_box rfl rfl BB.out 0 rfl rfl x.cs rfl rfl t_g (gv_ok.one _) ?_; intro w4 B4 T4))
      obtain ⟨S0, hS0⟩ : ∃ S0, wr.heap.size = S0 := ⟨_, rfl⟩
      have HW0 := Lib.hid (show w.heap.size ≤ S0 by rw [← hS0]; exact HC.out.t.size)
      have HC2 := Lib.hid (show w.heap.size ≤ g2 from (HC.out.own.lt g2 (by rw [own_block]; rfl)).1)
      have HG2 := Lib.hid (show g2 < S0 by rw [← hS0]; exact (HC.out.own.lt g2 (by rw [own_block]; rfl)).2)
      rw [hS0] at B4 ⊢
      have HRN : Hid (Rnd w S0 g2 c2 l2 S0 x Y w4) := Lib.hid ⟨own_turn HC.out.own B4.out.t (fun _ _ => id), B4.out.at 0 rfl, ⟨HG2.out, Nat.le_refl _, HW0.out⟩, HC.out.t.trans B4.out.t⟩
      have HDN : Hid (Dns w S0 g2 i X Y w4) := Lib.hid (fun k z hk hz => by
        obtain ⟨y, h1, h2, h3⟩ := HC.out.done k z hk hz
        rw [hS0] at h3
        exact ⟨y, h1, h2, h3.keep B4.out.t (fun _ _ => id)⟩)
      have HRST : Hid (∀ k, i ≤ k → Y[k]? = X[k]?) := Lib.hid HC.out.rest
      have HYL : Hid (Y.length = l2) := Lib.hid HC.out.len
      have T04 := Lib.hid (HC.out.t.trans B4.out.t)
      clear HC hld BB B4 T4 hS0
      have F0 := blk_f HRN.out.box
      go_wp2_with fail
      have HLEN := HLO.out
      rw [HLEN]
      refine (cpop_any w4 HRM.out hm1 HRX.out.ops.ops.ok.nil (HRH.out.new T04.out)).mono ?_
      rintro e w5 ⟨⟨oa, ol, oc⟩, rfl, hol, o5, t5⟩
      have hol' : ol = m := hol
      subst hol'
      have O5 := Lib.hid o5
      have T5 := Lib.hid t5
      clear hol o5 t5 F0
      dsimp only
      have HR5 := Lib.hid (HRN.out.new T5.out)
      have HD5 := Lib.hid (HDN.out.keep T5.out (fun _ _ _ => id))
      have T05 := Lib.hid (T04.out.trans T5.out)
      have HS4 := Lib.hid (show S0 < w4.heap.size from HRN.out.box.lt)
      clear HRN HDN T04
      obtain ⟨d0, d1⟩ := own_first gv_ok HR5.out.own HYX.out (by decide) (u := x.so.val) rfl
      have F0 := blk_f HR5.out.box
      go_upto_region 6 with fail
      obtain ⟨y1, hy1⟩ : ∃ y1 : GV, y1 = { x with so := ⟨oa, ol, oc⟩ } := ⟨_, rfl⟩
      have HY1 := Lib.hid hy1
      have HR6 : Hid (Rnd w S0 g2 c2 l2 S0 x (Y.set i y1) (w5.setCell ⟨g2, i * 25, none⟩ (.slice oa ol oc))) := Lib.hid (HR5.out.put HYX.out (k := 0) (by decide) (u := .slice oa ol oc) (y' := y1) (by rw [hy1]; rfl))
      have T6 := Lib.hid (set_turn w5 g2 (i * 25) (.slice oa ol oc))
      have HD6 := Lib.hid (HD5.out.keep T6.out (fun b _ hb e => hb e))
      have O6 := Lib.hid (own_turn O5.out T6.out (fun k hk e => by have := (O5.out.lt k hk).1; have := HG2.out; have := HS4.out; omega))
      clear d0 d1 F0 hy1
      have HIN : Hid (Inn w S0 g2 c2 l2 S0 x (Y.set i y1) oa oc ol 0 x.g.ops R R (w5.setCell ⟨g2, i * 25, none⟩ (.slice oa ol oc))) := Lib.hid ⟨HR6.out, own_less O6.out (Nat.le_of_lt HS4.out), fun ad e => by
          subst e
          have := (O6.out.lt ad.block (by show (Value.slice (some ad) ol oc).ownBlock = _; rw [own_block]; rfl)).1
          have := HS4.out
          omega, HRM.out, fun _ _ => rfl, fun k o hk => absurd hk (Nat.not_lt_zero _)⟩
      clear HR5 HD5 O5 T5 HR6 O6
      generalize w5.setCell ⟨g2, i * 25, none⟩ (.slice oa ol oc) = w6 at HIN HD6 T6 ⊢
      have T06 := Lib.hid (T05.out.and T6.out (fun b hb e => by have := HC2.out; omega))
      clear T05 T6
      have F0 := blk_f HIN.out.rnd.box
      go_upto_region 7 with fail
      clear F0
      generalize x.so.ao = xo at HRH ⊢
      have HYI := Lib.hid (show (Y.set i y1)[i]? = some y1 by simp [HYL.out, hlt])
      go_loopw [27] (fun s27 wr7 => ∃ (j : Nat) (R' : List OpV), j ≤ ol ∧ s27 = .int .i64 j ∧ Hid (Inn w S0 g2 c2 l2 S0 x (Y.set i y1) oa oc ol j x.g.ops R R' wr7) ∧ Hid (Dns w S0 g2 i X Y wr7) ∧ Hid (Turn (fun _ => False) w wr7)) (fun s27 _ => ol - (intOf s27).toNat)
      case atStart => exact ⟨0, R, Nat.zero_le _, rfl, HIN, HD6, T06⟩
      case round =>
        clear HIN HD6 T06
        obtain ⟨j, R', hj, rfl, HI, HD, HT7⟩ := hrel
        by_cases hjl : j < ol
        · obtain ⟨r, hr⟩ : ∃ r, R[j]? = some r := ⟨_, List.getElem?_eq_getElem (by rw [HRM.out]; exact hjl)⟩
          obtain ⟨o, ho⟩ : ∃ o, x.g.ops[j]? = some o := ⟨_, List.getElem?_eq_getElem (by rw [HMO.out]; exact hjl)⟩
          have HRO := Lib.hid (HRR.out j r o hr ho)
          have HOC := Lib.hid ((HT.out x HXM.out).ops.2 o (List.mem_of_getElem? ho))
          have HO := Lib.hid ho
          obtain ⟨a7, ha7, hld7, -, -⟩ := has_load (P := Try.prog) (t := 88) encOV_ok (HRH.out.new HT7.out) hr t_op
          obtain ⟨go, oc', e1, -, -, -⟩ := own_form HI.out.own (by omega)
          cases e1
          subst ha7
          clear hr ho
          obtain ⟨S7, hS7⟩ : ∃ S7, wr.heap.size = S7 := ⟨_, rfl⟩
          have BB := Lib.hid (boxes1 wr 88 (encOV zO))
          rw [hS7] at BB
          go_upto_region 9 with (first | refine wpList_load_at rfl rfl rfl hld7 ?_ | (refine wpList_store_box rfl rfl BB.out 0 rfl rfl (encOV r) rfl rfl t_op (encOV_ok.one _) ?_; intro w8 B8 T8))
          have HI8 := Lib.hid (HI.out.new B8.out.t)
          have HD8 := Lib.hid (HD.out.keep B8.out.t (fun _ _ _ => id))
          have T8' := Lib.hid (HT7.out.trans B8.out.t)
          have HIN0 := Lib.hid (show S0 ≤ S7 by rw [← hS7]; exact Nat.le_of_lt HI.out.rnd.box.lt)
          have HG3 := Lib.hid (show go < S7 by rw [← hS7]; exact (HI.out.own.lt go (by rw [own_block]; rfl)).2)
          have HG4 := Lib.hid (show g2 < S7 ∧ S7 < w8.heap.size by rw [← hS7]; exact ⟨HI.out.rnd.g2lo.2, by rw [hS7]; exact (B8.out.at 0 rfl).lt⟩)
          have A0 : w8.cell? ⟨g2, i * 25, none⟩ = some (.slice (some ⟨go, 0, none⟩) ol oc) := (own_first gv_ok HI8.out.rnd.own HYI.out (by decide) (u := .slice (some ⟨go, 0, none⟩) ol oc) (by rw [HY1.out]; rfl)).1
          have A1 : At w8 ⟨S7, 0, none⟩ (encOV r) := blk_at (B8.out.at 0 rfl)
          clear HI HD HT7 hld7 BB T8
          refine stand_start (by kernel_rfl) 9 (fun w' => w'.cell? ⟨g2, i * 25, none⟩ = some (.slice (some ⟨go, 0, none⟩) ol oc) ∧ At w' ⟨S7, 0, none⟩ (encOV r)) 99 (fun _ => True) ⟨A0, A1⟩ trivial ?_
          have HI9 : Hid (Inn w S0 g2 c2 l2 S0 x (Y.set i y1) (some ⟨go, 0, none⟩) oc ol j x.g.ops R R' w8.drew) := Lib.hid (HI8.out.new (Turn.refl _ _).drew)
          have HD9 := Lib.hid (HD8.out.keep (Turn.refl (fun _ => False) w8).drew (fun _ _ _ => id))
          have T9 := Lib.hid (T8'.out.drew)
          have HG9 : Hid (w8.heap.size ≤ w8.drew.heap.size) := Lib.hid (Nat.le_refl _)
          have A0' : w8.drew.cell? ⟨g2, i * 25, none⟩ = some (.slice (some ⟨go, 0, none⟩) ol oc) := A0
          have A1' : At w8.drew ⟨S7, 0, none⟩ (encOV r) := A1
          have HA := Lib.hid (And.intro A0' A1')
          clear A0 A1 A0' A1' HI8 HD8 T8'
          generalize w8.drew = wd at HI9 HD9 T9 HA HG9 ⊢
          have hd0 : decide ((i : Int) < 0) = false := decide_eq_false (by omega)
          have hd1 : decide ((j : Int) < 0) = false := decide_eq_false (by omega)
          refine stand_take (i := 0) (v := ?_) rfl (by kernel_rfl) (by kernel_rfl) (by kernel_rfl) (by rfl) (fun _ _ _ h => h) (by decide) (by decide) (by rfl) ?_ ?_
          rotate_left
          · (intro w; go_simp; try with_reducible rfl)
          dsimp only [List.set_cons_zero, List.set_cons_succ]
          refine stand_take (i := 1) (v := ?_) rfl (by kernel_rfl) (by kernel_rfl) (by kernel_rfl) (by rfl) (fun _ _ _ h => h) (by decide) (by decide) (by rfl) ?_ ?_
          rotate_left
          · (intro w; go_simp; try with_reducible rfl)
          dsimp only [List.set_cons_zero, List.set_cons_succ]
          refine stand_take (i := 2) (v := ?_) rfl (by kernel_rfl) (by kernel_rfl) (by kernel_rfl) (by rfl) (fun _ _ _ h => h) (by decide) (by decide) (by rfl) ?_ ?_
          rotate_left
          · (intro w; go_simp; try with_reducible rfl)
          dsimp only [List.set_cons_zero, List.set_cons_succ]
          refine stand_take (i := 3) (v := ?_) rfl (by kernel_rfl) (by kernel_rfl) (by kernel_rfl) (by rfl) (fun _ _ _ h => h) (by decide) (by decide) (by rfl) ?_ ?_
          rotate_left
          · (intro w; go_simp; try with_reducible rfl)
          dsimp only [List.set_cons_zero, List.set_cons_succ]
          refine stand_load1 (i := 4) (v := ?_) rfl (by kernel_rfl) (by kernel_rfl) (by kernel_rfl) (by rfl) (fun _ _ _ h => h) (by decide) (by decide) (by kernel_rfl) (by rfl) ?_ ?_
          rotate_left
          · (intro w hA; (try dsimp only at hA); go_simp; try with_reducible rfl)
          dsimp only [List.set_cons_zero, List.set_cons_succ]
          refine stand_take (i := 5) (v := ?_) rfl (by kernel_rfl) (by kernel_rfl) (by kernel_rfl) (by rfl) (fun _ _ _ h => h) (by decide) (by decide) (by rfl) ?_ ?_
          rotate_left
          · (intro w; go_simp; try with_reducible rfl)
          dsimp only [List.set_cons_zero, List.set_cons_succ]
          refine stand_load1 (i := 6) (v := .agg (encOV (r)).toArray) rfl (by kernel_rfl) (by kernel_rfl) (by kernel_rfl) (by rfl) (fun _ _ _ h => h) (by decide) (by decide) (by kernel_rfl) (by rfl) (fun w hA => exec_at hA.2 t_op rfl rfl) ?_
          dsimp only [List.set_cons_zero, List.set_cons_succ]
          refine stand_step (i := 7) (by kernel_rfl) rfl (fun K hK => ?_)
          go_simp
          refine (copiedop_any wd (HRO.out.new T9.out) HOC.out).mono ?_
          rintro e w9 ⟨r', rfl, hr', hd', t9⟩
          refine hK.out _ _ (fun _ => ⟨t9.cell id HA.out.1, HA.out.2.new t9⟩) (fun _ => trivial) ?_
          clear hK K
          try simp only [put_laid, List.set_cons_zero, List.set_cons_succ]
          have HR' := Lib.hid hr'
          have HD' := Lib.hid hd'
          have T9' := Lib.hid t9
          clear hr' hd' t9
          refine stand_take (i := 8) (v := ?_) rfl (by kernel_rfl) (by kernel_rfl) (by kernel_rfl) (by rfl) (fun _ _ _ h => h) (by decide) (by decide) (by rfl) ?_ ?_
          rotate_left
          · (intro w; go_simp; try with_reducible rfl)
          dsimp only [List.set_cons_zero, List.set_cons_succ]
          have HI10 := Lib.hid (HI9.out.new T9'.out)
          have HD10 := Lib.hid (HD9.out.keep T9'.out (fun _ _ _ => id))
          obtain ⟨w10, r10, -, o10, t10⟩ := own_store (P := Try.prog) encOV_ok HI10.out.own (j := j) r' (by rw [HI10.out.len]; exact hjl) t_op.2
          have O10 := Lib.hid o10
          have T10 := Lib.hid t10
          refine stand_step (i := 9) (by kernel_rfl) rfl (fun K hK => ?_)
          refine step_store_at rfl rfl rfl rfl r10 ?_
          refine hK.out _ _ (past (by kernel_rfl)) (fun _ => trivial) ?_
          clear hK K r10 o10 t10
          refine stand_done (by kernel_rfl) ?_
          have HI11 := Lib.hid (HI10.out.more HO.out HR'.out (fun ad e => by have := HD'.out ad e; have := HG3.out; have := HG4.out; have := HG9.out; have := HIN0.out; exact ⟨by omega, by omega, by omega⟩) hjl O10.out T10.out)
          have HD11 := Lib.hid (HD10.out.keep T10.out (fun b hb _ e => by have := (HI10.out.own.lt go (by rw [own_block]; rfl)).1; omega))
          have T11 := Lib.hid ((T9.out.trans T9'.out).and T10.out (fun b hb e => by have := (HI10.out.own.lt go (by rw [own_block]; rfl)).1; have := HW0.out; omega))
          obtain ⟨j1, hj1⟩ : ∃ j1, j + 1 = j1 := ⟨_, rfl⟩
          have HJ1 := Lib.hid hj1
          clear hd0 hd1
          go_wp2_with fail
          go_roundw
          case rel => exact ⟨j + 1, R'.set j r', by omega, by go_num, HI11, HD11, T11⟩
          case measure => simp [intOf]; omega
        · obtain rfl : j = ol := by omega
          have HP_0 : Hid (Pcs S0 wr x y1 0) := Lib.hid ⟨by rw [HY1.out], by rw [HY1.out]; exact HI.out.all HMO.out, fun e => by omega, fun e => by omega, fun e => by omega, fun e => by omega⟩
          have HRND_0 := Lib.hid HI.out.rnd
          have HSC_0 := Lib.hid HI.out.rnd.box.lt
          have HDC_0 := HD
          have TC_0 := HT7
          have HYI_0 := HYI
          clear HI HD HT7 HY1 HYI
          generalize y1 = y_0 at HRND_0 HP_0 HYI_0
          generalize wr = w_0 at HRND_0 HP_0 HSC_0 HDC_0 TC_0 ⊢
          go_upto_region 11 with fail
          have F0 := blk_f HRND_0.out.box
          go_wp2_with fail
          refine (cpint_any w_0 (L := x.g.order) HRX.out.order.ok.len.symm (by rw [HRX.out.order.ok.len]; exact (HT.out x HXM.out).order) HRX.out.order.ok.nil (HRX.out.order.has.turn TC_0.out (fun _ _ => id))).mono ?_
          rintro e wd_1 ⟨⟨pa_1, pl_1, pc_1⟩, rfl, hpl, od, td⟩
          have hpl' : pl_1 = x.sr.len := hpl
          subst hpl'
          have OD := Lib.hid od
          have TD := Lib.hid td
          clear hpl od td F0
          dsimp only
          have HRD := Lib.hid (HRND_0.out.new TD.out)
          obtain ⟨d0, d1⟩ := own_at gv_ok HRD.out.own HYI_0.out (i := 20) (u := y_0.sr.val) rfl
          have F0 := blk_f HRD.out.box
          go_upto_region 12 with fail
          have HPN := Lib.hid ((HP_0.out.keep TD.out (fun _ e => e.elim)).s1 (ri_own (own_less OD.out (Nat.le_of_lt (HSC_0.out))) rfl HRX.out.order.ok.len.symm))
          have HRND_1 := Lib.hid (HRD.out.put HYI_0.out (k := 20) (by decide) (u := .slice pa_1 x.sr.len pc_1) (y' := { y_0 with sr := ⟨pa_1, x.sr.len, pc_1⟩ }) rfl)
          rw [List.set_set] at HRND_1
          have TN := Lib.hid (set_turn wd_1 g2 (i * 25 + 20) (.slice pa_1 x.sr.len pc_1))
          have HP_1 := Lib.hid (HPN.out.keep TN.out (fun b e => by have := HG2.out; omega))
          have HDC_1 := Lib.hid ((HDC_0.out.keep TD.out (fun _ _ _ => id)).keep TN.out (fun b _ hb e => hb e))
          have TC_1 := Lib.hid ((TC_0.out.trans TD.out).and TN.out (fun b hb e => by have := HC2.out; omega))
          have HYI_1 : Hid ((Y.set i { y_0 with sr := ⟨pa_1, x.sr.len, pc_1⟩ })[i]? = some { y_0 with sr := ⟨pa_1, x.sr.len, pc_1⟩ }) := Lib.hid (by simp [HYL.out, hlt])
          have HSC_1 := Lib.hid (Nat.lt_of_lt_of_le HSC_0.out (Nat.le_trans TD.out.size TN.out.size))
          clear d0 d1 F0 HRND_0 HRD HP_0 HPN OD TD TN HDC_0 TC_0 HYI_0 HSC_0
          generalize wd_1.setCell ⟨g2, i * 25 + 20, none⟩ (.slice pa_1 x.sr.len pc_1) = w_1 at HRND_1 HP_1 HDC_1 TC_1 HSC_1 ⊢
          generalize ({ y_0 with sr := ⟨pa_1, x.sr.len, pc_1⟩ } : GV) = y_1 at HRND_1 HP_1 HYI_1
          have F0 := blk_f HRND_1.out.box
          go_wp2_with fail
          refine (cpint_any w_1 (L := x.g.locks) HRX.out.locks.ok.len.symm (by rw [HRX.out.locks.ok.len]; exact (HT.out x HXM.out).locks) HRX.out.locks.ok.nil (HRX.out.locks.has.turn TC_1.out (fun _ _ => id))).mono ?_
          rintro e wd_2 ⟨⟨pa_2, pl_2, pc_2⟩, rfl, hpl, od, td⟩
          have hpl' : pl_2 = x.sl.len := hpl
          subst hpl'
          have OD := Lib.hid od
          have TD := Lib.hid td
          clear hpl od td F0
          dsimp only
          have HRD := Lib.hid (HRND_1.out.new TD.out)
          obtain ⟨d0, d1⟩ := own_at gv_ok HRD.out.own HYI_1.out (i := 21) (u := y_1.sl.val) rfl
          have F0 := blk_f HRD.out.box
          go_upto_region 13 with fail
          have HPN := Lib.hid ((HP_1.out.keep TD.out (fun _ e => e.elim)).s2 (ri_own (own_less OD.out (Nat.le_of_lt (HSC_1.out))) rfl HRX.out.locks.ok.len.symm))
          have HRND_2 := Lib.hid (HRD.out.put HYI_1.out (k := 21) (by decide) (u := .slice pa_2 x.sl.len pc_2) (y' := { y_1 with sl := ⟨pa_2, x.sl.len, pc_2⟩ }) rfl)
          rw [List.set_set] at HRND_2
          have TN := Lib.hid (set_turn wd_2 g2 (i * 25 + 21) (.slice pa_2 x.sl.len pc_2))
          have HP_2 := Lib.hid (HPN.out.keep TN.out (fun b e => by have := HG2.out; omega))
          have HDC_2 := Lib.hid ((HDC_1.out.keep TD.out (fun _ _ _ => id)).keep TN.out (fun b _ hb e => hb e))
          have TC_2 := Lib.hid ((TC_1.out.trans TD.out).and TN.out (fun b hb e => by have := HC2.out; omega))
          have HYI_2 : Hid ((Y.set i { y_1 with sl := ⟨pa_2, x.sl.len, pc_2⟩ })[i]? = some { y_1 with sl := ⟨pa_2, x.sl.len, pc_2⟩ }) := Lib.hid (by simp [HYL.out, hlt])
          have HSC_2 := Lib.hid (Nat.lt_of_lt_of_le HSC_1.out (Nat.le_trans TD.out.size TN.out.size))
          clear d0 d1 F0 HRND_1 HRD HP_1 HPN OD TD TN HDC_1 TC_1 HYI_1 HSC_1
          generalize wd_2.setCell ⟨g2, i * 25 + 21, none⟩ (.slice pa_2 x.sl.len pc_2) = w_2 at HRND_2 HP_2 HDC_2 TC_2 HSC_2 ⊢
          generalize ({ y_1 with sl := ⟨pa_2, x.sl.len, pc_2⟩ } : GV) = y_2 at HRND_2 HP_2 HYI_2
          have F0 := blk_f HRND_2.out.box
          go_wp2_with fail
          refine (cpint_any w_2 (L := x.g.sgs) HRX.out.sgs.ok.len.symm (by rw [HRX.out.sgs.ok.len]; exact (HT.out x HXM.out).sgs) HRX.out.sgs.ok.nil (HRX.out.sgs.has.turn TC_2.out (fun _ _ => id))).mono ?_
          rintro e wd_3 ⟨⟨pa_3, pl_3, pc_3⟩, rfl, hpl, od, td⟩
          have hpl' : pl_3 = x.ss.len := hpl
          subst hpl'
          have OD := Lib.hid od
          have TD := Lib.hid td
          clear hpl od td F0
          dsimp only
          have HRD := Lib.hid (HRND_2.out.new TD.out)
          obtain ⟨d0, d1⟩ := own_at gv_ok HRD.out.own HYI_2.out (i := 22) (u := y_2.ss.val) rfl
          have F0 := blk_f HRD.out.box
          go_upto_region 14 with fail
          have HPN := Lib.hid ((HP_2.out.keep TD.out (fun _ e => e.elim)).s3 (ri_own (own_less OD.out (Nat.le_of_lt (HSC_2.out))) rfl HRX.out.sgs.ok.len.symm))
          have HRND_3 := Lib.hid (HRD.out.put HYI_2.out (k := 22) (by decide) (u := .slice pa_3 x.ss.len pc_3) (y' := { y_2 with ss := ⟨pa_3, x.ss.len, pc_3⟩ }) rfl)
          rw [List.set_set] at HRND_3
          have TN := Lib.hid (set_turn wd_3 g2 (i * 25 + 22) (.slice pa_3 x.ss.len pc_3))
          have HP_3 := Lib.hid (HPN.out.keep TN.out (fun b e => by have := HG2.out; omega))
          have HDC_3 := Lib.hid ((HDC_2.out.keep TD.out (fun _ _ _ => id)).keep TN.out (fun b _ hb e => hb e))
          have TC_3 := Lib.hid ((TC_2.out.trans TD.out).and TN.out (fun b hb e => by have := HC2.out; omega))
          have HYI_3 : Hid ((Y.set i { y_2 with ss := ⟨pa_3, x.ss.len, pc_3⟩ })[i]? = some { y_2 with ss := ⟨pa_3, x.ss.len, pc_3⟩ }) := Lib.hid (by simp [HYL.out, hlt])
          have HSC_3 := Lib.hid (Nat.lt_of_lt_of_le HSC_2.out (Nat.le_trans TD.out.size TN.out.size))
          clear d0 d1 F0 HRND_2 HRD HP_2 HPN OD TD TN HDC_2 TC_2 HYI_2 HSC_2
          generalize wd_3.setCell ⟨g2, i * 25 + 22, none⟩ (.slice pa_3 x.ss.len pc_3) = w_3 at HRND_3 HP_3 HDC_3 TC_3 HSC_3 ⊢
          generalize ({ y_2 with ss := ⟨pa_3, x.ss.len, pc_3⟩ } : GV) = y_3 at HRND_3 HP_3 HYI_3
          have F0 := blk_f HRND_3.out.box
          go_wp2_with fail
          refine (cpint_any w_3 (L := x.g.wakes) HRX.out.wakes.ok.len.symm (by rw [HRX.out.wakes.ok.len]; exact (HT.out x HXM.out).wakes) HRX.out.wakes.ok.nil (HRX.out.wakes.has.turn TC_3.out (fun _ _ => id))).mono ?_
          rintro e wd_4 ⟨⟨pa_4, pl_4, pc_4⟩, rfl, hpl, od, td⟩
          have hpl' : pl_4 = x.sw.len := hpl
          subst hpl'
          have OD := Lib.hid od
          have TD := Lib.hid td
          clear hpl od td F0
          dsimp only
          have HRD := Lib.hid (HRND_3.out.new TD.out)
          obtain ⟨d0, d1⟩ := own_at gv_ok HRD.out.own HYI_3.out (i := 23) (u := y_3.sw.val) rfl
          have F0 := blk_f HRD.out.box
          go_upto_region 15 with fail
          have HPN := Lib.hid ((HP_3.out.keep TD.out (fun _ e => e.elim)).s4 (ri_own (own_less OD.out (Nat.le_of_lt (HSC_3.out))) rfl HRX.out.wakes.ok.len.symm))
          have HRND_4 := Lib.hid (HRD.out.put HYI_3.out (k := 23) (by decide) (u := .slice pa_4 x.sw.len pc_4) (y' := { y_3 with sw := ⟨pa_4, x.sw.len, pc_4⟩ }) rfl)
          rw [List.set_set] at HRND_4
          have TN := Lib.hid (set_turn wd_4 g2 (i * 25 + 23) (.slice pa_4 x.sw.len pc_4))
          have HP_4 := Lib.hid (HPN.out.keep TN.out (fun b e => by have := HG2.out; omega))
          have HDC_4 := Lib.hid ((HDC_3.out.keep TD.out (fun _ _ _ => id)).keep TN.out (fun b _ hb e => hb e))
          have TC_4 := Lib.hid ((TC_3.out.trans TD.out).and TN.out (fun b hb e => by have := HC2.out; omega))
          have HYI_4 : Hid ((Y.set i { y_3 with sw := ⟨pa_4, x.sw.len, pc_4⟩ })[i]? = some { y_3 with sw := ⟨pa_4, x.sw.len, pc_4⟩ }) := Lib.hid (by simp [HYL.out, hlt])
          have HSC_4 := Lib.hid (Nat.lt_of_lt_of_le HSC_3.out (Nat.le_trans TD.out.size TN.out.size))
          clear d0 d1 F0 HRND_3 HRD HP_3 HPN OD TD TN HDC_3 TC_3 HYI_3 HSC_3
          generalize wd_4.setCell ⟨g2, i * 25 + 23, none⟩ (.slice pa_4 x.sw.len pc_4) = w_4 at HRND_4 HP_4 HDC_4 TC_4 HSC_4 ⊢
          generalize ({ y_3 with sw := ⟨pa_4, x.sw.len, pc_4⟩ } : GV) = y_4 at HRND_4 HP_4 HYI_4
          obtain ⟨i1, hi1⟩ : ∃ i1, i + 1 = i1 := ⟨_, rfl⟩
          have HI1 := Lib.hid hi1
          have HCN : Hid (Cps w g2 c2 l2 (i + 1) X (Y.set i y_4) w_4) := Lib.hid ⟨HRND_4.out.own, by rw [List.length_set]; exact HYL.out, fun k hk => by
              rw [List.getElem?_set_ne (by omega)]
              exact HRST.out k (by omega), fun k z hk hz => by
              by_cases hki : k = i
              · subst hki
                obtain rfl : x = z := Option.some.inj (HXI.out.symm.trans hz)
                exact ⟨y_4, HYI_4.out, HP_4.out.g, HP_4.out.cg.mono (fun b hb => ⟨by have := hb.1; have := HW0.out; omega, hb.2, by have := hb.1; have := HG2.out; omega⟩)⟩
              · obtain ⟨y, h1, h2, h3⟩ := HDC_4.out k z (by omega) hz
                exact ⟨y, by rw [List.getElem?_set_ne (fun e => hki e.symm)]; exact h1, h2, h3.mono (fun b hb => ⟨hb.1, by have := HSC_4.out; omega, hb.2.2⟩)⟩, TC_4.out⟩
          clear hi1
          go_wp2_with fail
          go_roundw
          case rel => exact ⟨i + 1, Y.set i y_4, by omega, by go_num, HCN⟩
          case measure => simp [intOf]; omega
    · obtain rfl : i = l2 := by omega
      go_wp2_with fail
      go_ret
      refine ⟨⟨some ⟨g2, 0, none⟩, i, c2⟩, Y, rfl, rfl, HC.out.own, ?_, ?_, HC.out.t⟩
      · apply List.ext_getElem?
        intro k
        rw [List.getElem?_map, List.getElem?_map]
        by_cases hk : k < i
        · obtain ⟨z, hz⟩ : ∃ z, X[k]? = some z := ⟨_, List.getElem?_eq_getElem (by rw [HN.out]; exact hk)⟩
          obtain ⟨y, h1, h2, _⟩ := HC.out.done k z hk hz
          rw [h1, hz]
          simp [h2]
        · rw [HC.out.rest k (by omega)]
      · intro y hy
        obtain ⟨k, hk⟩ := List.getElem?_of_mem hy
        have hki : k < i := by have := (List.getElem?_eq_some_iff.1 hk).1; have := HC.out.len; omega
        obtain ⟨z, hz⟩ : ∃ z, X[k]? = some z := ⟨_, List.getElem?_eq_getElem (by rw [HN.out]; exact hki)⟩
        obtain ⟨y', h1, h2, h3⟩ := HC.out.done k z hki hz
        obtain rfl : y' = y := Option.some.inj (h1.symm.trans hk)
        refine h3.mono (fun b hb => ⟨hb.1, hb.2.1, fun e => hb.2.2 ?_⟩)
        have e : g2 = b := by simpa [Sl.val, Value.ownBlock] using e
        exact e.symm

end Go.Proofs.Ytenbafkgfdlfpaa
