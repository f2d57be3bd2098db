/- The walk of QueueRuns. -/
import Derived.Test.YtgkkmbkialcfiaaRefC
namespace Go.Proofs.Ytgkkmbkialcfiaa
open Go.RowKit
set_option linter.unusedVariables false

/-- What is done, as a slice of structs of three integers. -/
def Acts (w : World) (ao : Option Addr) (A : List (Int × Int × Int)) : Prop :=
  ∀ j, j < A.length → ∃ a, ao = some a ∧ w.cell? (a.add (j * 3)) = some (.int .i64 (A.getD j (0, 0, 0)).1) ∧ w.cell? ((a.add (j * 3)).add 1) = some (.int .i64 (A.getD j (0, 0, 0)).2.1) ∧ w.cell? ((a.add (j * 3)).add 2) = some (.int .i64 (A.getD j (0, 0, 0)).2.2)
theorem Acts.turn {w w' : World} {S : Nat → Prop} {ao : Option Addr} {A : List (Int × Int × Int)} (h : Acts w ao A) (t : Turn S w w') (hs : ∀ ad, ao = some ad → ¬ S ad.block) : Acts w' ao A := by
  intro j hj
  obtain ⟨ad, e, h1, h2, h3⟩ := h j hj
  refine ⟨ad, e, t.cell ?_ h1, t.cell ?_ h2, t.cell ?_ h3⟩
  · rw [block_add]; exact hs ad e
  · rw [block_add, block_add]; exact hs ad e
  · rw [block_add, block_add]; exact hs ad e
theorem Here.back {w w1 wx : World} {p tb eb : Nat} {s : St} (h : Here w1 wx p tb eb s) (t : Turn (fun _ => False) w w1) : Here w wx p tb eb s := ⟨h.q.less t.size, t.trans h.t⟩
theorem cells_nil : (Value.slice none 0 0).cells = #[.slice none 0 0] := rfl
theorem ints_nil (w : World) (a : Option Addr) : Ints .i64 w a [] := by
  intro j hj
  cases hj
theorem rs_new {w : World} {cq n m : Nat} (z : Zeros w cq m (.slice none 0 0) 29) : RS w (newS n m) (some ⟨cq, 0, none⟩) m (fun i => i = cq) := by
  refine ⟨fun j hj => ?_, ?_, ?_⟩
  · have hj' : j < m := hj
    refine ⟨_, none, 0, rfl, ?_, ints_nil _ _, ?_, fun _ => rfl, Nat.le_refl _⟩
    · rw [Addr.add_lit, Nat.zero_add]
      unfold Zeros at z
      simp [World.cell?, z, hj']
      rfl
    · intro x e
      cases e
  · intro x e
    cases e
    rfl
  · intro e
    cases e

/-- Where the document's rows may lie: beside the queues' blocks, and beside b6. -/
def Dl (wx : World) (p tb eb b6 : Nat) (i : Nat) : Prop := i < wx.heap.size ∧ ¬ QB p tb eb i ∧ i ≠ b6
structure Ru (w0 wx : World) (p tb eb : Nat) (sp : St) (b6 : Nat) (sr : St) (ca : Option Addr) (cc n m : Nat) : Prop where
  here : Here w0 wx p tb eb sp
  rs : RS wx sr ca cc (Dl wx p tb eb b6)
  fine : Fine sr
  box : RBox wx b6 n ca m cc
  fb : ¬ QB p tb eb b6
  lo : w0.heap.size ≤ b6
  eqs : sr.n = n ∧ sr.m = m ∧ sp.m = m
section
variable {w0 wx w' : World} {p tb eb b6 n m cc cc' : Nat} {sp sp' sr sr' : St} {ca ca' : Option Addr}
theorem Ru.new (h : Ru w0 wx p tb eb sp b6 sr ca cc n m) (t : Turn (fun _ => False) wx w') : Ru w0 w' p tb eb sp b6 sr ca cc n m :=
  ⟨h.here.new t, (h.rs.new t).mono (fun i hi => ⟨Nat.lt_of_lt_of_le hi.1 t.size, hi.2⟩), h.fine, h.box.turn t id, h.fb, h.lo, h.eqs⟩
theorem Ru.kept (h : Ru w0 wx p tb eb sp b6 sr ca cc n m) (k : Kept w0.heap.size p tb eb sp' wx w') (hm : sp'.m = sp.m) : Ru w0 w' p tb eb sp' b6 sr ca cc n m :=
  ⟨h.here.kept k, (h.rs.turn k.2 (fun i hi => hi.2.1)).mono (fun i hi => ⟨Nat.lt_of_lt_of_le hi.1 k.2.size, hi.2⟩), h.fine, h.box.turn k.2 h.fb, h.fb, h.lo, h.eqs.1, h.eqs.2.1, hm.trans h.eqs.2.2⟩
theorem Ru.stored (h : Ru w0 wx p tb eb sp b6 sr ca cc n m) (hF : Fine sr') (hn : sr'.n = sr.n ∧ sr'.m = sr.m) (hr : RS w' sr' ca' cc' (Dn (Dl wx p tb eb b6) wx w')) (t : Turn (fun _ => False) wx w') :
    Ru w0 ((w'.setCell ⟨b6, 0, none⟩ (.int .i64 n)).setCell ⟨b6, 1, none⟩ (.slice ca' m cc')) p tb eb sp b6 sr' ca' cc' n m := by
  have tb' := store2_turn w' b6 (.int .i64 n) (.slice ca' m cc')
  have hbox := (h.box.turn t id).store (n' := n) (ca' := ca') (m' := m) (cc' := cc')
  have hlt := h.box.lt
  have hh := h.here.new t
  refine ⟨⟨hh.q.turn tb' (fun i hi e => h.fb (by have e' : i = b6 := e; exact e' ▸ hi)), hh.t.and tb' (fun i hi e => by have e' : i = b6 := e; have := h.lo; omega)⟩, (hr.turn tb' (fun i hi e => ?_)).mono (fun i hi => ?_), hF, hbox, h.fb, h.lo, hn.1.trans h.eqs.1, hn.2.trans h.eqs.2.1, h.eqs.2.2⟩
  · have e' : i = b6 := e
    rcases hi with h1 | h1
    · exact h1.2.2 e'
    · omega
  · have hs1 := t.size
    have hs2 := tb'.size
    rcases hi with h1 | h1
    · exact ⟨by have := h1.1; omega, h1.2⟩
    · refine ⟨by omega, fun e => ?_, by omega⟩
      have := (h.here.q.blocks e).2
      omega
theorem Ru.agg {V : Value} (h : Ru w0 wx p tb eb sp b6 sr ca cc n m) (hV : V = .agg #[.int .i64 sr.n, .slice ca sr.m cc]) : V = .agg #[.int .i64 n, .slice ca m cc] := by rw [hV, h.eqs.1, h.eqs.2.1]
end

theorem rpush_at {s s' : St} {ca : Option Addr} {cc n m : Nat} {D : Nat → Prop} {k x : Int} {b : Bool} (w : World) (h : RS w s ca cc D) (hF : Fine s) (hDb : ∀ i, D i → i < w.heap.size) (hb : pushB s k x = b) (hs : pushS s k x = s') (hn : s.n = n ∧ s.m = m) :
    Calls Try.prog 11 #[.agg #[.int .i64 n, .slice ca m cc], .int .i64 k, .int .i64 x] w fun e w' => ∃ ca' cc', e = .returned (.tuple #[.agg #[.int .i64 n, .slice ca' m cc'], .bool b]) ∧ RS w' s' ca' cc' (Dn D w w') ∧ Turn (fun _ => False) w w' := by
  obtain ⟨rfl, rfl⟩ := hn
  subst hs
  have e := push_same s k x
  refine (rpush_any w h hF hDb hb).mono ?_
  rintro e' w' ⟨ca', cc', rfl, h1, h2⟩
  exact ⟨ca', cc', by rw [e.1, e.2], h1, h2⟩
theorem rdrop_at {s s' : St} {ca : Option Addr} {cc n m : Nat} {D : Nat → Prop} {x : Int} {b : Bool} (w : World) (h : RS w s ca cc D) (hF : Fine s) (hDb : ∀ i, D i → i < w.heap.size) (hb : inB s x = b) (hs : dropS s x = s') (hn : s.n = n ∧ s.m = m) :
    Calls Try.prog 15 #[.agg #[.int .i64 n, .slice ca m cc], .int .i64 x] w fun e w' => ∃ ca' cc', e = .returned (.tuple #[.agg #[.int .i64 n, .slice ca' m cc'], .bool b]) ∧ RS w' s' ca' cc' (Dn D w w') ∧ Turn (fun _ => False) w w' := by
  obtain ⟨rfl, rfl⟩ := hn
  subst hs
  have e := drop_same s x
  refine (rdrop_any w h hF hDb hb).mono ?_
  rintro e' w' ⟨ca', cc', rfl, h1, h2⟩
  exact ⟨ca', cc', by rw [e.1, e.2], h1, h2⟩
theorem rpop_at {s s' : St} {ca : Option Addr} {cc n m : Nat} {D : Nat → Prop} {k v : Int} {b : Bool} (w : World) (h : RS w s ca cc D) (hF : Fine s) (hDb : ∀ i, D i → i < w.heap.size) (hv : firstV s k = v) (hb : firstB s k = b) (hs : popS s k = s') (hn : s.n = n ∧ s.m = m) :
    Calls Try.prog 13 #[.agg #[.int .i64 n, .slice ca m cc], .int .i64 k] w fun e w' => ∃ ca' cc', e = .returned (.tuple #[.agg #[.int .i64 n, .slice ca' m cc'], .int .i64 v, .bool b]) ∧ RS w' s' ca' cc' (Dn D w w') ∧ Turn (fun _ => False) w w' := by
  obtain ⟨rfl, rfl⟩ := hn
  subst hs
  have e := pop_same s k
  refine (rpop_any w h hF hDb hv hb).mono ?_
  rintro e' w' ⟨ca', cc', rfl, h1, h2⟩
  exact ⟨ca', cc', by rw [e.1, e.2], h1, h2⟩
theorem rin_at {s : St} {ca : Option Addr} {cc n m : Nat} {D : Nat → Prop} {x v : Int} {b : Bool} (w : World) (h : RS w s ca cc D) (hF : Fine s) (hv : inV s x = v) (hb : inB s x = b) (hn : s.n = n ∧ s.m = m) :
    Calls Try.prog 20 #[.agg #[.int .i64 n, .slice ca m cc], .int .i64 x] w fun e w' => e = .returned (.tuple #[.int .i64 v, .bool b]) ∧ Turn (fun _ => False) w w' := by
  obtain ⟨rfl, rfl⟩ := hn
  exact rin_any w h hF hv hb
theorem rfirst_at {s : St} {ca : Option Addr} {cc n m : Nat} {D : Nat → Prop} {k v : Int} {b : Bool} (w : World) (h : RS w s ca cc D) (hF : Fine s) (hv : firstV s k = v) (hb : firstB s k = b) (hn : s.n = n ∧ s.m = m) :
    Calls Try.prog 18 #[.agg #[.int .i64 n, .slice ca m cc], .int .i64 k] w fun e w' => e = .returned (.tuple #[.int .i64 v, .bool b]) ∧ Turn (fun _ => False) w w' := by
  obtain ⟨rfl, rfl⟩ := hn
  exact rfirst_any w h hF hv hb
theorem push_at {base p tb eb : Nat} {s s' : St} {k x : Int} {b : Bool} (w : World) (h : IsQ w base p tb eb s) (hb : pushB s k x = b) (hs : pushS s k x = s') :
    Calls Try.prog 12 #[.pointer (some ⟨p, 0, none⟩), .int .i64 k, .int .i64 x] w fun e w' => e = .returned (.bool b) ∧ Kept base p tb eb s' w w' := by
  subst hs
  exact push_any w h hb
theorem drop_at {base p tb eb : Nat} {s s' : St} {x : Int} {b : Bool} (w : World) (h : IsQ w base p tb eb s) (hb : inB s x = b) (hs : dropS s x = s') :
    Calls Try.prog 16 #[.pointer (some ⟨p, 0, none⟩), .int .i64 x] w fun e w' => e = .returned (.bool b) ∧ Kept base p tb eb s' w w' := by
  subst hs
  exact drop_any w h hb
theorem pop_at {base p tb eb : Nat} {s s' : St} {k v : Int} {b : Bool} (w : World) (h : IsQ w base p tb eb s) (hv : firstV s k = v) (hb : firstB s k = b) (hs : popS s k = s') :
    Calls Try.prog 14 #[.pointer (some ⟨p, 0, none⟩), .int .i64 k] w fun e w' => e = .returned (.tuple #[.int .i64 v, .bool b]) ∧ Kept base p tb eb s' w w' := by
  subst hs
  exact pop_any w h hv hb

set_option maxRecDepth 100000 in
theorem lruns_long {a b : Int} {ao : Option Addr} {al ac : Nat} (w : World) (ha : 0 ≤ a ∧ a ≤ 255) (hb : 0 ≤ b ∧ b ≤ 255) (h : 200 < al) (hL : al ≤ maxLen) :
    Calls Try.prog 4 #[.int .u8 a, .int .u8 b, .slice ao al ac] w fun e w' => e = .returned (.bool true) ∧ Turn (fun _ => False) w w' := by
  unfold maxLen at hL
  obtain ⟨n, hn⟩ : ∃ n : Nat, a % 65 = (n : Int) := ⟨(a % 65).toNat, by omega⟩
  obtain ⟨m, hm⟩ : ∃ n : Nat, b % 20 = (n : Int) := ⟨(b % 20).toNat, by omega⟩
  have hn64 : n ≤ 64 := by omega
  have hm19 : m ≤ 64 := by omega
  go_enter Try.func4, Try.ntmps4
  go_wp2_with fail
  refine (alive_any w).mono ?_
  rintro e w1 ⟨rfl, t1⟩
  have T1 := Lib.hid t1
  clear t1
  go_wp2_with fail
  refine (new_good w1 hn64 hm19).mono ?_
  rintro e w2 ⟨p, tb, eb, rfl, h2⟩
  have T2 := Lib.hid (T1.out.trans h2.t)
  clear h2 hn hm
  go_wp2_with fail
  go_ret
  exact ⟨rfl, T2.out⟩

set_option maxRecDepth 100000 in
set_option maxHeartbeats 4000000 in
theorem lruns_any {a b : Int} {ao : Option Addr} {al ac : Nat} {A : List (Int × Int × Int)} (w : World) (ha : 0 ≤ a ∧ a ≤ 255) (hb : 0 ≤ b ∧ b ≤ 255) (hA : Acts w ao A) (hAl : A.length = al) (hL : al ≤ 200) :
    Calls Try.prog 4 #[.int .u8 a, .int .u8 b, .slice ao al ac] w fun e w' => e = .returned (.bool true) ∧ Turn (fun _ => False) w w' := by
  obtain ⟨n, hn⟩ : ∃ n : Nat, a % 65 = (n : Int) := ⟨(a % 65).toNat, by omega⟩
  obtain ⟨m, hm⟩ : ∃ n : Nat, b % 20 = (n : Int) := ⟨(b % 20).toNat, by omega⟩
  have hn64 : n ≤ 64 := by omega
  have hm19 : m ≤ 64 := by omega
  have HA := Lib.hid hA
  have HAL := Lib.hid hAl
  clear hA hAl
  go_enter Try.func4, Try.ntmps4
  go_wp2_with fail
  refine (alive_any w).mono ?_
  rintro e w1 ⟨rfl, t1⟩
  have T1 := Lib.hid t1
  clear t1
  go_wp2_with fail
  refine (new_good w1 hn64 hm19).mono ?_
  rintro e w2 ⟨p, tb, eb, rfl, h2⟩
  have H2 := Lib.hid (h2.back T1.out)
  clear h2
  go_upto_region 8 with (with_reducible refine wpList_make_zeros cells_nil Try.underlying32 info_ints (by decide) rfl (.tmp 57) (.tmp 57) rfl m rfl rfl (by omega) ?_; intro w3 Z3 T3)
  have HU : Hid (Ru w (w3.alloc (.cells #[.int .i64 n, .slice (some ⟨w2.heap.size, 0, none⟩) m m] 34)) p tb eb (newS n m) w3.heap.size (newS n m) (some ⟨w2.heap.size, 0, none⟩) m n m) := Lib.hid
    ⟨(H2.out.new T3.out).new ((Turn.refl (fun _ => False) w3).alloc _), ((rs_new Z3.out).new ((Turn.refl (fun _ => False) w3).alloc _)).mono (fun i e => by
      subst e
      have hz := Z3.out.lt
      refine ⟨by simp; omega, fun e => ?_, by omega⟩
      have := (H2.out.q.blocks e).2
      omega), H2.out.q.fine, heap_alloc_new w3 _, fun e => (by have := ((H2.out.new T3.out).q.blocks e).2; omega), (H2.out.new T3.out).t.size, rfl, rfl, rfl⟩
  clear H2 Z3 T3 T1
  generalize w3.alloc (.cells #[.int .i64 n, .slice (some ⟨w2.heap.size, 0, none⟩) m m] 34) = w6 at HU ⊢
  generalize w3.heap.size = b6 at HU ⊢
  go_wp2_with fail
  go_loopw [62] (fun s62 wr => ∃ (k : Nat) (s : St) (ca : Option Addr) (cc : Nat), k ≤ al ∧ s62 = .int .i64 k ∧ Hid (Ru w wr p tb eb s b6 s ca cc n m)) (fun s62 _ => al - (intOf s62).toNat)
  case atStart => exact ⟨0, _, _, _, Nat.zero_le _, rfl, HU⟩
  case round =>
    clear HU
    obtain ⟨k, s, ca, cc, hk, rfl, HU⟩ := hrel
    by_cases hlt : k < al
    · obtain ⟨ad, hao, c0, c1, c2⟩ := (HA.out.turn HU.out.here.t (fun _ _ => id)) k (by rw [HAL.out]; exact hlt)
      subst hao
      have d1 : wr.cell? ⟨(ad.add (k * 3)).block, (ad.add (k * 3)).off + 1, none⟩ = some (.int .i64 (A.getD k (0, 0, 0)).2.1) := c1
      have d2 : wr.cell? ⟨(ad.add (k * 3)).block, (ad.add (k * 3)).off + 2, none⟩ = some (.int .i64 (A.getD k (0, 0, 0)).2.2) := c2
      clear c1 c2
      generalize (A.getD k (0, 0, 0)).1 = kd at c0
      generalize (A.getD k (0, 0, 0)).2.1 = gg at d1
      generalize (A.getD k (0, 0, 0)).2.2 = xx at d2
      go_upto_region 11 with fail
      have U1 := Lib.hid (HU.out.new ((Turn.refl (fun _ => False) wr).alloc (.cells #[.int .i64 kd, .int .i64 gg, .int .i64 xx] 36)))
      have HBB := Lib.hid (show ¬ QB p tb eb wr.heap.size from fun e => by have := (HU.out.here.q.blocks e).2; omega)
      have HNE := Lib.hid (show wr.heap.size ≠ b6 from fun e => by have := HU.out.box.lt; omega)
      have V0 : (wr.alloc (.cells #[.int .i64 kd, .int .i64 gg, .int .i64 xx] 36)).cell? ⟨wr.heap.size, 0, none⟩ = some (.int .i64 kd) := by simp [go_sem]
      have V1 : (wr.alloc (.cells #[.int .i64 kd, .int .i64 gg, .int .i64 xx] 36)).cell? ⟨wr.heap.size, 1, none⟩ = some (.int .i64 gg) := by simp [go_sem]
      have V2 : (wr.alloc (.cells #[.int .i64 kd, .int .i64 gg, .int .i64 xx] 36)).cell? ⟨wr.heap.size, 2, none⟩ = some (.int .i64 xx) := by simp [go_sem]
      generalize wr.alloc (.cells #[.int .i64 kd, .int .i64 gg, .int .i64 xx] 36) = wv at U1 V0 V1 V2 ⊢
      generalize wr.heap.size = BB at HBB HNE V0 V1 V2 ⊢
      clear c0 d1 d2 HU
      go_upto_block 2 with fail
      go_cut [14, 15, 16, 17] (fun s14 s15 s16 s17 wx => ∃ (v : Int) (b : Bool) (s : St) (ca : Option Addr) (cc : Nat), s14 = .int .i64 v ∧ s15 = .bool b ∧ s16 = .int .i64 v ∧ s17 = .bool b ∧ Hid (Ru w wx p tb eb s b6 s ca cc n m) ∧ Hid (wx.cell? ⟨BB, 1, none⟩ = some (.int .i64 gg)) ∧ Hid (wx.cell? ⟨BB, 2, none⟩ = some (.int .i64 xx)))
      case first =>
        by_cases k0 : kd = 0
        · have e0 : (kd == 0) = true := by simpa using k0
          have b0 := U1.out.box.d0
          have b1 := U1.out.box.d1
          clear k0
          obtain ⟨s', hs'⟩ : ∃ s', pushS s gg xx = s' := ⟨_, rfl⟩
          obtain ⟨v', hv'⟩ : ∃ v', pushB s gg xx = v' := ⟨_, rfl⟩
          have hsame := push_same s gg xx
          have hfine := push_fine U1.out.fine gg xx
          rw [hs'] at hsame hfine
          have HC := Lib.hid (rpush_at (n := n) (m := m) wv U1.out.rs U1.out.fine (fun i hi => hi.1) hv' hs' ⟨U1.out.eqs.1, U1.out.eqs.2.1⟩)
          have HS' := Lib.hid hs'
          have HSame := Lib.hid hsame
          have HFine := Lib.hid hfine
          have HV' := Lib.hid hv'
          clear hs' hv' hsame hfine
          go_wp2_with fail
          refine HC.out.mono ?_
          rintro e w8 ⟨ca', cc', rfl, hr', t'⟩
          have HR' := Lib.hid hr'
          have T' := Lib.hid t'
          have B8 := Lib.hid (U1.out.box.turn t' id)
          have VB1 := t'.cell (p := ⟨BB, 1, none⟩) id V1
          have VB2 := t'.cell (p := ⟨BB, 2, none⟩) id V2
          have z0 := B8.out.d0
          have z1 := B8.out.d1
          have f0 := B8.out.fr 0
          have f1 := B8.out.fr 1
          clear hr' t' V0 V1 V2 b0 b1 HC
          go_upto_region 15 with fail
          clear z0 z1 f0 f1 B8
          have UA := Lib.hid (U1.out.stored HFine.out HSame.out HR'.out T'.out)
          have TS := Lib.hid (store2_turn w8 b6 (.int .i64 n) (.slice ca' m cc'))
          have VD1 := TS.out.cell (p := ⟨BB, 1, none⟩) HNE.out VB1
          have VD2 := TS.out.cell (p := ⟨BB, 2, none⟩) HNE.out VB2
          generalize (w8.setCell ⟨b6, 0, none⟩ (.int .i64 n)).setCell ⟨b6, 1, none⟩ (.slice ca' m cc') = wa at UA TS VD1 VD2 ⊢
          clear VB1 VB2 U1
          go_wp2_with fail
          refine (push_at _ UA.out.here.q HV'.out HS'.out).mono ?_
          rintro e wb ⟨rfl, kb⟩
          have UB := Lib.hid (UA.out.kept kb HSame.out.2)
          have VE1 := Lib.hid (kb.2.cell (p := ⟨BB, 1, none⟩) HBB.out VD1)
          have VE2 := Lib.hid (kb.2.cell (p := ⟨BB, 2, none⟩) HBB.out VD2)
          clear kb VD1 VD2
          go_wp2_with fail
          go_meet
          exact ⟨0, v', s', ca', cc', rfl, rfl, rfl, rfl, UB, VE1, VE2⟩
        · have e0 : (kd == 0) = false := by simpa using k0
          by_cases k1 : kd = 1
          · have e1 : (kd == 1) = true := by simpa using k1
            have b0 := U1.out.box.d0
            have b1 := U1.out.box.d1
            clear k0 k1
            obtain ⟨s', hs'⟩ : ∃ s', popS s gg = s' := ⟨_, rfl⟩
            obtain ⟨v', hv'⟩ : ∃ v', firstB s gg = v' := ⟨_, rfl⟩
            obtain ⟨x', hx'⟩ : ∃ x', firstV s gg = x' := ⟨_, rfl⟩
            have hsame := pop_same s gg
            have hfine := pop_fine U1.out.fine gg
            rw [hs'] at hsame hfine
            have HC := Lib.hid (rpop_at (n := n) (m := m) wv U1.out.rs U1.out.fine (fun i hi => hi.1) hx' hv' hs' ⟨U1.out.eqs.1, U1.out.eqs.2.1⟩)
            have HS' := Lib.hid hs'
            have HSame := Lib.hid hsame
            have HFine := Lib.hid hfine
            have HV' := Lib.hid hv'
            have HX' := Lib.hid hx'
            clear hs' hv' hx' hsame hfine
            go_wp2_with fail
            refine HC.out.mono ?_
            rintro e w8 ⟨ca', cc', rfl, hr', t'⟩
            have HR' := Lib.hid hr'
            have T' := Lib.hid t'
            have B8 := Lib.hid (U1.out.box.turn t' id)
            have VB1 := t'.cell (p := ⟨BB, 1, none⟩) id V1
            have VB2 := t'.cell (p := ⟨BB, 2, none⟩) id V2
            have z0 := B8.out.d0
            have z1 := B8.out.d1
            have f0 := B8.out.fr 0
            have f1 := B8.out.fr 1
            clear hr' t' V0 V1 V2 b0 b1 HC
            go_upto_region 18 with fail
            clear z0 z1 f0 f1 B8
            have UA := Lib.hid (U1.out.stored HFine.out HSame.out HR'.out T'.out)
            have TS := Lib.hid (store2_turn w8 b6 (.int .i64 n) (.slice ca' m cc'))
            have VD1 := TS.out.cell (p := ⟨BB, 1, none⟩) HNE.out VB1
            have VD2 := TS.out.cell (p := ⟨BB, 2, none⟩) HNE.out VB2
            generalize (w8.setCell ⟨b6, 0, none⟩ (.int .i64 n)).setCell ⟨b6, 1, none⟩ (.slice ca' m cc') = wa at UA TS VD1 VD2 ⊢
            clear VB1 VB2 U1
            go_wp2_with fail
            refine (pop_at _ UA.out.here.q HX'.out HV'.out HS'.out).mono ?_
            rintro e wb ⟨rfl, kb⟩
            have UB := Lib.hid (UA.out.kept kb HSame.out.2)
            have VE1 := Lib.hid (kb.2.cell (p := ⟨BB, 1, none⟩) HBB.out VD1)
            have VE2 := Lib.hid (kb.2.cell (p := ⟨BB, 2, none⟩) HBB.out VD2)
            clear kb VD1 VD2
            go_wp2_with fail
            go_meet
            exact ⟨x', v', s', ca', cc', rfl, rfl, rfl, rfl, UB, VE1, VE2⟩
          · have e1 : (kd == 1) = false := by simpa using k1
            by_cases k2 : kd = 2
            · have e2 : (kd == 2) = true := by simpa using k2
              have b0 := U1.out.box.d0
              have b1 := U1.out.box.d1
              clear k0 k1 k2
              obtain ⟨s', hs'⟩ : ∃ s', dropS s xx = s' := ⟨_, rfl⟩
              obtain ⟨v', hv'⟩ : ∃ v', inB s xx = v' := ⟨_, rfl⟩
              have hsame := drop_same s xx
              have hfine := drop_fine U1.out.fine xx
              rw [hs'] at hsame hfine
              have HC := Lib.hid (rdrop_at (n := n) (m := m) wv U1.out.rs U1.out.fine (fun i hi => hi.1) hv' hs' ⟨U1.out.eqs.1, U1.out.eqs.2.1⟩)
              have HS' := Lib.hid hs'
              have HSame := Lib.hid hsame
              have HFine := Lib.hid hfine
              have HV' := Lib.hid hv'
              clear hs' hv' hsame hfine
              go_wp2_with fail
              refine HC.out.mono ?_
              rintro e w8 ⟨ca', cc', rfl, hr', t'⟩
              have HR' := Lib.hid hr'
              have T' := Lib.hid t'
              have B8 := Lib.hid (U1.out.box.turn t' id)
              have VB1 := t'.cell (p := ⟨BB, 1, none⟩) id V1
              have VB2 := t'.cell (p := ⟨BB, 2, none⟩) id V2
              have z0 := B8.out.d0
              have z1 := B8.out.d1
              have f0 := B8.out.fr 0
              have f1 := B8.out.fr 1
              clear hr' t' V0 V1 V2 b0 b1 HC
              go_upto_region 21 with fail
              clear z0 z1 f0 f1 B8
              have UA := Lib.hid (U1.out.stored HFine.out HSame.out HR'.out T'.out)
              have TS := Lib.hid (store2_turn w8 b6 (.int .i64 n) (.slice ca' m cc'))
              have VD1 := TS.out.cell (p := ⟨BB, 1, none⟩) HNE.out VB1
              have VD2 := TS.out.cell (p := ⟨BB, 2, none⟩) HNE.out VB2
              generalize (w8.setCell ⟨b6, 0, none⟩ (.int .i64 n)).setCell ⟨b6, 1, none⟩ (.slice ca' m cc') = wa at UA TS VD1 VD2 ⊢
              clear VB1 VB2 U1
              go_wp2_with fail
              refine (drop_at _ UA.out.here.q HV'.out HS'.out).mono ?_
              rintro e wb ⟨rfl, kb⟩
              have UB := Lib.hid (UA.out.kept kb HSame.out.2)
              have VE1 := Lib.hid (kb.2.cell (p := ⟨BB, 1, none⟩) HBB.out VD1)
              have VE2 := Lib.hid (kb.2.cell (p := ⟨BB, 2, none⟩) HBB.out VD2)
              clear kb VD1 VD2
              go_wp2_with fail
              go_meet
              exact ⟨0, v', s', ca', cc', rfl, rfl, rfl, rfl, UB, VE1, VE2⟩
            · have e2 : (kd == 2) = false := by simpa using k2
              have HV1 := Lib.hid V1
              have HV2 := Lib.hid V2
              clear k0 k1 k2
              go_wp2_with fail
              go_meet
              exact ⟨0, true, s, ca, cc, rfl, rfl, rfl, rfl, U1, HV1, HV2⟩
      case rest =>
        clear U1 V0 V1 V2 HBB HNE
        obtain ⟨v, b, s, ca, cc, rfl, rfl, rfl, rfl, U, VX1, VX2⟩ := hcut
        obtain ⟨fv, hfv⟩ : ∃ fv, firstV s gg = fv := ⟨_, rfl⟩
        obtain ⟨fb, hfb⟩ : ∃ fb, firstB s gg = fb := ⟨_, rfl⟩
        obtain ⟨iv, hiv⟩ : ∃ iv, inV s xx = iv := ⟨_, rfl⟩
        obtain ⟨ib, hib⟩ : ∃ ib, inB s xx = ib := ⟨_, rfl⟩
        have HFV := Lib.hid hfv
        have HFB := Lib.hid hfb
        have HIV := Lib.hid hiv
        have HIB := Lib.hid hib
        clear hfv hfb hiv hib
        have V1 := VX1.out
        have V2 := VX2.out
        go_wp2_with fail
        refine (first_any wc U.out.here.q HFV.out HFB.out).mono ?_
        rintro e w2 ⟨rfl, rfl⟩
        have b0 := U.out.box.d0
        have b1 := U.out.box.d1
        go_wp2_with fail
        refine (rfirst_at wc U.out.rs U.out.fine HFV.out HFB.out ⟨U.out.eqs.1, U.out.eqs.2.1⟩).mono ?_
        rintro e w3 ⟨rfl, t3⟩
        have U3 := Lib.hid (U.out.new t3)
        have V2 := t3.cell (p := ⟨BB, 2, none⟩) id V2
        clear b0 b1 V1 t3 U
        go_wp2_with fail
        refine (in_any w3 U3.out.here.q HIV.out HIB.out).mono ?_
        rintro e w4 ⟨rfl, rfl⟩
        have b0 := U3.out.box.d0
        have b1 := U3.out.box.d1
        go_wp2_with fail
        refine (rin_at w3 U3.out.rs U3.out.fine HIV.out HIB.out ⟨U3.out.eqs.1, U3.out.eqs.2.1⟩).mono ?_
        rintro e w5 ⟨rfl, t5⟩
        have U5 := Lib.hid (U3.out.new t5)
        clear b0 b1 V2 t5 U3
        have b1 := U5.out.box.d1
        go_upto_region 29 with fail
        clear b1
        go_loopw [174] (fun s174 wr => ∃ i : Nat, i ≤ m ∧ s174 = .int .i64 i ∧ Hid (Ru w wr p tb eb s b6 s ca cc n m)) (fun s174 _ => m - (intOf s174).toNat)
        case atStart => exact ⟨0, Nat.zero_le _, rfl, U5⟩
        case round =>
          clear U5
          obtain ⟨i, hi, rfl, U⟩ := hrel
          by_cases hlt2 : i < m
          · have him : i < s.m := by rw [U.out.eqs.2.1]; exact hlt2
            obtain ⟨ad, a, c, hca, hcell, hints, _, _, _⟩ := U.out.rs.row i him
            have hl := U.out.fine.len him
            have HI := Lib.hid hints
            subst hca
            have hL : listL s i = s.M i := by unfold listL isQ; rw [if_pos (decide_eq_true ⟨by omega, by omega⟩), Int.toNat_natCast]
            obtain ⟨nl, hnl⟩ : ∃ nl, (s.M i).length = nl := ⟨_, rfl⟩
            rw [hnl] at hcell hl
            have HNL := Lib.hid hnl
            have HL := Lib.hid hL
            clear hints hnl hL him
            go_wp2_with fail
            refine (list_any wr U.out.here.q HL.out HNL.out).mono ?_
            rintro e w7 ⟨bo, bc, rfl, l7, i7, _, _, _, t7⟩
            have U7 := Lib.hid (U.out.new t7)
            have I7 := Lib.hid i7
            have HI7 := Lib.hid (HI.out.turn t7 (fun _ _ => id))
            clear l7 i7 t7 U hcell
            go_wp2_with fail
            refine (same_eq (L := s.M i) w7 I7.out HI7.out HNL.out (by omega)).mono ?_
            rintro e w8 ⟨rfl, k8, rfl⟩
            have U8 := Lib.hid (U7.out.new ((Turn.refl (fun _ => False) w7).drewN k8))
            clear U7 I7 HI7
            generalize w7.drewN k8 = w8 at U8 ⊢
            go_wp2_with fail
            refine (len_any w8 U8.out.here.q (nl := nl) (by rw [HL.out]; exact HNL.out)).mono ?_
            rintro e w9 ⟨rfl, t9⟩
            have U9 := Lib.hid (U8.out.new t9)
            clear t9 U8
            go_wp2_with fail
            go_roundw
            case rel => exact ⟨i + 1, by omega, by go_num, U9⟩
            case measure => simp [intOf]; omega
          · go_wp2_with fail
            go_roundw
            case rel => exact ⟨k + 1, s, ca, cc, by omega, by go_num, U⟩
            case measure => simp [intOf]; omega
    · have h1 := Lib.hid (show listL s (-1) = [] from rfl)
      have h2 := Lib.hid (show listL s m = [] by unfold listL isQ; rw [decide_eq_false (by rw [HU.out.eqs.2.1]; omega)]; rfl)
      go_wp2_with fail
      refine (list_any (nl := 0) wr HU.out.here.q h1.out rfl).mono ?_
      rintro e w7 ⟨bo, bc, rfl, _, _, _, _, _, t7⟩
      have U7 := Lib.hid (HU.out.new t7)
      clear t7 HU
      go_wp2_with fail
      refine (len_any (nl := 0) w7 U7.out.here.q (by rw [h2.out]; rfl)).mono ?_
      rintro e w8 ⟨rfl, t8⟩
      have T8 := Lib.hid (U7.out.here.t.trans t8)
      clear t8 U7
      go_wp2_with fail
      go_ret
      exact ⟨rfl, T8.out⟩

end Go.Proofs.Ytgkkmbkialcfiaa
