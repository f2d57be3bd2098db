/- The walk of PoolRuns. -/
import Derived.Test.YtmjenbkhmhpleaaSameP
import Derived.Test.YtmjenbkhmhpleaaOnce
import Derived.Deep.CutBlock
namespace Go.Proofs.Ytmjenbkhmhpleaa
open Go.RowKit
set_option linter.unusedVariables false

/-- Where the document's rows may lie: beside the pool's blocks, and beside b6. -/
def Dl (wx : World) (p q n : Nat) (R : Nat → Rw) (b6 : Nat) (i : Nat) : Prop := i < wx.heap.size ∧ ¬ PB p q n R i ∧ i ≠ b6
structure Ru (w0 wx : World) (p q : Nat) (sp : St) (R : Nat → Rw) (b6 : Nat) (sr : St) (ca : Option Addr) (cc : Nat) (ma : Option Addr) (nm mc n : Nat) : Prop where
  inn : In w0 wx p q sp R
  good : Good sr
  rs : RS wx sr ca cc ma mc (Dl wx p q n R b6)
  box : RBox wx b6 sr.size sr.most ca sr.n cc ma nm mc sr.fresh
  nm : (sr.M sr.n).length = nm
  fb : ¬ PB p q n R b6
  lo : w0.heap.size ≤ b6
  eqs : sp.n = n ∧ sr.n = n
section
variable {w0 wx w' w'' : World} {p q b6 n cc nm mc cc' nm' mc' : Nat} {sp sp' sr sr' : St} {R : Nat → Rw} {ca ma ca' ma' : Option Addr}
theorem Ru.new (h : Ru w0 wx p q sp R b6 sr ca cc ma nm mc n) (t : Turn (fun _ => False) wx w') : Ru w0 w' p q sp R b6 sr ca cc ma nm mc n :=
  ⟨h.inn.new t, h.good, (h.rs.new t).mono (fun i hi => ⟨Nat.lt_of_lt_of_le hi.1 t.size, hi.2⟩), h.box.turn t id, h.nm, h.fb, h.lo, h.eqs⟩
theorem Ru.drewN (h : Ru w0 wx p q sp R b6 sr ca cc ma nm mc n) (k : Nat) : Ru w0 (wx.drewN k) p q sp R b6 sr ca cc ma nm mc n := h.new ((Turn.refl _ _).drewN k)
theorem Ru.kept (h : Ru w0 wx p q sp R b6 sr ca cc ma nm mc n) (hG : Good sp') (he : sp'.n = sp.n) (k : Kept wx w' w0.heap.size p q sp.n R sp') :
    ∃ R', Ru w0 w' p q sp' R' b6 sr ca cc ma nm mc n ∧ ∀ (b o : Nat) (v : Value), ¬ PB p q n R b → b < wx.heap.size → wx.cell? ⟨b, o, none⟩ = some v → w'.cell? ⟨b, o, none⟩ = some v ∧ ¬ PB p q n R' b := by
  obtain ⟨R', h1, t1, b1⟩ := k
  have en := h.eqs.1
  have hb := h.box.lt
  rw [en] at t1 b1
  have far : ∀ i, i < wx.heap.size → ¬ PB p q n R i → ¬ PB p q n R' i := fun i hi hn e => by
    rcases b1 i e with e | e
    · exact hn e
    · omega
  refine ⟨R', ⟨⟨h1, hG, h.inn.t.and t1 (fun i hi e => by rw [← en] at e; have := (h.inn.pool.blocks e).1; omega)⟩, h.good, (h.rs.turn t1 (fun i hi => hi.2.1)).mono (fun i hi => ⟨Nat.lt_of_lt_of_le hi.1 t1.size, far i hi.1 hi.2.1, hi.2.2⟩), h.box.turn t1 h.fb, h.nm, far b6 hb h.fb, h.lo, he.trans en, h.eqs.2⟩, fun b o v hb hlt hv => ⟨t1.cell (p := ⟨b, o, none⟩) hb hv, far b hlt hb⟩⟩
theorem Ru.stored (h : Ru w0 wx p q sp R b6 sr ca cc ma nm mc n) (hG : Good sr') (hn : sr'.n = sr.n) (hr : RS w' sr' ca' cc' ma' mc' (Dn (Dl wx p q n R b6) wx w')) (t : Turn (fun _ => False) wx w') (t2 : Turn (fun _ => False) w' w'') (hnm : (sr'.M sr'.n).length = nm') :
    Ru w0 (((((w''.setCell ⟨b6, 0, none⟩ (.int .i64 sr'.size)).setCell ⟨b6, 1, none⟩ (.int .i64 sr'.most)).setCell ⟨b6, 2, none⟩ (.slice ca' sr'.n cc')).setCell ⟨b6, 3, none⟩ (.slice ma' nm' mc')).setCell ⟨b6, 4, none⟩ (.int .i64 sr'.fresh)) p q sp R b6 sr' ca' cc' ma' nm' mc' n := by
  have tb := store5_turn w'' b6 (.int .i64 sr'.size) (.int .i64 sr'.most) (.slice ca' sr'.n cc') (.slice ma' nm' mc') (.int .i64 sr'.fresh)
  have hb := h.box.lt
  have hbox := ((h.box.turn t id).turn t2 id).store (size' := sr'.size) (most' := sr'.most) (ca' := ca') (n' := sr'.n) (cc' := cc') (ma' := ma') (nm' := nm') (mc' := mc') (fresh' := sr'.fresh)
  have en := h.eqs.1
  have hin : In w0 _ p q sp R := ⟨((h.inn.pool.new t).new t2).turn tb (fun i hi e => h.fb (by rw [← en]; have e' : i = b6 := e; exact e' ▸ hi)), h.inn.good, ((h.inn.t.trans t).trans t2).and tb (fun i hi e => by have e' : i = b6 := e; have := h.lo; omega)⟩
  refine ⟨hin, hG, ((hr.new t2).turn tb (fun i hi e => ?_)).mono (fun i hi => ?_), hbox, hnm, h.fb, h.lo, en, hn.trans h.eqs.2⟩
  · have e' : i = b6 := e
    rcases hi with h1 | h1
    · exact h1.2.2 e'
    · omega
  · have hs1 := t.size
    have hs2 := t2.size
    have hs3 := tb.size
    rcases hi with h1 | h1
    · exact ⟨by have := h1.1; omega, h1.2⟩
    · refine ⟨by omega, fun e => ?_, by omega⟩
      rw [← en] at e
      have := (h.inn.pool.blocks e).2
      omega
end

theorem rtake_any {s : St} {ca ma : Option Addr} {cc mc nm : Nat} {g : Int} {D : Nat → Prop} (w : World) (h : RS w s ca cc ma mc D) (hG : Good s) (hnm : (s.M s.n).length = nm) (hDb : ∀ i, D i → i < w.heap.size) :
    Calls Try.prog 16 #[.agg #[.int .i64 s.size, .int .i64 s.most, .slice ca s.n cc, .slice ma nm mc, .int .i64 s.fresh], .int .i64 g] w fun e w' => ∃ ca' cc' ma' mc' nm', e = .returned (.tuple #[.agg #[.int .i64 (takeS s g).size, .int .i64 (takeS s g).most, .slice ca' (takeS s g).n cc', .slice ma' nm' mc', .int .i64 (takeS s g).fresh], .int .i64 (takeX s g), .bool (takeB s g)]) ∧
      ((takeS s g).M (takeS s g).n).length = nm' ∧ RS w' (takeS s g) ca' cc' ma' mc' (Dn D w w') ∧ Turn (fun _ => False) w w' := by
  subst hnm
  have key : Calls Try.prog 16 #[ragg s.size s.most ca s.n cc ma (s.M s.n).length mc s.fresh, .int .i64 g] w (RPost (takeS s g) (some (takeX s g)) (takeB s g) D w) := by
    by_cases hg : 0 ≤ g ∧ g < (s.n : Int)
    · obtain ⟨k, rfl⟩ : ∃ k : Nat, g = k := ⟨g.toNat, by omega⟩
      obtain ⟨e1, e2, e3⟩ := takeN_eq (s := s) (g := k) (by omega)
      rw [e1, e2, e3]
      exact rtake_yes w h hG (by omega) hDb
    · have hf : takerB s g = false := decide_eq_false hg
      have e1 : takeS s g = s := by unfold takeS; rw [hf]; rfl
      have e2 : takeX s g = 0 := by unfold takeX; rw [hf]; rfl
      have e3 : takeB s g = false := by unfold takeB; rw [hf]; rfl
      rw [e1, e2, e3]
      exact rtake_no w h hG (by omega)
  refine key.mono ?_
  rintro e w' ⟨ca', cc', ma', mc', rfl, h1, h2⟩
  exact ⟨ca', cc', ma', mc', _, rfl, rfl, h1, h2⟩
theorem rgive_any {s : St} {ca ma : Option Addr} {cc mc nm : Nat} {g x : Int} {D : Nat → Prop} (w : World) (h : RS w s ca cc ma mc D) (hG : Good s) (hnm : (s.M s.n).length = nm) (hDb : ∀ i, D i → i < w.heap.size) :
    Calls Try.prog 18 #[.agg #[.int .i64 s.size, .int .i64 s.most, .slice ca s.n cc, .slice ma nm mc, .int .i64 s.fresh], .int .i64 g, .int .i64 x] w fun e w' => ∃ ca' cc' ma' mc' nm', e = .returned (.tuple #[.agg #[.int .i64 (giveS s g x).size, .int .i64 (giveS s g x).most, .slice ca' (giveS s g x).n cc', .slice ma' nm' mc', .int .i64 (giveS s g x).fresh], .bool (giveB s g x)]) ∧
      ((giveS s g x).M (giveS s g x).n).length = nm' ∧ RS w' (giveS s g x) ca' cc' ma' mc' (Dn D w w') ∧ Turn (fun _ => False) w w' := by
  subst hnm
  have key : Calls Try.prog 18 #[ragg s.size s.most ca s.n cc ma (s.M s.n).length mc s.fresh, .int .i64 g, .int .i64 x] w (RPost (giveS s g x) none (giveB s g x) D w) := by
    by_cases hg : 0 ≤ g ∧ g < (s.n : Int)
    · obtain ⟨k, rfl⟩ : ∃ k : Nat, g = k := ⟨g.toNat, by omega⟩
      have ht : takerB s k = true := decide_eq_true hg
      cases hx : liveB s x with
      | true =>
        have e1 : giveB s k x = true := by unfold giveB; rw [ht, hx]; rfl
        have e2 : giveS s k x = giveN s k x := by unfold giveS; rw [if_pos e1]; rfl
        rw [e1, e2]
        exact rgive_yes w h hG (by omega) hx hDb
      | false =>
        have e1 : giveB s k x = false := by unfold giveB; rw [ht, hx]; rfl
        rw [e1, give_false e1]
        exact rgive_dead w h hG (by omega) hx
    · have ht : takerB s g = false := decide_eq_false hg
      have e1 : giveB s g x = false := by unfold giveB; rw [ht]; rfl
      rw [e1, give_false e1]
      exact rgive_far w h hG (by omega)
  refine key.mono ?_
  rintro e w' ⟨ca', cc', ma', mc', rfl, h1, h2⟩
  exact ⟨ca', cc', ma', mc', _, rfl, rfl, h1, h2⟩
theorem samep_at {base p q nm : Nat} {s : St} {R : Nat → Rw} {ca ma : Option Addr} {cc mc : Nat} {D : Nat → Prop} (w : World) (h : IsPool w base p q s R) (hr : RS w s ca cc ma mc D) (hG : Good s) (hnm : (s.M s.n).length = nm) :
    Calls Try.prog 14 #[.pointer (some ⟨p, 0, none⟩), .agg #[.int .i64 s.size, .int .i64 s.most, .slice ca s.n cc, .slice ma nm mc, .int .i64 s.fresh]] w fun e w' => e = .returned (.bool true) ∧ Turn (fun _ => False) w w' := by
  subst hnm
  exact samep_any w h hr hG
theorem live_at {base p q : Nat} {s : St} {R : Nat → Rw} {x : Int} {b : Bool} (w : World) (h : IsPool w base p q s R) (hG : Good s) (hx : liveB s x = b) :
    Calls Try.prog 20 #[.pointer (some ⟨p, 0, none⟩), .int .i64 x] w fun e w' => e = .returned (.bool b) ∧ w = w' := by
  subst hx
  exact live_any x w h hG

theorem ints_nil (w : World) (a : Option Addr) : Ints .i64 w a [] := by
  intro j hj
  cases hj
theorem rs_new {w : World} {cq n size most : Nat} (z : Zeros w cq n (.slice none 0 0) 23) : RS w (newS n size most) (some ⟨cq, 0, none⟩) n none 0 (fun i => i = cq) := by
  refine ⟨fun j hj => ?_, ints_nil _ _, ?_, fun _ => rfl, ?_, ?_⟩
  · have hj' : j < n := hj
    refine ⟨_, none, 0, rfl, ?_, ints_nil _ _, ?_, fun _ => rfl, Nat.le_refl _⟩
    · rw [Addr.add_lit, Nat.zero_add]
      unfold Zeros at z
      simp [World.cell?, z, hj']
      rfl
    · intro x e
      cases e
  · intro x e
    cases e
  · intro x e
    cases e
    rfl
  · intro e
    cases e
theorem lruns_long {a b c : Int} {ao : Option Addr} {al ac : Nat} (w : World) (ha : 0 ≤ a ∧ a ≤ 255) (hb : 0 ≤ b ∧ b ≤ 255) (hc : 0 ≤ c ∧ c ≤ 255) (h : 200 < al) (hL : al ≤ maxLen) :
    Calls Try.prog 4 #[.agg #[.int .u8 a, .int .u8 b, .int .u8 c], .slice ao al ac] w fun e w' => e = .returned (.bool true) ∧ Turn (fun _ => False) w w' := by
  unfold maxLen at hL
  obtain ⟨size, hs⟩ : ∃ n : Nat, a % 30 = (n : Int) := ⟨(a % 30).toNat, by omega⟩
  obtain ⟨n, hn⟩ : ∃ n : Nat, b % 9 = (n : Int) := ⟨(b % 9).toNat, by omega⟩
  obtain ⟨most, hm⟩ : ∃ n : Nat, 1 + c % 16 = (n : Int) := ⟨(1 + c % 16).toNat, by omega⟩
  have HD := Lib.hid (And.intro ha (And.intro hb (And.intro hc (And.intro hs (And.intro hn hm)))))
  clear ha hb hc hs hn hm
  go_enter Try.func4, Try.ntmps4
  go_wp2_with fail
  refine (alive_any _).mono ?_
  rintro e w1 ⟨rfl, t1⟩
  have T1 := Lib.hid (((Turn.refl (fun _ => False) w).alloc (.cells #[.int .u8 a, .int .u8 b, .int .u8 c] 38)).trans t1)
  have HX := Lib.hid (t1.heap id (heap_alloc_new w (.cells #[.int .u8 a, .int .u8 b, .int .u8 c] 38)))
  clear t1
  have x0 : w1.cell? ⟨w.heap.size, 0, none⟩ = some (.int .u8 a) := by simp [World.cell?, HX.out]
  have x1 : w1.cell? ⟨w.heap.size, 1, none⟩ = some (.int .u8 b) := by simp [World.cell?, HX.out]
  have x2 : w1.cell? ⟨w.heap.size, 2, none⟩ = some (.int .u8 c) := by simp [World.cell?, HX.out]
  go_wp2_with fail
  refine (open_any (n := n) (size := size) (most := most) w1 HD.out.1 HD.out.2.1 HD.out.2.2.1 HD.out.2.2.2.1 HD.out.2.2.2.2.1 HD.out.2.2.2.2.2).mono ?_
  rintro e w2 ⟨p, q, cq, rfl, h2, z2, hc1, hc2, hc3, t2⟩
  have T2 := Lib.hid (T1.out.trans t2)
  clear h2 z2 hc1 hc2 hc3 t2 x0 x1 x2
  unfold ragg
  go_wp2_with fail
  go_ret
  exact ⟨rfl, T2.out.alloc _⟩

set_option maxRecDepth 100000 in
set_option maxHeartbeats 4000000 in
theorem lruns_any {a b c : Int} {ao : Option Addr} {al ac : Nat} {A : List (Int × Int × Int)} (w : World) (ha : 0 ≤ a ∧ a ≤ 255) (hb : 0 ≤ b ∧ b ≤ 255) (hc : 0 ≤ c ∧ c ≤ 255) (hA : Acts w ao A) (hAl : A.length = al) (hL : al ≤ 200) :
    Calls Try.prog 4 #[.agg #[.int .u8 a, .int .u8 b, .int .u8 c], .slice ao al ac] w fun e w' => e = .returned (.bool true) ∧ Turn (fun _ => False) w w' := by
  obtain ⟨size, hs⟩ : ∃ n : Nat, a % 30 = (n : Int) := ⟨(a % 30).toNat, by omega⟩
  obtain ⟨n, hn⟩ : ∃ n : Nat, b % 9 = (n : Int) := ⟨(b % 9).toNat, by omega⟩
  obtain ⟨most, hm⟩ : ∃ n : Nat, 1 + c % 16 = (n : Int) := ⟨(1 + c % 16).toNat, by omega⟩
  have hs30 : size ≤ 29 := by omega
  have hn8 : n ≤ 8 := by omega
  have hm16 : most ≤ 16 := by omega
  have hm1 : 1 ≤ most := by omega
  have HD := Lib.hid (And.intro ha (And.intro hb (And.intro hc (And.intro hs (And.intro hn hm)))))
  have HA := Lib.hid hA
  have HAL := Lib.hid hAl
  clear ha hb hc hs hn hm hA hAl
  go_enter Try.func4, Try.ntmps4
  go_wp2_with fail
  refine (alive_any _).mono ?_
  rintro e w1 ⟨rfl, t1⟩
  have T1 := Lib.hid (((Turn.refl (fun _ => False) w).alloc (.cells #[.int .u8 a, .int .u8 b, .int .u8 c] 38)).trans t1)
  have HX := Lib.hid (t1.heap id (heap_alloc_new w (.cells #[.int .u8 a, .int .u8 b, .int .u8 c] 38)))
  clear t1
  have x0 : w1.cell? ⟨w.heap.size, 0, none⟩ = some (.int .u8 a) := by simp [World.cell?, HX.out]
  have x1 : w1.cell? ⟨w.heap.size, 1, none⟩ = some (.int .u8 b) := by simp [World.cell?, HX.out]
  have x2 : w1.cell? ⟨w.heap.size, 2, none⟩ = some (.int .u8 c) := by simp [World.cell?, HX.out]
  go_wp2_with fail
  refine (open_any (n := n) (size := size) (most := most) w1 HD.out.1 HD.out.2.1 HD.out.2.2.1 HD.out.2.2.2.1 HD.out.2.2.2.2.1 HD.out.2.2.2.2.2).mono ?_
  rintro e w2 ⟨p, q, cq, rfl, h2, z2, hc1, hc2, hc3, t2⟩
  have HR0 := Lib.hid (rs_new (size := size) (most := most) z2)
  have HQ := Lib.hid (show cq < w2.heap.size ∧ cq ≠ p ∧ cq ≠ q from ⟨z2.lt, hc2, hc3⟩)
  have H2 : Hid (In w w2 p q (newS n size most) R0) := Lib.hid ⟨h2.less T1.out.size, newS_good hn8 (by omega) ⟨hm1, hm16⟩, T1.out.trans t2⟩
  clear h2 z2 hc1 hc2 hc3 t2 x0 x1 x2 HX T1 HD
  unfold ragg
  go_upto_if 31 with fail
  have HU : Hid (Ru w (w2.alloc (.cells #[.int .i64 size, .int .i64 most, .slice (some ⟨cq, 0, none⟩) n n, .slice none 0 0, .int .i64 0] 25)) p q (newS n size most) R0 w2.heap.size (newS n size most) (some ⟨cq, 0, none⟩) n none 0 0 n) := Lib.hid
    ⟨H2.out.new ((Turn.refl (fun _ => False) w2).alloc _), H2.out.good, (HR0.out.new ((Turn.refl (fun _ => False) w2).alloc _)).mono (fun i e => by
      subst e
      have hq := HQ.out
      refine ⟨by simp; omega, fun e => ?_, by omega⟩
      rcases e with e | e | ⟨k, hk, e⟩
      · omega
      · omega
      · exact absurd e (by intro e'; cases e')), heap_alloc_new w2 _, rfl, fun e => (by have := (H2.out.pool.blocks e).2; omega), H2.out.t.size, rfl, rfl⟩
  clear H2 HR0 HQ
  generalize w2.alloc (.cells #[.int .i64 size, .int .i64 most, .slice (some ⟨cq, 0, none⟩) n n, .slice none 0 0, .int .i64 0] 25) = w6 at HU ⊢
  generalize w2.heap.size = b6 at HU ⊢
  go_wp2_with fail
  go_loopw [37] (fun s37 wr => ∃ (k : Nat) (s : St) (R : Nat → Rw) (ca ma : Option Addr) (cc nm mc : Nat), k ≤ al ∧ s37 = .int .i64 k ∧ Hid (Ru w wr p q s R b6 s ca cc ma nm mc n)) (fun s37 _ => al - (intOf s37).toNat)
  case atStart => exact ⟨0, _, R0, _, _, _, _, _, Nat.zero_le _, rfl, HU⟩
  case round =>
    clear HU
    obtain ⟨k, s, R, ca, ma, cc, nm, mc, hk, rfl, HU⟩ := hrel
    by_cases hlt : k < al
    · obtain ⟨ad, hao, c0, c1, c2⟩ := (HA.out.turn HU.out.inn.t (fun _ _ => id)) k (by rw [HAL.out]; exact hlt)
      subst hao
      have d1 : wr.cell? ⟨(ad.add (k * 3)).block, (ad.add (k * 3)).off + 1, none⟩ = some (.int .i64 (A.getD k (0, 0, 0)).2.1) := c1
      have d2 : wr.cell? ⟨(ad.add (k * 3)).block, (ad.add (k * 3)).off + 2, none⟩ = some (.int .i64 (A.getD k (0, 0, 0)).2.2) := c2
      clear c1 c2
      generalize (A.getD k (0, 0, 0)).1 = kd at c0
      generalize (A.getD k (0, 0, 0)).2.1 = gg at d1
      generalize (A.getD k (0, 0, 0)).2.2 = xx at d2
      go_upto_region 9 with fail
      have U1 := Lib.hid (HU.out.new ((Turn.refl (fun _ => False) wr).alloc (.cells #[.int .i64 kd, .int .i64 gg, .int .i64 xx] 43)))
      have HBB := Lib.hid (show ¬ PB p q n R wr.heap.size from fun e => by rw [← HU.out.eqs.1] at e; have := (HU.out.inn.pool.blocks e).2; omega)
      have HNE := Lib.hid (show b6 ≠ wr.heap.size from fun e => by have := HU.out.box.lt; omega)
      have HLT := Lib.hid (show wr.heap.size < (wr.alloc (.cells #[.int .i64 kd, .int .i64 gg, .int .i64 xx] 43)).heap.size by simp)
      have V0 : (wr.alloc (.cells #[.int .i64 kd, .int .i64 gg, .int .i64 xx] 43)).cell? ⟨wr.heap.size, 0, none⟩ = some (.int .i64 kd) := by simp [go_sem]
      have V1 : (wr.alloc (.cells #[.int .i64 kd, .int .i64 gg, .int .i64 xx] 43)).cell? ⟨wr.heap.size, 1, none⟩ = some (.int .i64 gg) := by simp [go_sem]
      have V2 : (wr.alloc (.cells #[.int .i64 kd, .int .i64 gg, .int .i64 xx] 43)).cell? ⟨wr.heap.size, 2, none⟩ = some (.int .i64 xx) := by simp [go_sem]
      generalize wr.alloc (.cells #[.int .i64 kd, .int .i64 gg, .int .i64 xx] 43) = wv at U1 V0 V1 V2 HLT ⊢
      generalize wr.heap.size = BB at HBB HNE HLT V0 V1 V2 ⊢
      clear c0 d1 d2 HU
      go_upto_block 2 with fail
      go_cut [] (fun wx => ∃ (s : St) (R : Nat → Rw) (ca ma : Option Addr) (cc nm mc : Nat), Hid (Ru w wx p q s R b6 s ca cc ma nm mc n) ∧ Hid (wx.cell? ⟨BB, 2, none⟩ = some (.int .i64 xx)))
      case first =>
        by_cases k0 : kd = 0
        · have e0 : (kd == 0) = true := by simpa using k0
          have b0 := U1.out.box.d0
          have b1 := U1.out.box.d1
          have b2 := U1.out.box.d2
          have b3 := U1.out.box.d3
          have b4 := U1.out.box.d4
          clear k0
          obtain ⟨s', hs'⟩ : ∃ s', takeS s gg = s' := ⟨_, rfl⟩
          obtain ⟨x', hx'⟩ : ∃ x', takeX s gg = x' := ⟨_, rfl⟩
          obtain ⟨v', hv'⟩ : ∃ v', takeB s gg = v' := ⟨_, rfl⟩
          have hsame := take_same s gg
          have hgood := take_good U1.out.good gg
          have ht := rtake_any (g := gg) wv U1.out.rs U1.out.good U1.out.nm (fun i hi => hi.1)
          rw [hs', hx', hv'] at ht
          rw [hs'] at hsame hgood
          have HC := Lib.hid ht
          have HS' := Lib.hid hs'
          have HSame := Lib.hid hsame
          have HGood := Lib.hid hgood
          have HX' := Lib.hid hx'
          have HV' := Lib.hid hv'
          clear hs' hx' hv' ht hsame hgood
          go_wp2_with fail
          refine HC.out.mono ?_
          rintro e w8 ⟨ca', cc', ma', mc', nm', rfl, hnm', hr', t'⟩
          have HNM' := Lib.hid hnm'
          have HR' := Lib.hid hr'
          have T' := Lib.hid t'
          have VB1 := t'.cell (p := ⟨BB, 1, none⟩) id V1
          have VB2 := t'.cell (p := ⟨BB, 2, none⟩) id V2
          have HLT8 := Lib.hid (Nat.lt_of_lt_of_le HLT.out t'.size)
          clear hnm' hr' t' V0 V1 V2 b0 b1 b2 b3 b4 HC
          go_upto_region 12 with fail
          have TN := Lib.hid ((Turn.refl (fun _ => False) w8).alloc (.cells #[.int .i64 s'.size, .int .i64 s'.most, .slice ca' s'.n cc', .slice ma' nm' mc', .int .i64 s'.fresh] 25))
          have BN := Lib.hid (show RBox (w8.alloc (.cells #[.int .i64 s'.size, .int .i64 s'.most, .slice ca' s'.n cc', .slice ma' nm' mc', .int .i64 s'.fresh] 25)) w8.heap.size s'.size s'.most ca' s'.n cc' ma' nm' mc' s'.fresh from heap_alloc_new w8 _)
          have VC1 := TN.out.cell (p := ⟨BB, 1, none⟩) id VB1
          have VC2 := TN.out.cell (p := ⟨BB, 2, none⟩) id VB2
          have B6N := Lib.hid ((U1.out.box.turn T'.out id).turn TN.out id)
          have HLT9 := Lib.hid (Nat.lt_of_lt_of_le HLT8.out TN.out.size)
          generalize w8.alloc (.cells #[.int .i64 s'.size, .int .i64 s'.most, .slice ca' s'.n cc', .slice ma' nm' mc', .int .i64 s'.fresh] 25) = w9 at TN BN VC1 VC2 B6N HLT9 ⊢
          clear VB1 VB2
          generalize w8.heap.size = bn at BN ⊢
          have b0 := BN.out.d0
          have b1 := BN.out.d1
          have b2 := BN.out.d2
          have b3 := BN.out.d3
          have b4 := BN.out.d4
          have y0 := B6N.out.d0
          have y1 := B6N.out.d1
          have y2 := B6N.out.d2
          have y3 := B6N.out.d3
          have y4 := B6N.out.d4
          have f0 := B6N.out.fr 0
          have f1 := B6N.out.fr 1
          have f2 := B6N.out.fr 2
          have f3 := B6N.out.fr 3
          have f4 := B6N.out.fr 4
          go_upto_region 13 with fail
          clear b0 b1 b2 b3 b4 y0 y1 y2 y3 y4 f0 f1 f2 f3 f4
          have UA := Lib.hid (U1.out.stored HGood.out HSame.out.1 HR'.out T'.out TN.out HNM'.out)
          have TS := Lib.hid (store5_turn w9 b6 (.int .i64 s'.size) (.int .i64 s'.most) (.slice ca' s'.n cc') (.slice ma' nm' mc') (.int .i64 s'.fresh))
          have VD1 := TS.out.cell (p := ⟨BB, 1, none⟩) (fun e => HNE.out e.symm) VC1
          have VD2 := TS.out.cell (p := ⟨BB, 2, none⟩) (fun e => HNE.out e.symm) VC2
          have HLTA := Lib.hid (Nat.lt_of_lt_of_le HLT9.out TS.out.size)
          generalize ((((w9.setCell ⟨b6, 0, none⟩ (.int .i64 s'.size)).setCell ⟨b6, 1, none⟩ (.int .i64 s'.most)).setCell ⟨b6, 2, none⟩ (.slice ca' s'.n cc')).setCell ⟨b6, 3, none⟩ (.slice ma' nm' mc')).setCell ⟨b6, 4, none⟩ (.int .i64 s'.fresh) = wa at UA TS VD1 VD2 HLTA ⊢
          clear VC1 VC2 U1
          go_wp2_with fail
          refine (take_at _ UA.out.inn.pool UA.out.inn.good HX'.out HV'.out).mono ?_
          rintro e wb ⟨rfl, kb⟩
          rw [HS'.out] at kb
          obtain ⟨Rb, ub, vb⟩ := UA.out.kept HGood.out HSame.out.1 kb
          have hvb := vb BB 2 _ HBB.out HLTA.out VD2
          have UB := Lib.hid ub
          have VE2 := Lib.hid hvb
          clear ub vb hvb kb VD1 VD2
          go_wp2_with fail
          go_meet
          exact ⟨s', Rb, ca', ma', cc', nm', mc', UB, Lib.hid VE2.out.1⟩
        · have e0 : (kd == 0) = false := by simpa using k0
          by_cases k1 : kd = 1
          · have e1 : (kd == 1) = true := by simpa using k1
            have b0 := U1.out.box.d0
            have b1 := U1.out.box.d1
            have b2 := U1.out.box.d2
            have b3 := U1.out.box.d3
            have b4 := U1.out.box.d4
            clear k0 k1
            obtain ⟨s', hs'⟩ : ∃ s', giveS s gg xx = s' := ⟨_, rfl⟩
            obtain ⟨v', hv'⟩ : ∃ v', giveB s gg xx = v' := ⟨_, rfl⟩
            have hsame := give_same s gg xx
            have hgood := give_good U1.out.good gg xx
            have ht := rgive_any (g := gg) (x := xx) wv U1.out.rs U1.out.good U1.out.nm (fun i hi => hi.1)
            rw [hs', hv'] at ht
            rw [hs'] at hsame hgood
            have HC := Lib.hid ht
            have HS' := Lib.hid hs'
            have HSame := Lib.hid hsame
            have HGood := Lib.hid hgood
            have HV' := Lib.hid hv'
            clear hs' hv' ht hsame hgood
            go_wp2_with fail
            refine HC.out.mono ?_
            rintro e w8 ⟨ca', cc', ma', mc', nm', rfl, hnm', hr', t'⟩
            have HNM' := Lib.hid hnm'
            have HR' := Lib.hid hr'
            have T' := Lib.hid t'
            have VB1 := t'.cell (p := ⟨BB, 1, none⟩) id V1
            have VB2 := t'.cell (p := ⟨BB, 2, none⟩) id V2
            have HLT8 := Lib.hid (Nat.lt_of_lt_of_le HLT.out t'.size)
            clear hnm' hr' t' V0 V1 V2 b0 b1 b2 b3 b4 HC
            go_upto_region 18 with fail
            have TN := Lib.hid ((Turn.refl (fun _ => False) w8).alloc (.cells #[.int .i64 s'.size, .int .i64 s'.most, .slice ca' s'.n cc', .slice ma' nm' mc', .int .i64 s'.fresh] 25))
            have BN := Lib.hid (show RBox (w8.alloc (.cells #[.int .i64 s'.size, .int .i64 s'.most, .slice ca' s'.n cc', .slice ma' nm' mc', .int .i64 s'.fresh] 25)) w8.heap.size s'.size s'.most ca' s'.n cc' ma' nm' mc' s'.fresh from heap_alloc_new w8 _)
            have VC1 := TN.out.cell (p := ⟨BB, 1, none⟩) id VB1
            have VC2 := TN.out.cell (p := ⟨BB, 2, none⟩) id VB2
            have B6N := Lib.hid ((U1.out.box.turn T'.out id).turn TN.out id)
            have HLT9 := Lib.hid (Nat.lt_of_lt_of_le HLT8.out TN.out.size)
            generalize w8.alloc (.cells #[.int .i64 s'.size, .int .i64 s'.most, .slice ca' s'.n cc', .slice ma' nm' mc', .int .i64 s'.fresh] 25) = w9 at TN BN VC1 VC2 B6N HLT9 ⊢
            clear VB1 VB2
            generalize w8.heap.size = bn at BN ⊢
            have b0 := BN.out.d0
            have b1 := BN.out.d1
            have b2 := BN.out.d2
            have b3 := BN.out.d3
            have b4 := BN.out.d4
            have y0 := B6N.out.d0
            have y1 := B6N.out.d1
            have y2 := B6N.out.d2
            have y3 := B6N.out.d3
            have y4 := B6N.out.d4
            have f0 := B6N.out.fr 0
            have f1 := B6N.out.fr 1
            have f2 := B6N.out.fr 2
            have f3 := B6N.out.fr 3
            have f4 := B6N.out.fr 4
            go_upto_region 19 with fail
            clear b0 b1 b2 b3 b4 y0 y1 y2 y3 y4 f0 f1 f2 f3 f4
            have UA := Lib.hid (U1.out.stored HGood.out HSame.out.1 HR'.out T'.out TN.out HNM'.out)
            have TS := Lib.hid (store5_turn w9 b6 (.int .i64 s'.size) (.int .i64 s'.most) (.slice ca' s'.n cc') (.slice ma' nm' mc') (.int .i64 s'.fresh))
            have VD1 := TS.out.cell (p := ⟨BB, 1, none⟩) (fun e => HNE.out e.symm) VC1
            have VD2 := TS.out.cell (p := ⟨BB, 2, none⟩) (fun e => HNE.out e.symm) VC2
            have HLTA := Lib.hid (Nat.lt_of_lt_of_le HLT9.out TS.out.size)
            generalize ((((w9.setCell ⟨b6, 0, none⟩ (.int .i64 s'.size)).setCell ⟨b6, 1, none⟩ (.int .i64 s'.most)).setCell ⟨b6, 2, none⟩ (.slice ca' s'.n cc')).setCell ⟨b6, 3, none⟩ (.slice ma' nm' mc')).setCell ⟨b6, 4, none⟩ (.int .i64 s'.fresh) = wa at UA TS VD1 VD2 HLTA ⊢
            clear VC1 VC2 U1
            go_wp2_with fail
            refine (give_at _ UA.out.inn.pool UA.out.inn.good HV'.out).mono ?_
            rintro e wb ⟨rfl, kb⟩
            rw [HS'.out] at kb
            obtain ⟨Rb, ub, vb⟩ := UA.out.kept HGood.out HSame.out.1 kb
            have hvb := vb BB 2 _ HBB.out HLTA.out VD2
            have UB := Lib.hid ub
            have VE2 := Lib.hid hvb
            clear ub vb hvb kb VD1 VD2
            go_wp2_with fail
            go_meet
            exact ⟨s', Rb, ca', ma', cc', nm', mc', UB, Lib.hid VE2.out.1⟩
          · have e1 : (kd == 1) = false := by simpa using k1
            have HV2 := Lib.hid V2
            clear k0 k1
            go_wp2_with fail
            go_meet
            exact ⟨s, R, ca, ma, cc, nm, mc, U1, HV2⟩
      case rest =>
        clear U1 V0 V1 V2 HBB HNE HLT
        obtain ⟨s, R, ca, ma, cc, nm, mc, U, VX⟩ := hcut
        obtain ⟨lv, hlv⟩ : ∃ lv, liveB s xx = lv := ⟨_, rfl⟩
        have HLV := Lib.hid hlv
        clear hlv
        go_wp2_with fail
        refine stand_start (by kernel_rfl) 99 (fun w' => (w'.cell? ⟨b6, 0, none⟩ = some (.int .i64 s.size) ∧ w'.cell? ⟨b6, 1, none⟩ = some (.int .i64 s.most) ∧ w'.cell? ⟨b6, 2, none⟩ = some (.slice ca s.n cc) ∧ w'.cell? ⟨b6, 3, none⟩ = some (.slice ma nm mc) ∧ w'.cell? ⟨b6, 4, none⟩ = some (.int .i64 s.fresh)) ∧ w'.cell? ⟨BB, 2, none⟩ = some (.int .i64 xx)) 99 (fun w' => True) ⟨⟨U.out.box.d0, U.out.box.d1, U.out.box.d2, U.out.box.d3, U.out.box.d4⟩, VX.out⟩ trivial ?_
        have U1 := Lib.hid (show Ru w wc.drew p q s R b6 s ca cc ma nm mc n from U.out.drewN 1)
        have VX1 := Lib.hid (show wc.drew.cell? ⟨BB, 2, none⟩ = some (.int .i64 xx) from VX.out)
        clear U VX
        generalize wc.drew = x1 at U1 VX1 ⊢
        refine stand_take (i := 0) (v := ?_) rfl (by kernel_rfl) (by kernel_rfl) (by kernel_rfl) (by rfl) (fun _ _ _ h => h) (by decide) (by decide) (by rfl) ?_ ?_
        rotate_left
        · (intro w; go_simp; try with_reducible rfl)
        dsimp only [List.set_cons_zero, List.set_cons_succ]
        refine stand_load3 (i := 1) (v := ?_) rfl (by kernel_rfl) (by kernel_rfl) (by kernel_rfl) (by rfl) (fun _ _ _ h => h) (by decide) (by decide) (by kernel_rfl) (by rfl) ?_ ?_
        rotate_left
        · (intro w hA; (try dsimp only at hA); go_simp; try with_reducible rfl)
        dsimp only [List.set_cons_zero, List.set_cons_succ]
        refine stand_step (i := 2) (by kernel_rfl) rfl (fun K hK => ?_)
        go_simp
        refine (samep_at x1 U1.out.inn.pool U1.out.rs U1.out.good U1.out.nm).mono ?_
        rintro e x2 ⟨rfl, t2⟩
        have U2 := Lib.hid (U1.out.new t2)
        have VX2 := Lib.hid (t2.cell (p := ⟨BB, 2, none⟩) id VX1.out)
        clear t2
        refine hK.out _ _ (fun _ => ⟨⟨U2.out.box.d0, U2.out.box.d1, U2.out.box.d2, U2.out.box.d3, U2.out.box.d4⟩, VX2.out⟩) (fun _ => trivial) ?_
        clear hK K
        try simp only [put_laid, List.set_cons_zero, List.set_cons_succ]
        refine stand_take (i := 3) (v := ?_) rfl (by kernel_rfl) (by kernel_rfl) (by kernel_rfl) (by rfl) (fun _ _ _ h => h) (by decide) (by decide) (by rfl) ?_ ?_
        rotate_left
        · (intro w; go_simp; try with_reducible rfl)
        dsimp only [List.set_cons_zero, List.set_cons_succ]
        refine stand_take (i := 4) (v := ?_) rfl (by kernel_rfl) (by kernel_rfl) (by kernel_rfl) (by rfl) (fun _ _ _ h => h) (by decide) (by decide) (by rfl) ?_ ?_
        rotate_left
        · (intro w; go_simp; try with_reducible rfl)
        dsimp only [List.set_cons_zero, List.set_cons_succ]
        refine stand_take (i := 5) (v := ?_) rfl (by kernel_rfl) (by kernel_rfl) (by kernel_rfl) (by rfl) (fun _ _ _ h => h) (by decide) (by decide) (by rfl) ?_ ?_
        rotate_left
        · (intro w; go_simp; try with_reducible rfl)
        dsimp only [List.set_cons_zero, List.set_cons_succ]
        refine stand_take (i := 6) (v := ?_) rfl (by kernel_rfl) (by kernel_rfl) (by kernel_rfl) (by rfl) (fun _ _ _ h => h) (by decide) (by decide) (by rfl) ?_ ?_
        rotate_left
        · (intro w; go_simp; try with_reducible rfl)
        dsimp only [List.set_cons_zero, List.set_cons_succ]
        refine stand_load3 (i := 7) (v := ?_) rfl (by kernel_rfl) (by kernel_rfl) (by kernel_rfl) (by rfl) (fun _ _ _ h => h) (by decide) (by decide) (by kernel_rfl) (by rfl) ?_ ?_
        rotate_left
        · (intro w hA; (try dsimp only at hA); go_simp; try with_reducible rfl)
        dsimp only [List.set_cons_zero, List.set_cons_succ]
        refine stand_load3 (i := 9) (v := ?_) rfl (by kernel_rfl) (by kernel_rfl) (by kernel_rfl) (by rfl) (fun _ _ _ h => h) (by decide) (by decide) (by kernel_rfl) (by rfl) ?_ ?_
        rotate_left
        · (intro w hA; (try dsimp only at hA); go_simp; try with_reducible rfl)
        dsimp only [List.set_cons_zero, List.set_cons_succ]
        refine stand_take (i := 10) (v := ?_) rfl (by kernel_rfl) (by kernel_rfl) (by kernel_rfl) (by rfl) (fun _ _ _ h => h) (by decide) (by decide) (by rfl) ?_ ?_
        rotate_left
        · (intro w; go_simp; try with_reducible rfl)
        dsimp only [List.set_cons_zero, List.set_cons_succ]
        refine stand_load3 (i := 11) (v := ?_) rfl (by kernel_rfl) (by kernel_rfl) (by kernel_rfl) (by rfl) (fun _ _ _ h => h) (by decide) (by decide) (by kernel_rfl) (by rfl) ?_ ?_
        rotate_left
        · (intro w hA; (try dsimp only at hA); go_simp; try with_reducible rfl)
        dsimp only [List.set_cons_zero, List.set_cons_succ]
        refine stand_step (i := 8) (by kernel_rfl) rfl (fun K hK => ?_)
        go_simp
        refine (live_at x2 U2.out.inn.pool U2.out.good HLV.out).mono ?_
        rintro e x3 ⟨rfl, rfl⟩
        refine hK.out _ _ (fun _ => ⟨⟨U2.out.box.d0, U2.out.box.d1, U2.out.box.d2, U2.out.box.d3, U2.out.box.d4⟩, VX2.out⟩) (fun _ => trivial) ?_
        clear hK K
        try simp only [put_laid, List.set_cons_zero, List.set_cons_succ]
        refine stand_step (i := 12) (by kernel_rfl) rfl (fun K hK => ?_)
        go_simp
        refine (rlive_at x2 U2.out.rs U2.out.good U2.out.nm HLV.out).mono ?_
        rintro e x3 ⟨rfl, t3⟩
        have U3 := Lib.hid (U2.out.new t3)
        have VX3 := Lib.hid (t3.cell (p := ⟨BB, 2, none⟩) id VX2.out)
        clear t3
        refine hK.out _ _ (fun _ => ⟨⟨U3.out.box.d0, U3.out.box.d1, U3.out.box.d2, U3.out.box.d3, U3.out.box.d4⟩, VX3.out⟩) (fun _ => trivial) ?_
        clear hK K
        try simp only [put_laid, List.set_cons_zero, List.set_cons_succ]
        refine stand_take (i := 13) (v := ?_) rfl (by kernel_rfl) (by kernel_rfl) (by kernel_rfl) (by rfl) (fun _ _ _ h => h) (by decide) (by decide) (by rfl) ?_ ?_
        rotate_left
        · (intro w; go_simp; try with_reducible rfl)
        dsimp only [List.set_cons_zero, List.set_cons_succ]
        refine stand_take (i := 14) (v := ?_) rfl (by kernel_rfl) (by kernel_rfl) (by kernel_rfl) (by rfl) (fun _ _ _ h => h) (by decide) (by decide) (by rfl) ?_ ?_
        rotate_left
        · (intro w; go_simp; try with_reducible rfl)
        dsimp only [List.set_cons_zero, List.set_cons_succ]
        refine stand_done (by kernel_rfl) ?_
        go_wp2_with fail
        go_roundw
        case rel => exact ⟨k + 1, s, R, ca, ma, cc, nm, mc, by omega, by go_num, U3⟩
        case measure => simp [intOf]; omega
    · go_wp2_with fail
      go_ret
      exact ⟨rfl, HU.out.inn.t⟩

end Go.Proofs.Ytmjenbkhmhpleaa
