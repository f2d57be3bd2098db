/- The contract of Draws. -/
import Derived.Test.YtlnjomjeafmobaaIsOrd
namespace Go.Proofs.Ytlnjomjeafmobaa
open Go.RowKit
set_option linter.unusedVariables false

/-- copy over a row of just as many. -/
theorem wpList_copy_ints {w : World} {ops : Array Oper} {rest : List Oper} {o : Oper} {a : Act} {Q : Exit → Act → World → Prop} (hgd : o.guard = none) (d s : Operand)
    (ho : o.op = .call { callee := .builtin .copy, args := #[d, s], argTypes := #[22, 22] }) (g : Nat) (ao : Option Addr) (cap dc : Nat) (C L : List Int) (hd : a.eval d = .slice (some ⟨g, 0, none⟩) L.length dc) (hs : a.eval s = .slice ao L.length cap)
    (hrow : Row w g C) (hlen : C.length = L.length) (hr : Ints .i64 w ao L) (S : Nat → Prop) (w0 : World) (t : Turn S w0 w) (hS : S g ∨ w0.heap.size ≤ g)
    (h : ∀ w', Hid (Row w' g L) → Hid (Turn (fun i => i = g) w w') → Hid (Turn S w0 w') → wpList Try.prog ops Q rest (a.put o.dst (goInt L.length)) w') : wpList Try.prog ops Q (o :: rest) a w := by
  by_cases h0 : L.length = 0
  · have hL : L = [] := List.eq_nil_of_length_eq_zero h0
    have hC : C = [] := List.eq_nil_of_length_eq_zero (by omega)
    subst hL
    subst hC
    refine wpList_copy_nothing hgd d s 22 22 ho 3 Try.underlying22 size_int _ _ 0 _ 0 _ hd hs (by simp) ?_
    exact h w hrow (Turn.refl _ _) t
  · obtain ⟨ad, e, _⟩ := hr 0 (by omega)
    subst e
    refine wpList_copy_own hgd d s 22 22 ho 3 Try.underlying22 size_int g 0 _ _ ad _ _ hd hs (C.map (Value.int .i64)).toArray 3 hrow (L.map (Value.int .i64)) (by simp) ?_ (by simp [hlen]) (by simp [Value.oneCell']) ?_
    · intro j v hv
      rw [List.getElem?_map] at hv
      obtain ⟨x, hx, rfl⟩ := Option.map_eq_some_iff.1 hv
      obtain ⟨hj, hx'⟩ := List.getElem?_eq_some_iff.1 hx
      obtain ⟨a', e', hc⟩ := hr j hj
      cases e'
      rw [hc]
      simp [List.getD, hx]
    · have e : (((C.map (Value.int .i64)).toArray.toList.take 0) ++ (L.map (Value.int .i64) ++ (C.map (Value.int .i64)).toArray.toList.drop (0 + (L.map (Value.int .i64)).length))) = L.map (Value.int .i64) := by
        simp [← hlen]
      rw [e, List.length_map]
      have t2 : Turn (fun i => i = g) w (w.setRow g (L.map (Value.int .i64)).toArray) := ⟨rfl, rfl, rfl, by simp [World.setRow], fun k hk hn => setRow_other w g k _ hn⟩
      exact h _ (setRow_heap w g _ _ 3 _ hrow) t2 (t.and t2 (fun i hi e => by
        subst e
        rcases hS with h | h
        · exact h
        · omega))

/-- What Draws answers. -/
def DrawsPost (L : List Int) (w : World) (e : Ending) (w' : World) : Prop :=
  (IsOrd L ∧ ∃ v, e = .returned (.tuple #[v, .bool true]) ∧ Fresh w w' v (drs L.length L)) ∨ (¬ IsOrd L ∧ e = .returned (.tuple #[.slice none 0 0, .bool false]) ∧ Turn (fun _ => False) w w')

set_option maxHeartbeats 2000000 in
theorem draws_any {ao : Option Addr} {cap : Nat} {L : List Int} (w : World) (hr : Ints .i64 w ao L) (hl : L.length ≤ 1000) :
    Calls Try.prog 9 #[.slice ao L.length cap] w (DrawsPost L w) := by
  have HR := Lib.hid hr
  clear hr
  go_enter Try.func9, Try.ntmps9
  go_wp2_with fail
  refine (places_any w HR.out hl).mono ?_
  rintro e w1 ⟨t1, h⟩
  have T1 := Lib.hid t1
  clear t1
  rcases h with ⟨ho, ga, A, rfl, hga, hrow, hh⟩ | ⟨ho, rfl⟩
  · have HO := Lib.hid ho
    have HA1 := Lib.hid hrow
    have hgl := hrow.lt
    have HH := Lib.hid hh
    clear ho hrow hh
    have hs1 := T1.out.size
    go_wp2_with (first
      | (with_reducible refine wpList_make_ints rfl (.tmp 19) (.tmp 19) rfl L.length rfl rfl (by omega) ?_; intro w2 R2 T2 hs2; have hgd2 : w1.heap.size < w2.heap.size := hs2)
      | (with_reducible refine wpList_make_ints rfl (.tmp 25) (.tmp 25) rfl L.length rfl rfl (by omega) ?_; intro w4 R4 T4 hs4)
      | (with_reducible refine wpList_copy_ints rfl (.tmp 21) (.tmp 22) rfl w1.heap.size ao cap L.length (List.replicate L.length 0) L rfl rfl R2.out (by simp) ((HR.out.turn T1.out (fun _ _ => id)).turn T2.out (fun _ _ => id)) (fun _ => False) w (T1.out.trans T2.out) (Or.inr hs1) ?_; intro w3 R3 U3 T3))
    have T5 := Lib.hid (T3.out.trans T4.out)
    have S5 := Lib.hid (St.start HH.out (List.replicate L.length 0) (by simp))
    have hne : w1.heap.size ≠ w3.heap.size := by have := U3.out.size; omega
    have hne2 : w3.heap.size ≠ ga := by have := U3.out.size; omega
    have hne3 : w1.heap.size ≠ ga := by omega
    have A5 : Hid (Row w4 ga A) := Lib.hid (((HA1.out.turn T2.out id).turn U3.out (fun e => by omega)).turn T4.out id)
    have R5 : Hid (Row w4 w1.heap.size L) := Lib.hid (R3.out.turn T4.out id)
    have hgr : w.heap.size ≤ w1.heap.size := hs1
    have hgd : w.heap.size ≤ w3.heap.size := by have := U3.out.size; omega
    obtain ⟨gr, hgr'⟩ : ∃ g, g = w1.heap.size := ⟨_, rfl⟩
    obtain ⟨gd, hgd'⟩ : ∃ g, g = w3.heap.size := ⟨_, rfl⟩
    rw [← hgr'] at hne hne3 R5 hgr ⊢
    rw [← hgd'] at hne hne2 R4 hgd ⊢
    clear hgr' hgd' U3 R2 R3 T2 T3 T4 HH HA1 hs1 hgl hgd2 hs2 hs4
    go_loopw [29] (fun i wr => ∃ b : Nat, ∃ C A R D, b ≤ L.length ∧ i = .int .i64 b ∧ St L b C A R D ∧ Row wr ga A ∧ Row wr gr R ∧ Row wr gd D ∧ Turn (fun _ => False) w wr) (fun i _ => L.length - (intOf i).toNat)
    case atStart => exact ⟨0, L, A, L, _, Nat.zero_le _, rfl, S5.out, A5.out, R5.out, R4.out, T5.out⟩
    case round =>
      obtain ⟨b, C, A, R, D, hb, rfl, hst, hra, hrr, hrd, ht⟩ := hrel
      clear T5 S5 A5 R5 R4 T1
      have ST := Lib.hid hst
      have RA := Lib.hid hra
      have RR := Lib.hid hrr
      have RD := Lib.hid hrd
      have HT := Lib.hid ht
      have hal := hst.alen
      have hrl := hst.rlen
      have hdl := hst.dlen
      clear hst hra hrr hrd ht
      by_cases hlt : b < L.length
      · have hm : L.length - b = (L.length - 1 - b) + 1 := by omega
        obtain ⟨l1, l2, l3, l4⟩ := ST.out.last hm
        have SN := Lib.hid (ST.out.next hm)
        have HB : Hid (L.length - (b + 1) < L.length - b) := Lib.hid (by omega)
        clear hm
        have c0 := RA.out.cell (i := L.length - 1 - b) (by omega)
        have c1 := RD.out.cell (i := L.length - 1 - b) (by omega)
        have c2 := RR.out.cell (i := L.length - 1 - b) (by omega)
        rw [show A.getD (L.length - 1 - b) 0 = (pos C : Int) from l1] at c0
        rw [show R.getD (L.length - 1 - b) 0 = gt R (L.length - 1 - b) from rfl] at c2
        obtain ⟨mv, hmv⟩ : ∃ mv : Nat, gt R (L.length - 1 - b) = (mv : Int) := ⟨(gt R (L.length - 1 - b)).toNat, by omega⟩
        rw [hmv] at c2 SN l3 l4
        rw [Int.toNat_natCast] at SN
        obtain ⟨k, hk⟩ : ∃ k, k = pos C := ⟨_, rfl⟩
        rw [← hk] at c0 SN l2
        obtain ⟨y1, hy1⟩ : ∃ y1, y1 = D.getD (L.length - 1 - b) 0 := ⟨_, rfl⟩
        rw [← hy1] at c1
        have fd := RD.out.frozen (L.length - 1 - b)
        have RD1 := Lib.hid (RD.out.set (L.length - 1 - b) (k : Int))
        have RA1 := Lib.hid (RA.out.far (p := ⟨gd, L.length - 1 - b, none⟩) (Ne.symm hne2) (.int .i64 (k : Int)))
        have RR1 := Lib.hid (RR.out.far (p := ⟨gd, L.length - 1 - b, none⟩) hne (.int .i64 (k : Int)))
        have c3 := RA1.out.cell (i := L.length - 1 - b) (by omega)
        rw [show A.getD (L.length - 1 - b) 0 = (pos C : Int) from l1, ← hk] at c3
        have c4 := RR1.out.cell (i := L.length - 1 - b) (by omega)
        rw [show R.getD (L.length - 1 - b) 0 = (mv : Int) from hmv] at c4
        have c5 := RR1.out.cell (i := k) (by omega)
        have f5 := RR1.out.frozen k
        obtain ⟨y5, hy5⟩ : ∃ y5, y5 = R.getD k 0 := ⟨_, rfl⟩
        rw [← hy5] at c5
        have RD2 := Lib.hid (RD1.out.far (p := ⟨gr, k, none⟩) (Ne.symm hne) (.int .i64 (mv : Int)))
        have RA2 := Lib.hid (RA1.out.far (p := ⟨gr, k, none⟩) (Ne.symm hne3) (.int .i64 (mv : Int)))
        have RR2 := Lib.hid (RR1.out.set k (mv : Int))
        have c6 := RA2.out.cell (i := L.length - 1 - b) (by omega)
        rw [show A.getD (L.length - 1 - b) 0 = (pos C : Int) from l1, ← hk] at c6
        have c7 := RA2.out.cell (i := mv) (by omega)
        have f7 := RA2.out.frozen mv
        obtain ⟨y7, hy7⟩ : ∃ y7, y7 = A.getD mv 0 := ⟨_, rfl⟩
        rw [← hy7] at c7
        clear l1 hy1 hmv hk hy5 hy7
        go_wp2
        go_roundw
        case rel => exact ⟨b + 1, _, _, _, _, by omega, by go_num, SN.out, RA2.out.set mv k, RR2.out.far (p := ⟨ga, mv, none⟩) hne3 _, RD2.out.far (p := ⟨ga, mv, none⟩) hne2 _, ((HT.out.setCell (Or.inr hgd) _).setCell (Or.inr hgr) _).setCell (Or.inr hga) _⟩
        case measure => simp [intOf]; omega
      · obtain rfl : b = L.length := by omega
        have SA := Lib.hid ST.out.all
        go_wp2
        go_ret2
        refine .inl ⟨HO.out, _, rfl, ?_, HT.out⟩
        have := RD.out.own (base := w.heap.size) hgd (by rw [hdl]; unfold maxLen; omega)
        rw [← SA.out]
        simpa [hdl] using this
  · have HO := Lib.hid ho
    clear ho
    go_wp2
    go_ret2
    exact .inr ⟨HO.out, rfl, T1.out⟩

end Go.Proofs.Ytlnjomjeafmobaa
