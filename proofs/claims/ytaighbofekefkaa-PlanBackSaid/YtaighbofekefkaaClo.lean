/- Clone: the same plan in new memory. -/
import Derived.Test.YtaighbofekefkaaAnyF
import Derived.Test.YtaighbofekefkaaDec
namespace Go.Proofs.Ytaighbofekefkaa
open Go.RowKit
set_option linter.unusedVariables false

/-- The answer's row: n slices, the first g of them lists of ops as they are to be. -/
structure AllR (w wx : World) (rb n : Nat) (V : List Sl) : Prop where
  own : wx.ownsRow w.heap.size 42 1 (.slice (some ⟨rb, 0, none⟩) n n) n (flat encSV V)
  t : Turn (fun _ => False) w wx
section
variable {w wx w' : World} {rb n g : Nat} {V : List Sl} {S : Nat → Prop} {x y : Sl}
theorem AllR.len (h : AllR w wx rb n V) : V.length = n := own_len encSV_ok (by decide) h.own
theorem AllR.low (h : AllR w wx rb n V) : w.heap.size ≤ rb ∧ rb < wx.heap.size := h.own.lt rb (by rw [own_block]; rfl)
theorem AllR.turn (h : AllR w wx rb n V) (t : Turn S wx w') (h1 : ¬ S rb) (h2 : ∀ i, S i → w.heap.size ≤ i) : AllR w w' rb n V :=
  ⟨own_turn h.own t (fun k hk => by rw [own_block] at hk; obtain rfl := Option.some.inj hk; exact h1), h.t.and t (fun i hi e => by have := h2 i e; omega)⟩
theorem AllR.new (h : AllR w wx rb n V) (t : Turn (fun _ => False) wx w') : AllR w w' rb n V := h.turn t id (fun _ e => e.elim)
theorem AllR.cells (h : AllR w wx rb n V) (hx : V[g]? = some x) : wx.cell? ⟨rb, g, none⟩ = some x.val ∧ wx.frozen? ⟨rb, g, none⟩ = false := by
  have := own_at encSV_ok h.own hx (i := 0) (u := x.val) rfl
  rwa [Nat.mul_one, Nat.add_zero] at this
theorem AllR.put (h : AllR w wx rb n V) (hx : V[g]? = some x) (y : Sl) : AllR w (wx.setCell ⟨rb, g, none⟩ y.val) rb n (V.set g y) := by
  have := own_set encSV_ok h.own hx (i := 0) (by decide) (u := y.val) (y := y) rfl rfl
  rw [Nat.mul_one, Nat.add_zero] at this
  exact ⟨this, h.t.and (set_turn wx rb g y.val) (fun i hi e => by have := h.low; omega)⟩
theorem AllR.apart {e : TypeId} (h : AllR w wx rb n V) (hne : 42 ≠ e) : Apart wx e (fun i => i = rb) := fun i _ hi => by
  subst hi
  obtain ⟨cur, hc⟩ := own_type h.own i (by rw [own_block]; rfl)
  exact ⟨cur, 42, hne, hc⟩
theorem flat_nils : ∀ n : Nat, flat encSV (List.replicate n (⟨none, 0, 0⟩ : Sl)) = List.replicate n (.slice none 0 0)
  | 0 => rfl
  | n + 1 => by
    rw [List.replicate_succ, flat_cons, List.replicate_succ, flat_nils n]
    rfl
theorem all_made {wx : World} (h : Zeros wx w.heap.size n (.slice none 0 0) 42) (t : Turn (fun _ => False) w wx) (hn : n ≤ 1000000) : AllR w wx w.heap.size n (List.replicate n ⟨none, 0, 0⟩) := by
  refine ⟨⟨by rw [flat_length encSV_ok, List.length_replicate], .inr ⟨w.heap.size, n, _, rfl, Nat.le_refl _, h, Nat.le_refl _, by unfold maxLen; omega, by simp, ?_⟩⟩, t⟩
  rw [Nat.mul_one, flat_nils]
  exact List.take_of_length_le (by simp)
end

set_option maxRecDepth 100000 in
set_option maxHeartbeats 4000000 in
theorem clone_any {s : Sl} {n : Nat} {p : List (List Opr)} (w : World) (hP : BPlan w 45 29 s p) (hn : p.length = n) (hm : MildP p) : Calls Try.prog 20 #[.slice s.ao n s.cap] w fun e w' => ∃ c : Sl, e = .returned c.val ∧ RPlan w' c p ∧ Turn (fun _ => False) w w' := by
  obtain ⟨aoS, lenS, cS⟩ := s
  have HP := Lib.hid hP
  have HN := Lib.hid hn
  have HM := Lib.hid hm
  have hm : n ≤ 1000000 := hn ▸ hm.1
  clear hP hn
  dsimp only
  go_enter Try.func20, Try.ntmps20
  go_upto_region 3 with (at_make; refine wpList_make_zeros (z := .slice none 0 0) rfl Try.underlying32 info_ops (by decide) rfl (.tmp 9) (.tmp 9) rfl n rfl rfl hm ?_; intro w1 hz t1)
  have A0 := Lib.hid (all_made hz.out t1.out hm)
  clear hz t1
  obtain ⟨rb, hrb⟩ : ∃ b, w.heap.size = b := ⟨_, rfl⟩
  rw [hrb] at A0 ⊢
  clear hrb
  go_loopw [13] (fun s13 wr => ∃ (g : Nat) (V : List Sl), g ≤ n ∧ s13 = .int .i64 g ∧ Hid (AllR w wr rb n V) ∧ Hid (∀ (j : Nat) x l, j < g → V[j]? = some x → p[j]? = some l → BOps wr 45 29 x l)) (fun s13 _ => n - (intOf s13).toNat)
  case atStart => exact ⟨0, _, Nat.zero_le _, rfl, A0, Lib.hid fun j x l hj => absurd hj (Nat.not_lt_zero _)⟩
  case round =>
    clear A0
    obtain ⟨g, V, hg, rfl, A, HV⟩ := hrel
    by_cases hlt : g < n
    · obtain ⟨l, hl⟩ : ∃ x, p[g]? = some x := ⟨_, List.getElem?_eq_getElem (by rw [HN.out]; exact hlt)⟩
      obtain ⟨x0, hx0⟩ : ∃ x, V[g]? = some x := ⟨_, List.getElem?_eq_getElem (by rw [A.out.len]; exact hlt)⟩
      obtain ⟨a, y, ha, hr, hc⟩ := HP.out.at hl
      dsimp only at ha
      subst ha
      obtain ⟨ao', len', cap'⟩ := y
      have hl' : l.length = len' := hr.ok.len.symm
      have hnil : ao' = none → cap' = 0 := hr.ok.nil
      obtain ⟨R, hR1, hR2, hR3⟩ := hr.has
      dsimp only at hR2
      have hc := A.out.t.cell id hc
      have hml := (HM.out.at hl).1
      rw [hl'] at hml hR1
      have HL := Lib.hid hl
      have HX0 := Lib.hid hx0
      have HL' := Lib.hid hl'
      have HR1 := Lib.hid hR1
      have HR2 := Lib.hid hR2
      have HR3 := Lib.hid hR3
      have HNIL := Lib.hid hnil
      have HNL := Lib.hid (Nat.zero_add len')
      unfold Sl.val at hc
      dsimp only at hc
      obtain ⟨z0, y0⟩ := A.out.cells hx0
      clear hl hx0 hr hl' hR1 hR2 hR3 hnil
      go_upto_region 5 with fail
      go_upto_region 6 with (at_builtin; refine wpList_append_flat_any encOV_ok (by decide) Try.underlying42 info_op rfl (by decide) rfl (.const (.slice none 0 0)) (.tmp 20) rfl wr.heap.size (.slice none 0 0) [] 0 rfl own_nil ao' R len' cap' HR1.out rfl HNIL.out (HR2.out.new A.out.t) len' HNL.out hml (Nat.le_refl _) ?_; intro v3 w3 h3 t3 b3; have t3' := t3.out.mono (S' := fun _ => False) (fun _ _ e => by cases e); have A3 := Lib.hid (A.out.new t3'); obtain ⟨ao3, c3, rfl, q1, q2, q3, q4⟩ := own_slice h3.out; clear z0 y0; obtain ⟨z0, y0⟩ := A3.out.cells HX0.out)
      have A4 := Lib.hid (A3.out.put HX0.out ⟨ao3, len', c3⟩)
      have hcb0 : ∀ j, (Value.slice ao3 len' c3).ownBlock = some j → wr.heap.size ≤ j ∧ j < w3.heap.size := h3.out.lt
      have hrbl := A.out.low
      have O4 := Lib.hid (own_turn h3.out (set_turn w3 rb g (.slice ao3 len' c3)) (fun j hj e => by have := (hcb0 j hj).1; omega))
      have T4 := Lib.hid (show Turn (fun j => j = rb) wr (w3.setCell ⟨rb, g, none⟩ (.slice ao3 len' c3)) from (t3'.mono (fun _ _ e => e.elim)).trans (set_turn w3 rb g (.slice ao3 len' c3)))
      have B4 := Lib.hid (show ∀ (j : Nat) r o, R[j]? = some r → l[j]? = some o → BOp (w3.setCell ⟨rb, g, none⟩ (.slice ao3 len' c3)) 45 r o from fun j r o hr ho => ((HR3.out j r o hr ho).new A.out.t).apart T4.out (A.out.apart (by decide)))
      have A4 : Hid (AllR w (w3.setCell ⟨rb, g, none⟩ (.slice ao3 len' c3)) rb n (V.set g ⟨ao3, len', c3⟩)) := A4
      clear h3 t3 b3 t3' A3 q1 q4 z0 y0 hc hcb0
      generalize w3.setCell ⟨rb, g, none⟩ (.slice ao3 len' c3) = w4 at A4 O4 T4 B4 ⊢
      go_upto_region 7 with fail
      generalize hwg : wr = wg at A HV T4 O4 hrbl ⊢
      clear hwg
      go_loopw [25] (fun s25 wx => ∃ (i : Nat) (R' : List OpV), i ≤ len' ∧ s25 = .int .i64 i ∧ Hid (AllR w wx rb n (V.set g ⟨ao3, len', c3⟩)) ∧ Hid (Turn (fun j => j = rb) wg wx) ∧ Hid (wx.ownsRow wg.heap.size 29 6 (.slice ao3 len' c3) len' (flat encOV R')) ∧ Hid (∀ (j : Nat) r o, R'[j]? = some r → l[j]? = some o → BOp wx 45 r o)) (fun s25 _ => len' - (intOf s25).toNat)
      case atStart => exact ⟨0, R, Nat.zero_le _, rfl, A4, T4, O4, B4⟩
      case round =>
        clear A4 T4 O4 B4
        obtain ⟨i, R', hi, rfl, AX, TX, OX, BX⟩ := hrel
        by_cases hlt2 : i < len'
        · obtain ⟨o, ho⟩ : ∃ x, l[i]? = some x := ⟨_, List.getElem?_eq_getElem (by rw [HL'.out]; exact hlt2)⟩
          obtain ⟨r0, hr0⟩ : ∃ x, R[i]? = some x := ⟨_, List.getElem?_eq_getElem (by rw [HR1.out]; exact hlt2)⟩
          obtain ⟨r1, hr1⟩ : ∃ x, R'[i]? = some x := ⟨_, List.getElem?_eq_getElem (by rw [own_len encOV_ok (by decide) OX.out]; exact hlt2)⟩
          obtain ⟨cb, ccap, hcbe, hcb1, _⟩ := own_form OX.out (by omega)
          cases hcbe
          have hcb2 := (OX.out.lt cb (by rw [own_block]; rfl)).2
          obtain ⟨a', rfl, hc⟩ := (HR2.out.new AX.out.t) i r0 hr0
          have BO := Lib.hid ((HR3.out i r0 o hr0 ho).new AX.out.t)
          obtain ⟨kind, ch, nn, v, ⟨ao2, len2, cap2⟩, els⟩ := r0
          obtain ⟨c0, c1, c2, c3', c4, c5⟩ := cells6 hc
          unfold Sl.val at c4
          dsimp only at c0 c1 c2 c3' c4 c5
          have hml2 := (HM.out.at HL.out).at ho
          have hle2 : len2 = o.cases.length := BO.out.rd.cs.ok.len
          rw [← hle2] at hml2
          have HLE := Lib.hid hle2.symm
          have HCN := Lib.hid (show ao2 = none → cap2 = 0 from BO.out.rd.cs.ok.nil)
          have HRO := Lib.hid hr1
          have HRR := Lib.hid hr0
          have HOO := Lib.hid ho
          clear hc ho hr0 hr1 hle2
          go_upto_region 9 with fail
          have X5 : Hid (Six (wr.alloc (.cells #[.int .i64 kind, .int .i64 ch, .int .i64 nn, .int .i64 v, .slice ao2 len2 cap2, .bool els] 29)) wr.heap.size kind ch nn v (.slice ao2 len2 cap2) els) := Lib.hid (blk_new wr _ 29)
          have TA := (Turn.refl (fun _ => False) wr).alloc (.cells #[.int .i64 kind, .int .i64 ch, .int .i64 nn, .int .i64 v, .slice ao2 len2 cap2, .bool els] 29)
          have AX := Lib.hid (AX.out.new TA)
          have TX := Lib.hid (TX.out.trans (TA.mono (fun _ _ e => e.elim)))
          have OX := Lib.hid (own_turn OX.out TA (fun _ _ => id))
          have BX := Lib.hid (show ∀ (j : Nat) r o, R'[j]? = some r → l[j]? = some o → BOp _ 45 r o from fun j r o hr ho => (BX.out j r o hr ho).new TA)
          have BO := Lib.hid (BO.out.new TA)
          clear TA c0 c1 c2 c3' c4 c5
          generalize wr.heap.size = ob at X5 ⊢
          generalize wr.alloc (.cells #[.int .i64 kind, .int .i64 ch, .int .i64 nn, .int .i64 v, .slice ao2 len2 cap2, .bool els] 29) = wq at X5 AX TX OX BX BO ⊢
          have TD := Lib.hid (Turn.refl (fun _ => False) wq).drew
          have HVG := Lib.hid (show (V.set g ⟨some ⟨cb, 0, none⟩, len', c3⟩)[g]? = some ⟨some ⟨cb, 0, none⟩, len', c3⟩ by
            rw [List.getElem?_set_self (by rw [A.out.len]; exact hlt)])
          have KEEP1 := Lib.hid (show ∀ w', Turn (fun _ => False) wq w' → (w'.cell? ⟨ob, 4, none⟩ = some (.slice ao2 len2 cap2)) from fun w' t => (X5.out.new t).cells.1.2.2.2.2.1)
          have KEEP2 := Lib.hid (show ∀ w', Turn (fun _ => False) wq w' → (w'.cell? ⟨rb, g, none⟩ = some (.slice (some ⟨cb, 0, none⟩) len' c3)) from fun w' t => ((AX.out.new t).cells HVG.out).1)
          refine stand_start (by kernel_rfl) 7 (fun w' => w'.cell? ⟨ob, 4, none⟩ = some (.slice ao2 len2 cap2)) 10 (fun w' => w'.cell? ⟨rb, g, none⟩ = some (.slice (some ⟨cb, 0, none⟩) len' c3)) (KEEP1.out _ TD.out) (KEEP2.out _ TD.out) ?_
          refine stand_take (i := 0) (v := ?_) rfl (by kernel_rfl) (by kernel_rfl) (by kernel_rfl) (by rfl) (fun _ _ _ h => h) (by decide) (by decide) (by rfl) ?_ ?_
          rotate_left
          · (intro w; go_simp; try with_reducible rfl)
          dsimp only [List.set_cons_zero, List.set_cons_succ]
          refine stand_take (i := 1) (v := ?_) rfl (by kernel_rfl) (by kernel_rfl) (by kernel_rfl) (by rfl) (fun _ _ _ h => h) (by decide) (by decide) (by rfl) ?_ ?_
          rotate_left
          · (intro w; go_simp; try with_reducible rfl)
          dsimp only [List.set_cons_zero, List.set_cons_succ]
          refine stand_take (i := 2) (v := ?_) rfl (by kernel_rfl) (by kernel_rfl) (by kernel_rfl) (by rfl) (fun _ _ _ h => h) (by decide) (by decide) (by rfl) ?_ ?_
          rotate_left
          · (intro w; go_simp; try with_reducible rfl)
          dsimp only [List.set_cons_zero, List.set_cons_succ]
          refine stand_load2 (i := 3) (v := ?_) rfl (by kernel_rfl) (by kernel_rfl) (by kernel_rfl) (by rfl) (fun _ _ _ h => h) (by decide) (by decide) (by kernel_rfl) (by rfl) ?_ ?_
          rotate_left
          · (intro w hA; (try dsimp only at hA); go_simp; try with_reducible rfl)
          dsimp only [List.set_cons_zero, List.set_cons_succ]
          refine stand_take (i := 4) (v := ?_) rfl (by kernel_rfl) (by kernel_rfl) (by kernel_rfl) (by rfl) (fun _ _ _ h => h) (by decide) (by decide) (by rfl) ?_ ?_
          rotate_left
          · (intro w; go_simp; try with_reducible rfl)
          dsimp only [List.set_cons_zero, List.set_cons_succ]
          refine stand_take (i := 5) (v := ?_) rfl (by kernel_rfl) (by kernel_rfl) (by kernel_rfl) (by rfl) (fun _ _ _ h => h) (by decide) (by decide) (by rfl) ?_ ?_
          rotate_left
          · (intro w; go_simp; try with_reducible rfl)
          dsimp only [List.set_cons_zero, List.set_cons_succ]
          refine stand_load1 (i := 6) (v := ?_) rfl (by kernel_rfl) (by kernel_rfl) (by kernel_rfl) (by rfl) (fun _ _ _ h => h) (by decide) (by decide) (by kernel_rfl) (by rfl) ?_ ?_
          rotate_left
          · (intro w hA; (try dsimp only at hA); go_simp; try with_reducible rfl)
          dsimp only [List.set_cons_zero, List.set_cons_succ]
          refine stand_step (i := 7) (by kernel_rfl) rfl (fun K hK => ?_)
          refine step_append_flat_any encCV_ok (by decide) Try.underlying27 info_case rfl (by decide) rfl (.const (.slice none 0 0)) (.tmp 36) rfl wq.heap.size (.slice none 0 0) [] 0 rfl own_nil ao2 o.cases len2 cap2 HLE.out rfl HCN.out (BO.out.rd.cs.has.new TD.out) len2 (Nat.zero_add len2) hml2 (Nat.le_refl _) ?_
          intro v7 w7 h7 t7 b7
          have t7' := TD.out.trans (t7.out.mono (S' := fun _ => False) (fun _ _ e => by cases e))
          obtain ⟨ao7, c7, rfl, m1, m2, m3, m4⟩ := own_slice h7.out
          have T7 := Lib.hid t7'
          refine hK.out _ _ (past (by kernel_rfl)) (fun _ => KEEP2.out _ T7.out) ?_
          clear hK K
          try simp only [put_laid, List.set_cons_zero, List.set_cons_succ]
          have A7 := Lib.hid (AX.out.new T7.out)
          have O7 := Lib.hid (own_turn OX.out T7.out (fun _ _ => id))
          have S7 := Lib.hid (own_sl (s := ⟨ao7, len2, c7⟩) (show w7.ownsRow wq.heap.size 45 3 (Sl.val ⟨ao7, len2, c7⟩) len2 (flat encCV ([] ++ o.cases)) from h7.out) rfl)
          have C7 := Lib.hid (Has.of_own encCV_ok (by decide) h7.out)
          have TX7 := Lib.hid (TX.out.trans (T7.out.mono (fun _ _ e => e.elim)))
          have BX7 := Lib.hid (show ∀ (j : Nat) r o, R'[j]? = some r → l[j]? = some o → BOp w7 45 r o from fun j r o hr ho => (BX.out j r o hr ho).new T7.out)
          clear h7 t7 b7 t7' m1 m2 m3 m4 KEEP1 KEEP2 X5 OX AX TX BX
          obtain ⟨e4, f4⟩ := own_at encOV_ok O7.out HRO.out (i := 4) rfl
          refine stand_take (i := 8) (v := ?_) rfl (by kernel_rfl) (by kernel_rfl) (by kernel_rfl) (by rfl) (fun _ _ _ h => h) (by decide) (by decide) (by rfl) ?_ ?_
          rotate_left
          · (intro w; go_simp; try with_reducible rfl)
          dsimp only [List.set_cons_zero, List.set_cons_succ]
          refine stand_take (i := 9) (v := ?_) rfl (by kernel_rfl) (by kernel_rfl) (by kernel_rfl) (by rfl) (fun _ _ _ h => h) (by decide) (by decide) (by rfl) ?_ ?_
          rotate_left
          · (intro w; go_simp; try with_reducible rfl)
          dsimp only [List.set_cons_zero, List.set_cons_succ]
          refine stand_step (i := 10) (by kernel_rfl) rfl (fun K hK => ?_)
          go_simp
          have hcbl := (O7.out.lt cb (by rw [own_block]; rfl)).1
          have ST := set_turn w7 cb (i * 6 + 4) (.slice ao7 len2 c7)
          have AP : Apart w7 45 (fun j => j = cb) := fun j _ hj => by
            subst hj
            obtain ⟨cur, hcur⟩ := own_type O7.out j (by rw [own_block]; rfl)
            exact ⟨cur, 29, by decide, hcur⟩
          have O8 := Lib.hid (own_set encOV_ok O7.out HRO.out (i := 4) (by decide) (u := .slice ao7 len2 c7) (y := { r1 with cs := ⟨ao7, len2, c7⟩ }) rfl rfl)
          have A8 := Lib.hid (A7.out.turn ST (by omega) (fun j e => by have := A.out.t.size; omega))
          have TX8 := Lib.hid (TX7.out.and ST (fun j hj e => by omega))
          have BX8 := Lib.hid (show ∀ (j : Nat) r o, (R'.set i { r1 with cs := ⟨ao7, len2, c7⟩ })[j]? = some r → l[j]? = some o → BOp (w7.setCell ⟨cb, i * 6 + 4, none⟩ (.slice ao7 len2 c7)) 45 r o from fun j r o' hr ho => by
            refine BOp.apart ?_ ST AP
            by_cases e : j = i
            · subst e
              have hlen := (List.getElem?_eq_some_iff.1 HRO.out).1
              rw [List.getElem?_set_self hlen] at hr
              obtain rfl := Option.some.inj hr
              rw [HOO.out] at ho
              obtain rfl := Option.some.inj ho
              have b := BX7.out j r1 o HRO.out HOO.out
              exact ⟨⟨b.rd.kind, b.rd.ch, b.rd.n, b.rd.v, b.rd.els, ⟨by rw [HLE.out]; exact S7.out.1, C7.out⟩⟩, S7.out.2⟩
            · rw [List.getElem?_set_ne (fun e' => e e'.symm)] at hr
              exact BX7.out j r o' hr ho)
          refine hK.out _ _ (past (by kernel_rfl)) (past (by kernel_rfl)) ?_
          clear hK K
          try simp only [put_laid, List.set_cons_zero, List.set_cons_succ]
          clear e4 f4 ST AP O7 A7 TX7 BX7
          generalize w7.setCell ⟨cb, i * 6 + 4, none⟩ (.slice ao7 len2 c7) = w8 at O8 A8 TX8 BX8 ⊢
          refine stand_done (by kernel_rfl) ?_
          go_wp2_with fail
          go_roundw
          case rel => exact ⟨i + 1, _, by omega, by go_num, A8, TX8, O8, BX8⟩
          case measure => simp [intOf]; omega
        · have hin : i = len' := by omega
          have HLR := Lib.hid (own_len encOV_ok (by decide) OX.out)
          have GO := Lib.hid ((GOps.mk (base := wg.heap.size) (s := ⟨ao3, len', c3⟩) HL'.out.symm ⟨R', by rw [HLR.out, HL'.out], by rw [HL'.out]; exact OX.out, BX.out⟩ : GOps wr 45 29 wg.heap.size ⟨ao3, len', c3⟩ l).done)
          have HV2 := Lib.hid (show ∀ (j : Nat) x q, j < g + 1 → (V.set g ⟨ao3, len', c3⟩)[j]? = some x → p[j]? = some q → BOps wr 45 29 x q from fun j x q hj hx hq => by
            by_cases e : j = g
            · subst e
              rw [List.getElem?_set_self (by rw [A.out.len]; exact hlt)] at hx
              obtain rfl := Option.some.inj hx
              rw [HL.out] at hq
              obtain rfl := Option.some.inj hq
              exact GO.out
            · rw [List.getElem?_set_ne (fun e' => e e'.symm)] at hx
              exact (HV.out j x q (by omega) hx hq).apart TX.out (A.out.apart (by decide)) (A.out.apart (by decide)))
          clear hin
          go_wp2_with fail
          go_roundw
          case rel => exact ⟨g + 1, _, by omega, by go_num, AX, HV2⟩
          case measure => simp [intOf]; omega
    · have hgn : g = n := by omega
      go_wp2_with fail
      go_ret
      have hl := A.out.len
      refine ⟨⟨some ⟨rb, 0, none⟩, n, n⟩, rfl, ⟨⟨HN.out.symm, Nat.le_refl _, by show n ≤ maxLen; unfold maxLen; omega, fun e => by cases e⟩, V, by rw [hl, HN.out], Has.of_own encSV_ok (by decide) A.out.own, fun j x l hx hl' => (HV.out j x l ?_ hx hl').reads⟩, A.out.t⟩
      have := (List.getElem?_eq_some_iff.1 hx).1
      omega

end Go.Proofs.Ytaighbofekefkaa
