/- The document's Give. -/
import Derived.Test.YtmjenbkhmhpleaaRefC
namespace Go.Proofs.Ytmjenbkhmhpleaa
open Go.RowKit
set_option linter.unusedVariables false

theorem TR.swap {w wx : World} {bx rz : Nat} {s : St} {ca ma bo bm : Option Addr} {cc nm0 mc no co nm cm : Nat} {O M : List Int} (h : TR w wx bx rz s ca cc ma nm0 mc bo no co O bm nm cm M) : TR w wx bx rz s ca cc ma nm0 mc bm nm cm M bo no co O :=
  ⟨h.box, h.z, h.mid, h.own, fun k hk e => h.apart k e hk, h.t, h.lo⟩
theorem spilled_M_n (s : St) (g : Nat) : (spilled s g).M s.n = shT (s.M g) (s.M s.n) (spillK s g) := move_j _ _ _ _
theorem spilled_M_g {s : St} {g : Nat} (hg : g < s.n) : (spilled s g).M g = shF (s.M g) (spillK s g) := by
  show moveM s.M g s.n (spillK s g) g = _
  rw [move_i _ _ (by omega)]
theorem mid_withS {s : St} {g : Nat} (hg : g < s.n) (l : List Int) : withM (midS s ((spilled s g).M s.n)) g l = withM (spilled s g) g l := by
  unfold withM midS
  congr 1
  funext j
  show (if j = g then l else if j = s.n then _ else s.M j) = if j = g then l else (spilled s g).M j
  by_cases e : j = g
  · rw [if_pos e, if_pos e]
  · rw [if_neg e, if_neg e]
    by_cases e2 : j = s.n
    · rw [if_pos e2, e2]
    · rw [if_neg e2]
      show s.M j = moveM s.M g s.n (spillK s g) j
      rw [move_k _ _ e e2]

theorem rlive_at {s : St} {ca ma : Option Addr} {cc mc nm : Nat} {D : Nat → Prop} {x : Int} {b : Bool} (w : World) (h : RS w s ca cc ma mc D) (hG : Good s) (hnm : (s.M s.n).length = nm) (hb : liveB s x = b) :
    Calls Try.prog 21 #[.agg #[.int .i64 s.size, .int .i64 s.most, .slice ca s.n cc, .slice ma nm mc, .int .i64 s.fresh], .int .i64 x] w fun e w' => e = .returned (.bool b) ∧ Turn (fun _ => False) w w' := by
  subst hb
  subst hnm
  exact rlive_any x w h hG

theorem rgive_far {s : St} {ca ma : Option Addr} {cc mc : Nat} {g x : Int} {D : Nat → Prop} (w : World) (h : RS w s ca cc ma mc D) (hG : Good s) (hg : g < 0 ∨ (s.n : Int) ≤ g) :
    Calls Try.prog 18 #[ragg s.size s.most ca s.n cc ma (s.M s.n).length mc s.fresh, .int .i64 g, .int .i64 x] w (RPost s none false D w) := by
  have H := Lib.hid h
  have hn8 := hG.n
  obtain ⟨nm, hnm⟩ : ∃ nm, (s.M s.n).length = nm := ⟨_, rfl⟩
  rw [hnm]
  have HNM := Lib.hid hnm
  have HG := Lib.hid hg
  clear h hG hnm hg
  have hcase : g < 0 ∨ (¬ g < 0 ∧ (s.n : Int) ≤ g) := by have := HG.out; omega
  rcases hcase with h0 | ⟨h0, h1⟩
  all_goals
    unfold ragg
    go_enter Try.func18, Try.ntmps18
    go_wp2_with fail
    have TA := Lib.hid ((((Turn.refl (fun _ => False) w).alloc (.cells #[.int .i64 s.size, .int .i64 s.most, .slice ca s.n cc, .slice ma nm mc, .int .i64 s.fresh] 25)).alloc (.cells #[.int .i64 s.size, .int .i64 s.most, .slice ca s.n cc, .slice ma nm mc, .int .i64 s.fresh] 25)))
    have BF := Lib.hid (show RBox ((w.alloc (.cells #[.int .i64 s.size, .int .i64 s.most, .slice ca s.n cc, .slice ma nm mc, .int .i64 s.fresh] 25)).alloc (.cells #[.int .i64 s.size, .int .i64 s.most, .slice ca s.n cc, .slice ma nm mc, .int .i64 s.fresh] 25)) (w.heap.size + 1) s.size s.most ca s.n cc ma nm mc s.fresh from new2' w _ _)
    generalize (w.alloc (.cells #[.int .i64 s.size, .int .i64 s.most, .slice ca s.n cc, .slice ma nm mc, .int .i64 s.fresh] 25)).alloc (.cells #[.int .i64 s.size, .int .i64 s.most, .slice ca s.n cc, .slice ma nm mc, .int .i64 s.fresh] 25) = wf at TA BF ⊢
    have d0 := BF.out.d0
    have d1 := BF.out.d1
    have d2 := BF.out.d2
    have d3 := BF.out.d3
    have d4 := BF.out.d4
    refine bodyPost_ret (v := .tuple #[ragg s.size s.most ca s.n cc ma nm mc s.fresh, .bool false]) (by simp [results, Try.results18, go_sem, ragg, d0, d1, d2, d3, d4]) rfl ⟨ca, cc, ma, mc, by rw [HNM.out], (H.out.new TA.out).mono (fun i e => Or.inl e), TA.out⟩

set_option maxHeartbeats 1000000 in
theorem rgive_dead {s : St} {ca ma : Option Addr} {cc mc g : Nat} {x : Int} {D : Nat → Prop} (w : World) (h : RS w s ca cc ma mc D) (hG : Good s) (hg : g < s.n) (hx : liveB s x = false) :
    Calls Try.prog 18 #[ragg s.size s.most ca s.n cc ma (s.M s.n).length mc s.fresh, .int .i64 g, .int .i64 x] w (RPost s none false D w) := by
  have H := Lib.hid h
  have HG := Lib.hid hG
  have HX := Lib.hid hx
  have hn8 := hG.n
  obtain ⟨nm, hnm⟩ : ∃ nm, (s.M s.n).length = nm := ⟨_, rfl⟩
  rw [hnm]
  have HNM := Lib.hid hnm
  clear h hG hnm hx
  unfold ragg
  go_enter Try.func18, Try.ntmps18
  go_wp2_with fail
  have TA := Lib.hid ((((Turn.refl (fun _ => False) w).alloc (.cells #[.int .i64 s.size, .int .i64 s.most, .slice ca s.n cc, .slice ma nm mc, .int .i64 s.fresh] 25)).alloc (.cells #[.int .i64 0, .int .i64 0, .slice none 0 0, .slice none 0 0, .int .i64 0] 25)))
  have BX := Lib.hid (show RBox ((w.alloc (.cells #[.int .i64 s.size, .int .i64 s.most, .slice ca s.n cc, .slice ma nm mc, .int .i64 s.fresh] 25)).alloc (.cells #[.int .i64 0, .int .i64 0, .slice none 0 0, .slice none 0 0, .int .i64 0] 25)) w.heap.size s.size s.most ca s.n cc ma nm mc s.fresh from new2 w _ _)
  have BZ := Lib.hid (show RBox ((w.alloc (.cells #[.int .i64 s.size, .int .i64 s.most, .slice ca s.n cc, .slice ma nm mc, .int .i64 s.fresh] 25)).alloc (.cells #[.int .i64 0, .int .i64 0, .slice none 0 0, .slice none 0 0, .int .i64 0] 25)) (w.heap.size + 1) 0 0 none 0 0 none 0 0 0 from new2' w _ _)
  refine (rlive_at _ (H.out.new TA.out) HG.out HNM.out HX.out).mono ?_
  rintro e w1 ⟨rfl, t1⟩
  have T1 := Lib.hid (TA.out.trans t1)
  have BX1 := Lib.hid (BX.out.turn t1 id)
  have BZ1 := Lib.hid (BZ.out.turn t1 id)
  clear t1 TA BX BZ
  obtain ⟨bx, hbx⟩ : ∃ bx, bx = w.heap.size := ⟨_, rfl⟩
  obtain ⟨rz, hrz⟩ : ∃ rz, rz = w.heap.size + 1 := ⟨_, rfl⟩
  rw [← hrz] at BZ1 ⊢
  rw [← hbx] at BX1 ⊢
  have HLO := Lib.hid (And.intro hbx hrz)
  clear hbx hrz
  have d0 := BX1.out.d0
  have d1 := BX1.out.d1
  have d2 := BX1.out.d2
  have d3 := BX1.out.d3
  have d4 := BX1.out.d4
  have z0 := BZ1.out.d0
  have z1 := BZ1.out.d1
  have z2 := BZ1.out.d2
  have z3 := BZ1.out.d3
  have z4 := BZ1.out.d4
  have f0 := BZ1.out.fr 0
  have f1 := BZ1.out.fr 1
  have f2 := BZ1.out.fr 2
  have f3 := BZ1.out.fr 3
  have f4 := BZ1.out.fr 4
  go_wp2_with fail
  clear d0 d1 d2 d3 d4 z0 z1 z2 z3 z4 f0 f1 f2 f3 f4
  have TF := Lib.hid (store5_turn w1 rz (.int .i64 s.size) (.int .i64 s.most) (.slice ca s.n cc) (.slice ma nm mc) (.int .i64 s.fresh))
  have BF := Lib.hid (BZ1.out.store (size' := s.size) (most' := s.most) (ca' := ca) (n' := s.n) (cc' := cc) (ma' := ma) (nm' := nm) (mc' := mc) (fresh' := s.fresh))
  generalize ((((w1.setCell ⟨rz, 0, none⟩ (.int .i64 s.size)).setCell ⟨rz, 1, none⟩ (.int .i64 s.most)).setCell ⟨rz, 2, none⟩ (.slice ca s.n cc)).setCell ⟨rz, 3, none⟩ (.slice ma nm mc)).setCell ⟨rz, 4, none⟩ (.int .i64 s.fresh) = wf at TF BF ⊢
  have d0 := BF.out.d0
  have d1 := BF.out.d1
  have d2 := BF.out.d2
  have d3 := BF.out.d3
  have d4 := BF.out.d4
  have TW : Turn (fun _ => False) w wf := T1.out.and TF.out (fun i hi e => by have e' : i = rz := e; have := HLO.out; omega)
  refine bodyPost_ret (v := .tuple #[ragg s.size s.most ca s.n cc ma nm mc s.fresh, .bool false]) (by simp [results, Try.results18, go_sem, ragg, d0, d1, d2, d3, d4]) rfl ⟨ca, cc, ma, mc, by rw [HNM.out], (H.out.new TW).mono (fun i e => Or.inl e), TW⟩

set_option maxRecDepth 100000 in
set_option maxHeartbeats 4000000 in
theorem rgive_yes {s : St} {ca ma : Option Addr} {cc mc g : Nat} {x : Int} {D : Nat → Prop} (w : World) (h : RS w s ca cc ma mc D) (hG : Good s) (hg : g < s.n) (hx : liveB s x = true) (hDb : ∀ i, D i → i < w.heap.size) :
    Calls Try.prog 18 #[ragg s.size s.most ca s.n cc ma (s.M s.n).length mc s.fresh, .int .i64 g, .int .i64 x] w (RPost (giveN s g x) none true D w) := by
  have H := Lib.hid h
  have HG := Lib.hid hG
  have HX := Lib.hid hx
  have hn8 := hG.n
  have hf64 := hG.fresh
  have hs64 := hG.size
  have hm64 := hG.row (Nat.le_refl s.n)
  have hg64 := hG.row (Nat.le_of_lt hg)
  obtain ⟨ad, a0, c0, hca, hcell, hints, hD, hnil, hlc⟩ := h.row g hg
  subst hca
  obtain ⟨nm0, hnm⟩ : ∃ nm, (s.M s.n).length = nm := ⟨_, rfl⟩
  obtain ⟨ng, hng⟩ : ∃ ng, (s.M g).length = ng := ⟨_, rfl⟩
  rw [hnm] at hm64
  rw [hng] at hg64 hcell
  rw [hnm]
  have HNM := Lib.hid hnm
  have HNG := Lib.hid hng
  have HI := Lib.hid hints
  have HNL := Lib.hid hnil
  have HCell := Lib.hid hcell
  have HDB := Lib.hid hDb
  clear h hG hnm hng hints hD hnil hlc hcell hDb hx
  have hgi : (g : Int) < (s.n : Int) := by omega
  have hgi0 : (0 : Int) ≤ (g : Int) := by omega
  unfold ragg
  go_enter Try.func18, Try.ntmps18
  have TA0 := Lib.hid ((((Turn.refl (fun _ => False) w).alloc (.cells #[.int .i64 s.size, .int .i64 s.most, .slice (some ad) s.n cc, .slice ma nm0 mc, .int .i64 s.fresh] 25)).alloc (.cells #[.int .i64 0, .int .i64 0, .slice none 0 0, .slice none 0 0, .int .i64 0] 25)))
  have BX0 := Lib.hid (show RBox ((w.alloc (.cells #[.int .i64 s.size, .int .i64 s.most, .slice (some ad) s.n cc, .slice ma nm0 mc, .int .i64 s.fresh] 25)).alloc (.cells #[.int .i64 0, .int .i64 0, .slice none 0 0, .slice none 0 0, .int .i64 0] 25)) w.heap.size s.size s.most (some ad) s.n cc ma nm0 mc s.fresh from new2 w _ _)
  have BZ0 := Lib.hid (show RBox ((w.alloc (.cells #[.int .i64 s.size, .int .i64 s.most, .slice (some ad) s.n cc, .slice ma nm0 mc, .int .i64 s.fresh] 25)).alloc (.cells #[.int .i64 0, .int .i64 0, .slice none 0 0, .slice none 0 0, .int .i64 0] 25)) (w.heap.size + 1) 0 0 none 0 0 none 0 0 0 from new2' w _ _)
  have HSZ0 := Lib.hid (show w.heap.size + 2 ≤ ((w.alloc (.cells #[.int .i64 s.size, .int .i64 s.most, .slice (some ad) s.n cc, .slice ma nm0 mc, .int .i64 s.fresh] 25)).alloc (.cells #[.int .i64 0, .int .i64 0, .slice none 0 0, .slice none 0 0, .int .i64 0] 25)).heap.size by simp)
  go_wp2_with fail
  refine (rlive_at _ (H.out.new TA0.out) HG.out HNM.out HX.out).mono ?_
  rintro e w1 ⟨rfl, t1⟩
  have TA := Lib.hid (TA0.out.trans t1)
  have BX := Lib.hid (BX0.out.turn t1 id)
  have BZ := Lib.hid (BZ0.out.turn t1 id)
  have HSZ := Lib.hid (Nat.le_trans HSZ0.out t1.size)
  clear t1 TA0 BX0 BZ0 HSZ0
  obtain ⟨bx, hbx⟩ : ∃ bx, bx = w.heap.size := ⟨_, rfl⟩
  obtain ⟨rz, hrz⟩ : ∃ rz, rz = w.heap.size + 1 := ⟨_, rfl⟩
  rw [← hrz] at BZ ⊢
  rw [← hbx] at BX ⊢
  have HLO := Lib.hid (And.intro hbx hrz)
  clear hbx hrz
  go_upto_region 3 with fail
  have TE := Lib.hid ((Turn.refl (fun _ => False) w1).alloc (.cells #[] 3))
  have d2 := (BX.out.turn TE.out id).d2
  have dg := TE.out.cell (p := ad.add g) id (TA.out.cell (p := ad.add g) id HCell.out)
  go_upto_region 4 with (at_builtin; refine wpList_append_ints_at Try.underlying23 info_int (by decide) rfl (.tmp 26) (.tmp 31) rfl (rz + 1) (.slice (some ⟨w1.heap.size, 0, none⟩) 0 0) [] 0 rfl (own_empty (heap_alloc_new w1 _) (by have := HSZ.out; have := HLO.out; omega)) a0 (s.M g) ng c0 HNG.out rfl HNL.out (HI.out.turn (TA.out.trans TE.out) (fun _ _ => id)) (by omega) (by have := HSZ.out; have := HLO.out; simp; omega) ?_; intro v3 w3 O3 T3 B3; rw [Nat.zero_add, List.nil_append] at O3)
  obtain ⟨bo, co, rfl⟩ := slice_own O3.out
  have T31 := Lib.hid (((Turn.refl (fun _ => False) w1).alloc (.cells #[] 3)).and T3.out (fun i hi e => far_new hi e))
  have BX3 := Lib.hid (BX.out.turn T31.out id)
  have BZ3 := Lib.hid (BZ.out.turn T31.out id)
  have TA3 := Lib.hid (TA.out.trans T31.out)
  have HSZ3 := Lib.hid (Nat.le_trans HSZ.out T31.out.size)
  clear d2 dg T3 B3 TE
  have TE := Lib.hid ((Turn.refl (fun _ => False) w3).alloc (.cells #[] 3))
  have d3 := (BX3.out.turn TE.out id).d3
  go_upto_region 5 with (at_builtin; refine wpList_append_ints_at Try.underlying23 info_int (by decide) rfl (.tmp 33) (.tmp 35) rfl (rz + 1) (.slice (some ⟨w3.heap.size, 0, none⟩) 0 0) [] 0 rfl (own_empty (heap_alloc_new w3 _) (by have := HSZ3.out; have := HLO.out; omega)) ma (s.M s.n) nm0 mc HNM.out rfl H.out.midN (H.out.mid.turn (TA3.out.trans TE.out) (fun _ _ => id)) (by omega) (by have := HSZ3.out; have := HLO.out; simp; omega) ?_; intro v5 w5 O5 T5 B5; rw [Nat.zero_add, List.nil_append] at O5)
  obtain ⟨bm, cm, rfl⟩ := slice_own O5.out
  have T53 := Lib.hid (((Turn.refl (fun _ => False) w3).alloc (.cells #[] 3)).and T5.out (fun i hi e => far_new hi e))
  have HTR : Hid (TR w w5 bx rz s (some ad) cc ma nm0 mc bo ng co (s.M g) bm nm0 cm (s.M s.n)) := Lib.hid
    ⟨BX3.out.turn T53.out id, BZ3.out.turn T53.out id, own_turn O3.out T53.out (fun _ _ => id), O5.out, fun k hk e => by
      have h1 := (O3.out.lt k hk).2
      rcases B5.out with e' | e'
      · rw [e'] at e
        exact far_new h1 e
      · rw [e'] at e
        have e2 : (w3.alloc (.cells #[] 3)).heap.size = k := Option.some.inj e
        simp at e2
        omega, TA3.out.trans T53.out, HLO.out⟩
  clear d3 T5 B5 TE O3 O5 BX BZ BX3 BZ3 T31 T53 HCell HI HNL
  obtain ⟨b41, hb41⟩ : ∃ b, ((ng : Int) == (s.most : Int)) = b := ⟨_, rfl⟩
  have d1 := HTR.out.box.d1
  go_upto_if 41 with fail
  have HB41 := Lib.hid hb41
  clear hb41 d1
  go_cut [8, 9] (fun s8 s9 wx => ∃ (no co nm cm : Nat) (bo bm : Option Addr), s8 = .slice bo no co ∧ s9 = .slice bm nm cm ∧ Hid (TR w wx bx rz s (some ad) cc ma nm0 mc bo no co ((spilled s g).M g) bm nm cm ((spilled s g).M s.n)))
  case first =>
    by_cases he : (s.M g).length = s.most
    · have hn0 : ng = s.most := by rw [← HNG.out]; exact he
      have h0 : ((ng : Int) == (s.most : Int)) = true := by rw [beq_iff_eq]; omega
      obtain rfl : b41 = true := by rw [← HB41.out]; exact h0
      obtain ⟨hf, hhf⟩ : ∃ hf, s.most / 2 = hf := ⟨_, rfl⟩
      have hm16 := HG.out.most
      have hf8 : hf ≤ 8 := by omega
      have hfe : (s.most : Int) / 2 = (hf : Int) := by omega
      have HFE := Lib.hid hfe
      obtain ⟨K, hK⟩ : ∃ K, K = spillK s g := ⟨_, rfl⟩
      have HK := Lib.hid hK
      have HK2 := Lib.hid (show K + hf = ng by rw [hK, hn0]; unfold spillK; rw [if_pos he, hhf]; omega)
      have HTR0 : Hid (TR w w5 bx rz s (some ad) cc ma nm0 mc bo ng co (shF (s.M g) 0) bm nm0 cm (shT (s.M g) (s.M s.n) 0)) := Lib.hid (by
        rw [shT_zero, shF_zero]
        exact HTR.out)
      have hng16 : ng ≤ 16 := by omega
      clear he hn0 h0 hhf hm16 hfe hK HTR
      go_wp2_with fail
      go_loopw [8, 9] (fun s8 s9 wr => ∃ (t no co nm cm : Nat) (bo bm : Option Addr), t ≤ K ∧ s8 = .slice bo no co ∧ s9 = .slice bm nm cm ∧ Hid (no + t = ng ∧ nm = nm0 + t) ∧ Hid (TR w wr bx rz s (some ad) cc ma nm0 mc bo no co (shF (s.M g) t) bm nm cm (shT (s.M g) (s.M s.n) t))) (fun s8 _ _ => lenOf s8)
      case atStart => exact ⟨0, ng, co, nm0, cm, bo, bm, Nat.zero_le _, rfl, rfl, Lib.hid ⟨rfl, rfl⟩, HTR0⟩
      case round =>
        clear HTR0
        obtain ⟨t, no, co, nm, cm, bo, bm, htK, rfl, rfl, HS, HTR⟩ := hrel
        have hno16 : no ≤ 16 := by have := HS.out.1; omega
        have hnm80 : nm ≤ 80 := by have h1 := HS.out.1; have h2 := HS.out.2; omega
        have d1 := HTR.out.box.d1
        by_cases hlt : t < K
        · have hfn : hf < no := by have h1 := HS.out.1; have := HK2.out; omega
          have hno0 : 0 < no := by omega
          obtain ⟨n', hn'⟩ : ∃ n', no = n' + 1 := ⟨no - 1, by omega⟩
          have hm1 : (no : Int) - 1 = (n' : Int) := by omega
          obtain ⟨gm, cm', hform, _, hcc, _⟩ := own_form HTR.out.own hno0
          cases hform
          obtain ⟨cx, _⟩ := own_cells HTR.out.own (j := n') (by omega)
          have hx : (shF (s.M g) t).getD n' 0 = lastOf (shF (s.M g) t) := by
            have hl : (shF (s.M g) t).length = no := by have := HTR.out.own.1; simpa using this
            unfold lastOf
            rw [hl, hn']
            rfl
          rw [hx] at cx
          have HXN := Lib.hid (shT_next (s.M g) (s.M s.n) t (by rw [HNG.out]; have := HK2.out; omega))
          have HXF := Lib.hid (shF_next (s.M g) t)
          generalize lastOf (shF (s.M g) t) = y at cx HXN
          obtain ⟨nm1, hnm1⟩ : ∃ nm1, nm + 1 = nm1 := ⟨_, rfl⟩
          have HNM1 := Lib.hid hnm1
          have HNN := Lib.hid hn'
          have hlt2 : n' < no := by omega
          have hcm : n' ≤ co := by omega
          have htK2 : t + 1 ≤ K := by omega
          have HS2 := Lib.hid (show n' + (t + 1) = ng ∧ nm1 = nm0 + (t + 1) by have h1 := HS.out.1; have h2 := HS.out.2; omega)
          have hmeas : n' < no := by omega
          have hfe := HFE.out
          clear hx hn' hnm1 hcc hlt
          go_wp2_with (at_builtin; refine wpList_append_one_n (w0 := wr) Try.underlying23 info_int (by decide) rfl (.tmp 48) (.tmp 55) rfl (rz + 1) (.slice bm nm cm) (shT (s.M g) (s.M s.n) t) nm y rfl HTR.out.mid nm1 HNM1.out rfl (by omega) (by have h1 := HTR.out.t.size; have h2 := HTR.out.z.lt; omega) ?_; intro g6 c6 w6 hg6 h6 t6 b6)
          clear hfe
          go_roundw
          case rel => exact ⟨t + 1, n', co, nm1, c6, _, _, htK2, rfl, rfl, HS2, Lib.hid (by have h7 := (((HTR.out.swap.grown h6.out t6.out b6.out).cutm HNN.out).swap); rw [HXN.out, HXF.out] at h7; exact h7)⟩
          case measure => simpa [lenOf] using hmeas
        · have htK2 : t = K := by omega
          have HF := Lib.hid (show TR w wr bx rz s (some ad) cc ma nm0 mc bo no co ((spilled s g).M g) bm nm cm ((spilled s g).M s.n) by
            rw [spilled_M_g hg, spilled_M_n, ← HK.out, ← htK2]
            exact HTR.out)
          have hd0 : decide (hf < no) = false := decide_eq_false (by have h1 := HS.out.1; have := HK2.out; omega)
          have hfe := HFE.out
          clear htK2 hlt
          go_wp2_with fail
          go_meet
          exact ⟨no, co, nm, cm, bo, bm, rfl, rfl, HF⟩
    · have hn0 : ng ≠ s.most := fun e => he (HNG.out.trans e)
      have h0 : ((ng : Int) == (s.most : Int)) = false := by rw [beq_eq_false_iff_ne]; omega
      obtain rfl : b41 = false := by rw [← HB41.out]; exact h0
      have HE := Lib.hid (spilled_none he)
      clear he hn0 h0
      go_wp2_with fail
      go_meet
      exact ⟨ng, co, nm0, cm, bo, bm, rfl, rfl, by rw [HE.out]; exact HTR⟩
  case rest =>
    clear HTR
    obtain ⟨no, co, nm, cm, bo, bm, rfl, rfl, HTR⟩ := hcut
    have x3 := HTR.out.box.d3
    have fx3 := HTR.out.box.fr 3
    go_upto_region 10 with fail
    clear x3 fx3
    have TX := Lib.hid (setCell_turn wc bx 3 (.slice bm nm cm))
    have HL := Lib.hid HTR.out.lo
    have BX9 := Lib.hid (HTR.out.box.put3 bm nm cm)
    have BZ9 := Lib.hid (HTR.out.z.turn TX.out (fun e => by have e' : rz = bx := e; have := HL.out; omega))
    have far : ∀ (a : Option Addr) (n c k : Nat) (L : List Int), wc.ownsRow (rz + 1) 3 1 (.slice a n c) n (L.map (Value.int .i64)) → (Value.slice a n c).ownBlock = some k → ¬ (k = bx) := fun a n c k L h hk e => by
      have := (h.lt k hk).1
      have := HL.out
      omega
    have O9 := Lib.hid (own_turn HTR.out.own TX.out (fun k hk e => far _ _ _ k _ HTR.out.own hk e))
    have M9 := Lib.hid (own_turn HTR.out.mid TX.out (fun k hk e => far _ _ _ k _ HTR.out.mid hk e))
    have A9 := Lib.hid HTR.out.apart
    have T9 := Lib.hid (HTR.out.t.and TX.out (fun i hi e => by have e' : i = bx := e; have := HL.out; omega))
    have S9 := Lib.hid (show rz < (wc.setCell ⟨bx, 3, none⟩ (.slice bm nm cm)).heap.size from BZ9.out.lt)
    generalize wc.setCell ⟨bx, 3, none⟩ (.slice bm nm cm) = w9 at BX9 BZ9 O9 M9 T9 S9 ⊢
    clear TX far HTR
    have hno : ((spilled s g).M g).length = no := by have := O9.out.1; simpa using this
    have hnmm : ((spilled s g).M s.n).length = nm := by have := M9.out.1; simpa using this
    have hno16 : no ≤ 16 := by rw [← hno]; have := spilled_row HG.out hg; have := HG.out.most; omega
    have HNO := Lib.hid hno
    have HNMM := Lib.hid hnmm
    have HMW := Lib.hid (mid_withS hg ((spilled s g).M g ++ [x]))
    have TAl := Lib.hid (((Turn.refl (fun _ => False) w9).alloc (.cells #[.int .i64 x] 3)).drew)
    clear hno hnmm
    refine stand_start (by kernel_rfl) 6 (fun w' => w'.cell? ⟨bx, 0, none⟩ = some (.int .i64 s.size) ∧ w'.cell? ⟨bx, 1, none⟩ = some (.int .i64 s.most) ∧ w'.cell? ⟨bx, 2, none⟩ = some (.slice (some ad) s.n cc) ∧ w'.cell? ⟨bx, 3, none⟩ = some (.slice bm nm cm) ∧ w'.cell? ⟨bx, 4, none⟩ = some (.int .i64 s.fresh)) 6 (fun w' => True) ⟨BX9.out.d0, BX9.out.d1, BX9.out.d2, BX9.out.d3, BX9.out.d4⟩ trivial ?_
    refine stand_load1 (i := 0) (v := ?_) rfl (by kernel_rfl) (by kernel_rfl) (by kernel_rfl) (by rfl) (fun _ _ _ h => h) (by decide) (by decide) (by kernel_rfl) (by rfl) ?_ ?_
    rotate_left
    · (intro w hA; (try dsimp only at hA); go_simp; try with_reducible rfl)
    dsimp only [List.set_cons_zero, List.set_cons_succ]
    refine stand_take (i := 1) (v := ?_) rfl (by kernel_rfl) (by kernel_rfl) (by kernel_rfl) (by rfl) (fun _ _ _ h => h) (by decide) (by decide) (by rfl) ?_ ?_
    rotate_left
    · (intro w; go_simp; try with_reducible rfl)
    dsimp only [List.set_cons_zero, List.set_cons_succ]
    refine stand_take (i := 2) (v := ?_) rfl (by kernel_rfl) (by kernel_rfl) (by kernel_rfl) (by rfl) (fun _ _ _ h => h) (by decide) (by decide) (by rfl) ?_ ?_
    rotate_left
    · (intro w; go_simp; try with_reducible rfl)
    dsimp only [List.set_cons_zero, List.set_cons_succ]
    refine stand_take (i := 3) (v := ?_) rfl (by kernel_rfl) (by kernel_rfl) (by kernel_rfl) (by rfl) (fun _ _ _ h => h) (by decide) (by decide) (by rfl) ?_ ?_
    rotate_left
    · (intro w; go_simp; try with_reducible rfl)
    dsimp only [List.set_cons_zero, List.set_cons_succ]
    refine stand_step (i := 4) (by kernel_rfl) rfl (fun K hK => ?_)
    go_simp
    have BXA := Lib.hid (BX9.out.turn TAl.out id)
    refine hK.out _ _ (fun _ => ⟨BXA.out.d0, BXA.out.d1, BXA.out.d2, BXA.out.d3, BXA.out.d4⟩) (fun _ => trivial) ?_
    clear hK K
    try simp only [put_laid, List.set_cons_zero, List.set_cons_succ]
    refine stand_step (i := 5) (by kernel_rfl) rfl (fun K hK => ?_)
    refine step_append_one Try.underlying23 info_int (by decide) (by rfl) (.tmp 66) (.tmp 68) (by rfl) (rz + 1) (.slice bo no co) ((spilled s g).M g) no (by rfl) (O9.out.alloc _) w9.heap.size x (by rfl) (heap_alloc_new w9 _) (by omega) (by have := S9.out; simp; omega) ?_
    intro g5 c5 w5 hg5 H5 T5 B5
    have TB := Lib.hid ((((Turn.refl (fun i => (Value.slice bo no co).ownBlock = some i) w9).alloc (.cells #[.int .i64 x] 3)).drew).trans T5.out)
    have farO : ∀ i, i ≤ rz → ¬ (Value.slice bo no co).ownBlock = some i := fun i hi e => by have := (O9.out.lt i e).1; omega
    have BX5 := Lib.hid (BX9.out.turn TB.out (farO bx (by have := HL.out; omega)))
    have BZ5 := Lib.hid (BZ9.out.turn TB.out (farO rz (Nat.le_refl _)))
    have M5 := Lib.hid (own_turn M9.out TB.out (fun k hk e => A9.out k e hk))
    have T95 := Lib.hid (T9.out.and TB.out (fun i hi e => farO i (by have := HL.out; omega) e))
    have S5 := Lib.hid TB.out.size
    refine hK.out _ _ (fun _ => ⟨BX5.out.d0, BX5.out.d1, BX5.out.d2, BX5.out.d3, BX5.out.d4⟩) (fun _ => trivial) ?_
    clear hK K
    try simp only [put_laid, List.set_cons_zero, List.set_cons_succ]
    have hlen1 : ((spilled s g).M g ++ [x]).length = no + 1 := by rw [List.length_append, HNO.out]; rfl
    have RS5 := Lib.hid (show RS w5 (midS s ((spilled s g).M s.n)) (some ad) cc bm cm (fun i => D i ∨ (rz < i ∧ i < w5.heap.size)) from (((H.out.new T95.out).mono (fun i e => Or.inl e)).mid' (own_reads M5.out).2.1 (fun x e => Or.inr (by
        subst e
        have := M5.out.lt x.block (by rw [own_block]; rfl)
        omega)) (own_reads M5.out).2.2.2))
    have hw := with_any (s := midS s ((spilled s g).M s.n)) (la := some ⟨g5, 0, none⟩) (nl := no + 1) (lc := c5) (L := (spilled s g).M g ++ [x]) w5 RS5.out hn8 hg (own_reads H5.out).2.1 hlen1 (fun x e => Or.inr (by
        cases e
        have := H5.out.lt g5 rfl
        show rz < g5 ∧ g5 < w5.heap.size
        omega)) (fun e => (by cases e)) (own_reads H5.out).2.2.1
    have hml : ((midS s ((spilled s g).M s.n)).M s.n).length = nm := (congrArg List.length (upd_same s.M s.n _)).trans HNMM.out
    have hw3 : Calls Try.prog 31 #[.agg #[.int .i64 s.size, .int .i64 s.most, .slice (some ad) s.n cc, .slice bm ((midS s ((spilled s g).M s.n)).M s.n).length cm, .int .i64 s.fresh], .int .i64 g, .slice (some ⟨g5, 0, none⟩) (no + 1) c5] w5 (WithPost (midS s ((spilled s g).M s.n)) (withM (midS s ((spilled s g).M s.n)) g ((spilled s g).M g ++ [x])) bm cm (fun i => D i ∨ (rz < i ∧ i < w5.heap.size)) w5) := hw
    rw [hml] at hw3
    have hml2 : ((withM (midS s ((spilled s g).M s.n)) g ((spilled s g).M g ++ [x])).M s.n).length = nm := (congrArg List.length (upd_other _ _ (show s.n ≠ g by omega))).trans hml
    have HW2 := Lib.hid (show Calls Try.prog 31 #[.agg #[.int .i64 s.size, .int .i64 s.most, .slice (some ad) s.n cc, .slice bm nm cm, .int .i64 s.fresh], .int .i64 g, .slice (some ⟨g5, 0, none⟩) (no + 1) c5] w5 (fun e w' => ∃ cb cc', e = .returned (.agg #[.int .i64 s.size, .int .i64 s.most, .slice (some ⟨cb, 0, none⟩) s.n cc', .slice bm nm cm, .int .i64 s.fresh]) ∧ RS w' (giveN s g x) (some ⟨cb, 0, none⟩) cc' bm cm (Dn (fun i => D i ∨ (rz < i ∧ i < w5.heap.size)) w5 w') ∧ Turn (fun _ => False) w5 w') from hw3.mono (by
      rintro e w' ⟨cb, cc', rfl, h1, h2⟩
      rw [HMW.out] at h1
      refine ⟨cb, cc', ?_, h1, h2⟩
      show Ending.returned (ragg s.size s.most (some ⟨cb, 0, none⟩) s.n cc' bm ((withM (midS s ((spilled s g).M s.n)) g ((spilled s g).M g ++ [x])).M s.n).length cm s.fresh) = _
      rw [hml2]
      rfl))
    clear hw hw3 hml hml2 farO hlen1
    refine stand_step (i := 6) (by kernel_rfl) rfl (fun K hK => ?_)
    go_simp
    refine HW2.out.mono ?_
    rintro e w7 ⟨cb, cc7, rfl, rs7, t7⟩
    have RS7 := Lib.hid rs7
    have T7 := Lib.hid t7
    clear rs7 t7
    refine hK.out _ _ (past (by kernel_rfl)) (past (by kernel_rfl)) ?_
    clear hK K
    try simp only [put_laid, List.set_cons_zero, List.set_cons_succ]
    have BZ7 := Lib.hid (BZ5.out.turn T7.out id)
    have z0 := BZ7.out.d0
    have z1 := BZ7.out.d1
    have z2 := BZ7.out.d2
    have z3 := BZ7.out.d3
    have z4 := BZ7.out.d4
    have k0 := BZ7.out.fr 0
    have k1 := BZ7.out.fr 1
    have k2 := BZ7.out.fr 2
    have k3 := BZ7.out.fr 3
    have k4 := BZ7.out.fr 4
    refine stand_step (i := 7) (by kernel_rfl) rfl (fun K hK => ?_)
    go_simp
    clear z0 z1 z2 z3 z4 k0 k1 k2 k3 k4
    refine hK.out _ _ (past (by kernel_rfl)) (past (by kernel_rfl)) ?_
    clear hK K
    try simp only [put_laid, List.set_cons_zero, List.set_cons_succ]
    refine stand_take (i := 8) (v := ?_) rfl (by kernel_rfl) (by kernel_rfl) (by kernel_rfl) (by rfl) (fun _ _ _ h => h) (by decide) (by decide) (by rfl) ?_ ?_
    rotate_left
    · (intro w; go_simp; try with_reducible rfl)
    dsimp only [List.set_cons_zero, List.set_cons_succ]
    refine stand_done (by kernel_rfl) ?_
    go_wp2_with fail
    have TF := Lib.hid ((store5_turn w7 rz (.int .i64 s.size) (.int .i64 s.most) (.slice (some ⟨cb, 0, none⟩) s.n cc7) (.slice bm nm cm) (.int .i64 s.fresh)))
    have BF := Lib.hid (BZ7.out.store (size' := s.size) (most' := s.most) (ca' := some ⟨cb, 0, none⟩) (n' := s.n) (cc' := cc7) (ma' := bm) (nm' := nm) (mc' := cm) (fresh' := s.fresh))
    generalize ((((w7.setCell ⟨rz, 0, none⟩ (.int .i64 s.size)).setCell ⟨rz, 1, none⟩ (.int .i64 s.most)).setCell ⟨rz, 2, none⟩ (.slice (some ⟨cb, 0, none⟩) s.n cc7)).setCell ⟨rz, 3, none⟩ (.slice bm nm cm)).setCell ⟨rz, 4, none⟩ (.int .i64 s.fresh) = wf at TF BF ⊢
    have d0 := BF.out.d0
    have d1 := BF.out.d1
    have d2 := BF.out.d2
    have d3 := BF.out.d3
    have d4 := BF.out.d4
    have T97 : Turn (fun _ => False) w w7 := T95.out.trans T7.out
    have TW : Turn (fun _ => False) w wf := T97.and TF.out (fun i hi e => by have e' : i = rz := e; have := HL.out; omega)
    have hsz7 : w5.heap.size ≤ w7.heap.size := T7.out.size
    have hszf := TF.out.size
    have hs95 : w9.heap.size ≤ w5.heap.size := S5.out
    have hrs := (RS7.out.turn TF.out (fun i hi e => by
      have e' : i = rz := e
      have hs9 := S9.out
      have hlo := HL.out
      rcases hi with (h1 | h1) | h1
      · have := HDB.out i h1; omega
      · omega
      · have h2 : w5.heap.size ≤ i := h1.1
        omega)).mono (D' := Dn D w wf) (fun i hi => by
      have hlo := HL.out
      have hs9 := S9.out
      rcases hi with (h1 | h1) | h1
      · exact Or.inl h1
      · exact Or.inr ⟨by omega, by omega⟩
      · have h2 : w5.heap.size ≤ i := h1.1
        exact Or.inr ⟨by omega, by omega⟩)
    refine bodyPost_ret (v := .tuple #[ragg s.size s.most (some ⟨cb, 0, none⟩) s.n cc7 bm nm cm s.fresh, .bool true]) (by simp [results, Try.results18, go_sem, ragg, d0, d1, d2, d3, d4]) rfl ⟨some ⟨cb, 0, none⟩, cc7, bm, cm, ?_, hrs, TW⟩
    show _ = Ending.returned (.tuple #[ragg s.size s.most (some ⟨cb, 0, none⟩) s.n cc7 bm ((giveN s g x).M s.n).length cm s.fresh, .bool true])
    rw [show (giveN s g x).M s.n = (spilled s g).M s.n from upd_other _ _ (by omega), HNMM.out]

end Go.Proofs.Ytmjenbkhmhpleaa
