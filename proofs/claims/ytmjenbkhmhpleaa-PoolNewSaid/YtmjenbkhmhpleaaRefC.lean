/- The document's Take. -/
import Derived.Test.YtmjenbkhmhpleaaRefB
namespace Go.Proofs.Ytmjenbkhmhpleaa
open Go.RowKit
set_option linter.unusedVariables false

theorem RBox.drew {w : World} {b size most n cc nm mc fresh : Nat} {ca ma : Option Addr} (h : RBox w b size most ca n cc ma nm mc fresh) : RBox w.drew b size most ca n cc ma nm mc fresh := h
def RPost (s' : St) (x : Option Int) (b : Bool) (D : Nat → Prop) (w : World) (e : Ending) (w' : World) : Prop :=
  ∃ ca cc ma mc, e = .returned (.tuple (match x with
      | some x => #[ragg s'.size s'.most ca s'.n cc ma (s'.M s'.n).length mc s'.fresh, .int .i64 x, .bool b]
      | none => #[ragg s'.size s'.most ca s'.n cc ma (s'.M s'.n).length mc s'.fresh, .bool b])) ∧ RS w' s' ca cc ma mc (Dn D w w') ∧ Turn (fun _ => False) w w'

theorem rtake_no {s : St} {ca ma : Option Addr} {cc mc : Nat} {g : Int} {D : Nat → Prop} (w : World) (h : RS w s ca cc ma mc D) (hG : Good s) (hg : g < 0 ∨ (s.n : Int) ≤ g) :
    Calls Try.prog 16 #[ragg s.size s.most ca s.n cc ma (s.M s.n).length mc s.fresh, .int .i64 g] w (RPost s (some 0) false D w) := by
  have H := Lib.hid h
  have hn8 := hG.n
  obtain ⟨nm, hnm⟩ : ∃ nm, (s.M s.n).length = nm := ⟨_, rfl⟩
  rw [hnm]
  have HNM := Lib.hid hnm
  have HG := Lib.hid hg
  clear h hG hnm hg
  have hcase : g < 0 ∨ (¬ g < 0 ∧ (s.n : Int) ≤ g) := by have := HG.out; omega
  rcases hcase with h0 | ⟨h0, h1⟩
  all_goals
    unfold ragg
    go_enter Try.func16, Try.ntmps16
    go_wp2_with fail
    have TA := Lib.hid ((((Turn.refl (fun _ => False) w).alloc (.cells #[.int .i64 s.size, .int .i64 s.most, .slice ca s.n cc, .slice ma nm mc, .int .i64 s.fresh] 25)).alloc (.cells #[.int .i64 s.size, .int .i64 s.most, .slice ca s.n cc, .slice ma nm mc, .int .i64 s.fresh] 25)))
    have BF := Lib.hid (show RBox ((w.alloc (.cells #[.int .i64 s.size, .int .i64 s.most, .slice ca s.n cc, .slice ma nm mc, .int .i64 s.fresh] 25)).alloc (.cells #[.int .i64 s.size, .int .i64 s.most, .slice ca s.n cc, .slice ma nm mc, .int .i64 s.fresh] 25)) (w.heap.size + 1) s.size s.most ca s.n cc ma nm mc s.fresh from new2' w _ _)
    generalize (w.alloc (.cells #[.int .i64 s.size, .int .i64 s.most, .slice ca s.n cc, .slice ma nm mc, .int .i64 s.fresh] 25)).alloc (.cells #[.int .i64 s.size, .int .i64 s.most, .slice ca s.n cc, .slice ma nm mc, .int .i64 s.fresh] 25) = wf at TA BF ⊢
    have d0 := BF.out.d0
    have d1 := BF.out.d1
    have d2 := BF.out.d2
    have d3 := BF.out.d3
    have d4 := BF.out.d4
    refine bodyPost_ret (v := .tuple #[ragg s.size s.most ca s.n cc ma nm mc s.fresh, .int .i64 0, .bool false]) (by simp [results, Try.results16, go_sem, ragg, d0, d1, d2, d3, d4]) rfl ⟨ca, cc, ma, mc, by rw [HNM.out], (H.out.new TA.out).mono (fun i e => Or.inl e), TA.out⟩

/-- Two rows of the call's own beside the document's pool. -/
structure TR (w wx : World) (bx rz : Nat) (s : St) (ca : Option Addr) (cc : Nat) (ma : Option Addr) (nm0 mc : Nat) (bo : Option Addr) (no co : Nat) (O : List Int) (bm : Option Addr) (nm cm : Nat) (M : List Int) : Prop where
  box : RBox wx bx s.size s.most ca s.n cc ma nm0 mc s.fresh
  z : RBox wx rz 0 0 none 0 0 none 0 0 0
  own : wx.ownsRow (rz + 1) 3 1 (.slice bo no co) no (O.map (Value.int .i64))
  mid : wx.ownsRow (rz + 1) 3 1 (.slice bm nm cm) nm (M.map (Value.int .i64))
  apart : ∀ k, (Value.slice bo no co).ownBlock = some k → (Value.slice bm nm cm).ownBlock ≠ some k
  t : Turn (fun _ => False) w wx
  lo : bx = w.heap.size ∧ rz = w.heap.size + 1
section
variable {w wx w' : World} {bx rz : Nat} {s : St} {ca ma bo bm : Option Addr} {cc nm0 mc no co nm cm : Nat} {O M O' : List Int}
theorem TR.grown {g n' c' : Nat} (h : TR w wx bx rz s ca cc ma nm0 mc bo no co O bm nm cm M) (ho : w'.ownsRow (rz + 1) 3 1 (.slice (some ⟨g, 0, none⟩) n' c') n' (O'.map (Value.int .i64))) (t : Turn (fun i => (Value.slice bo no co).ownBlock = some i) wx w')
    (b : (Value.slice bo no co).ownBlock = some g ∨ wx.heap.size ≤ g) : TR w w' bx rz s ca cc ma nm0 mc (some ⟨g, 0, none⟩) n' c' O' bm nm cm M := by
  have hl := h.lo
  have far : ∀ i, i ≤ rz → ¬ (Value.slice bo no co).ownBlock = some i := fun i hi e => by have := (h.own.lt i e).1; omega
  refine ⟨h.box.turn t (far bx (by omega)), h.z.turn t (far rz (Nat.le_refl _)), ho, own_turn h.mid t (fun k hk e => h.apart k e hk), fun k hk e => ?_, h.t.and t (fun i hi e => far i (by have := h.own.lt i e; omega) e), hl⟩
  have hk' : g = k := by rw [own_block] at hk; exact Option.some.inj hk
  subst hk'
  rcases b with b | b
  · exact h.apart g b e
  · have := (h.mid.lt g e).2; omega
theorem TR.cutm {m : Nat} (h : TR w wx bx rz s ca cc ma nm0 mc bo no co O bm nm cm M) (hm : nm = m + 1) : TR w wx bx rz s ca cc ma nm0 mc bo no co O bm m cm (cut M) := by
  have hl : M.length = nm := by have := h.mid.1; simpa using this
  refine ⟨h.box, h.z, h.own, ?_, fun k hk e => ?_, h.t, h.lo⟩
  · exact own_cut h.mid (by omega) (by unfold cut; rw [hl, hm]; rfl)
  · refine h.apart k hk ?_
    rw [own_block] at e ⊢
    exact e
end

theorem pulled_M_n {s : St} {g : Nat} (hg : g < s.n) : (pulled s g).M s.n = shF (s.M s.n) (pullK s g) := by
  show moveM s.M s.n g (pullK s g) s.n = _
  rw [move_i _ _ (by omega)]
theorem pulled_M_g (s : St) (g : Nat) : (pulled s g).M g = shT (s.M s.n) (s.M g) (pullK s g) := move_j _ _ _ _
def midS (s : St) (l : List Int) : St := { s with M := upd s.M s.n l }
theorem mid_with {s : St} {g : Nat} (hg : g < s.n) (l : List Int) : withM (midS s ((pulled s g).M s.n)) g l = withM (pulled s g) g l := by
  unfold withM midS
  congr 1
  funext j
  show (if j = g then l else if j = s.n then _ else s.M j) = if j = g then l else (pulled s g).M j
  by_cases e : j = g
  · rw [if_pos e, if_pos e]
  · rw [if_neg e, if_neg e]
    by_cases e2 : j = s.n
    · rw [if_pos e2, e2]
    · rw [if_neg e2]
      show s.M j = moveM s.M s.n g (pullK s g) j
      rw [move_k _ _ e2 e]
theorem mid_none {s : St} {g : Nat} (hg : g < s.n) (he : (pulled s g).M g = []) : midS s ((pulled s g).M s.n) = pulled s g := by
  have h0 : s.M g = [] := by
    rw [pulled_M_g] at he
    unfold shT at he
    exact (List.append_eq_nil_iff.1 he).1
  unfold midS pulled
  congr 1
  funext j
  show (if j = s.n then moveM s.M s.n g (pullK s g) s.n else s.M j) = moveM s.M s.n g (pullK s g) j
  by_cases e2 : j = s.n
  · rw [if_pos e2, e2]
  · rw [if_neg e2]
    by_cases e : j = g
    · rw [e, h0]; exact he.symm
    · rw [move_k _ _ e2 e]
/-- The document's pool with another middle. -/
theorem RS.mid' {w : World} {s : St} {ca ma ma' : Option Addr} {cc mc mc' : Nat} {D : Nat → Prop} {l : List Int} (h : RS w s ca cc ma mc D) (hm : Ints .i64 w ma' l) (hd : ∀ x, ma' = some x → D x.block) (hn : ma' = none → mc' = 0) : RS w (midS s l) ca cc ma' mc' D := by
  refine ⟨fun j hj => ?_, ?_, hd, hn, h.caD, h.caN⟩
  · have hj' : j < s.n := hj
    obtain ⟨ad, a, c, e, h1, h2, h3, h4, h5⟩ := h.row j hj'
    have : (midS s l).M j = s.M j := upd_other _ _ (by omega)
    rw [this]
    exact ⟨ad, a, c, e, h1, h2, h3, h4, h5⟩
  · have : (midS s l).M (midS s l).n = l := upd_same _ _ _
    rw [this]; exact hm

set_option maxRecDepth 100000 in
set_option maxHeartbeats 4000000 in
theorem rtake_yes {s : St} {ca ma : Option Addr} {cc mc g : Nat} {D : Nat → Prop} (w : World) (h : RS w s ca cc ma mc D) (hG : Good s) (hg : g < s.n) (hDb : ∀ i, D i → i < w.heap.size) :
    Calls Try.prog 16 #[ragg s.size s.most ca s.n cc ma (s.M s.n).length mc s.fresh, .int .i64 g] w (RPost (takeN s g).1 (some (takeN s g).2.1) (takeN s g).2.2 D w) := by
  have H := Lib.hid h
  have HG := Lib.hid hG
  have hn8 := hG.n
  have hf64 := hG.fresh
  have hs64 := hG.size
  have hm64 := hG.row (Nat.le_refl s.n)
  have hg64 := hG.row (Nat.le_of_lt hg)
  obtain ⟨ad, a0, c0, hca, hcell, hints, hD, hnil, hlc⟩ := h.row g hg
  subst hca
  obtain ⟨nm0, hnm⟩ : ∃ nm, (s.M s.n).length = nm := ⟨_, rfl⟩
  obtain ⟨ng, hng⟩ : ∃ ng, (s.M g).length = ng := ⟨_, rfl⟩
  rw [hnm] at hm64
  rw [hng] at hg64 hcell
  rw [hnm]
  have HNM := Lib.hid hnm
  have HNG := Lib.hid hng
  have HI := Lib.hid hints
  have HNL := Lib.hid hnil
  have HCell := Lib.hid hcell
  obtain ⟨r, hr⟩ : ∃ r, r = takeN s g := ⟨_, rfl⟩
  have HR := Lib.hid hr
  rw [← hr]
  have HDB := Lib.hid hDb
  clear h hG hr hnm hng hints hD hnil hlc hcell hDb
  have hgi : (g : Int) < (s.n : Int) := by omega
  have hgi0 : (0 : Int) ≤ (g : Int) := by omega
  unfold ragg
  go_enter Try.func16, Try.ntmps16
  have TA := Lib.hid ((((Turn.refl (fun _ => False) w).alloc (.cells #[.int .i64 s.size, .int .i64 s.most, .slice (some ad) s.n cc, .slice ma nm0 mc, .int .i64 s.fresh] 25)).alloc (.cells #[.int .i64 0, .int .i64 0, .slice none 0 0, .slice none 0 0, .int .i64 0] 25)))
  have BX := Lib.hid (show RBox ((w.alloc (.cells #[.int .i64 s.size, .int .i64 s.most, .slice (some ad) s.n cc, .slice ma nm0 mc, .int .i64 s.fresh] 25)).alloc (.cells #[.int .i64 0, .int .i64 0, .slice none 0 0, .slice none 0 0, .int .i64 0] 25)) w.heap.size s.size s.most (some ad) s.n cc ma nm0 mc s.fresh from new2 w _ _)
  have BZ := Lib.hid (show RBox ((w.alloc (.cells #[.int .i64 s.size, .int .i64 s.most, .slice (some ad) s.n cc, .slice ma nm0 mc, .int .i64 s.fresh] 25)).alloc (.cells #[.int .i64 0, .int .i64 0, .slice none 0 0, .slice none 0 0, .int .i64 0] 25)) (w.heap.size + 1) 0 0 none 0 0 none 0 0 0 from new2' w _ _)
  go_upto_region 3 with fail
  have HSZ := Lib.hid (show w.heap.size + 2 ≤ ((w.alloc (.cells #[.int .i64 s.size, .int .i64 s.most, .slice (some ad) s.n cc, .slice ma nm0 mc, .int .i64 s.fresh] 25)).alloc (.cells #[.int .i64 0, .int .i64 0, .slice none 0 0, .slice none 0 0, .int .i64 0] 25)).heap.size by simp)
  generalize (w.alloc (.cells #[.int .i64 s.size, .int .i64 s.most, .slice (some ad) s.n cc, .slice ma nm0 mc, .int .i64 s.fresh] 25)).alloc (.cells #[.int .i64 0, .int .i64 0, .slice none 0 0, .slice none 0 0, .int .i64 0] 25) = w1 at TA BX BZ HSZ ⊢
  obtain ⟨bx, hbx⟩ : ∃ bx, bx = w.heap.size := ⟨_, rfl⟩
  obtain ⟨rz, hrz⟩ : ∃ rz, rz = w.heap.size + 1 := ⟨_, rfl⟩
  rw [← hrz] at BZ ⊢
  rw [← hbx] at BX ⊢
  have HLO := Lib.hid (And.intro hbx hrz)
  clear hbx hrz
  have TE := Lib.hid ((Turn.refl (fun _ => False) w1).alloc (.cells #[] 3))
  have d2 := (BX.out.turn TE.out id).d2
  have dg := TE.out.cell (p := ad.add g) id (TA.out.cell (p := ad.add g) id HCell.out)
  go_upto_region 4 with (at_builtin; refine wpList_append_ints_at Try.underlying23 info_int (by decide) rfl (.tmp 20) (.tmp 25) rfl (rz + 1) (.slice (some ⟨w1.heap.size, 0, none⟩) 0 0) [] 0 rfl (own_empty (heap_alloc_new w1 _) (by have := HSZ.out; have := HLO.out; omega)) a0 (s.M g) ng c0 HNG.out rfl HNL.out (HI.out.turn (TA.out.trans TE.out) (fun _ _ => id)) (by omega) (by have := HSZ.out; have := HLO.out; simp; omega) ?_; intro v3 w3 O3 T3 B3; rw [Nat.zero_add, List.nil_append] at O3)
  obtain ⟨bo, co, rfl⟩ := slice_own O3.out
  have T31 := Lib.hid (((Turn.refl (fun _ => False) w1).alloc (.cells #[] 3)).and T3.out (fun i hi e => far_new hi e))
  have BX3 := Lib.hid (BX.out.turn T31.out id)
  have BZ3 := Lib.hid (BZ.out.turn T31.out id)
  have TA3 := Lib.hid (TA.out.trans T31.out)
  have HSZ3 := Lib.hid (Nat.le_trans HSZ.out T31.out.size)
  clear d2 dg T3 B3 TE
  have TE := Lib.hid ((Turn.refl (fun _ => False) w3).alloc (.cells #[] 3))
  have d3 := (BX3.out.turn TE.out id).d3
  go_upto_region 5 with (at_builtin; refine wpList_append_ints_at Try.underlying23 info_int (by decide) rfl (.tmp 27) (.tmp 29) rfl (rz + 1) (.slice (some ⟨w3.heap.size, 0, none⟩) 0 0) [] 0 rfl (own_empty (heap_alloc_new w3 _) (by have := HSZ3.out; have := HLO.out; omega)) ma (s.M s.n) nm0 mc HNM.out rfl H.out.midN (H.out.mid.turn (TA3.out.trans TE.out) (fun _ _ => id)) (by omega) (by have := HSZ3.out; have := HLO.out; simp; omega) ?_; intro v5 w5 O5 T5 B5; rw [Nat.zero_add, List.nil_append] at O5)
  obtain ⟨bm, cm, rfl⟩ := slice_own O5.out
  have T53 := Lib.hid (((Turn.refl (fun _ => False) w3).alloc (.cells #[] 3)).and T5.out (fun i hi e => far_new hi e))
  have HTR : Hid (TR w w5 bx rz s (some ad) cc ma nm0 mc bo ng co (s.M g) bm nm0 cm (s.M s.n)) := Lib.hid
    ⟨BX3.out.turn T53.out id, BZ3.out.turn T53.out id, own_turn O3.out T53.out (fun _ _ => id), O5.out, fun k hk e => by
      have h1 := (O3.out.lt k hk).2
      rcases B5.out with e' | e'
      · rw [e'] at e
        exact far_new h1 e
      · rw [e'] at e
        have e2 : (w3.alloc (.cells #[] 3)).heap.size = k := Option.some.inj e
        simp at e2
        omega, TA3.out.trans T53.out, HLO.out⟩
  clear d3 T5 B5 TE O3 O5 BX BZ BX3 BZ3 T31 T53 HCell HI HNL
  obtain ⟨b33, hb33⟩ : ∃ b, ((ng : Int) == 0) = b := ⟨_, rfl⟩
  go_upto_if 33 with fail
  have HB33 := Lib.hid hb33
  clear hb33
  go_cut [7, 8] (fun s7 s8 wx => ∃ (no co nm cm : Nat) (bo bm : Option Addr), s7 = .slice bo no co ∧ s8 = .slice bm nm cm ∧ Hid (TR w wx bx rz s (some ad) cc ma nm0 mc bo no co ((pulled s g).M g) bm nm cm ((pulled s g).M s.n)))
  case first =>
    by_cases he : s.M g = []
    · have hn0 : ng = 0 := by rw [← HNG.out, he]; rfl
      have h0 : ((ng : Int) == 0) = true := by rw [beq_iff_eq]; omega
      obtain rfl : b33 = true := by rw [← HB33.out]; exact h0
      obtain ⟨hf, hhf⟩ : ∃ hf, s.most / 2 = hf := ⟨_, rfl⟩
      have hm16 := HG.out.most
      have hf8 : hf ≤ 8 := by omega
      have hfe : (s.most : Int) / 2 = (hf : Int) := by omega
      have HFE := Lib.hid hfe
      obtain ⟨K, hK⟩ : ∃ K, K = pullK s g := ⟨_, rfl⟩
      have HK := Lib.hid hK
      have HK2 := Lib.hid (show K = min nm0 (max hf 1) by rw [hK]; unfold pullK half1; rw [if_pos he, HNM.out, hhf])
      have HTR0 : Hid (TR w w5 bx rz s (some ad) cc ma nm0 mc bo 0 co (shT (s.M s.n) [] 0) bm nm0 cm (shF (s.M s.n) 0)) := Lib.hid (by
        rw [shT_zero, shF_zero]
        have := HTR.out
        rw [hn0, he] at this
        exact this)
      have HE := Lib.hid (And.intro he hn0)
      clear he hhf hm16 hfe hK HTR
      clear hn0 h0
      go_wp2_with fail
      go_loopw [7, 8] (fun s7 s8 wr => ∃ (t co nm cm : Nat) (bo bm : Option Addr), t ≤ K ∧ s7 = .slice bo t co ∧ s8 = .slice bm nm cm ∧ Hid (nm + t = nm0) ∧ Hid (TR w wr bx rz s (some ad) cc ma nm0 mc bo t co (shT (s.M s.n) [] t) bm nm cm (shF (s.M s.n) t))) (fun _ s8 _ => lenOf s8)
      case atStart => exact ⟨0, co, nm0, cm, bo, bm, Nat.zero_le _, by rw [HE.out.2], rfl, Lib.hid rfl, HTR0⟩
      case round =>
        clear HTR0
        obtain ⟨t, co, nm, cm, bo, bm, htK, rfl, rfl, HS, HTR⟩ := hrel
        have hnm64 : nm ≤ 64 := by have := HS.out; omega
        have ht64 : t ≤ 64 := by have := HS.out; omega
        have d1 := HTR.out.box.d1
        by_cases hlt : t < K
        · have hnm0 : 0 < nm := by have := HS.out; have := HK2.out; omega
          obtain ⟨n', hn'⟩ : ∃ n', nm = n' + 1 := ⟨nm - 1, by omega⟩
          have hm1 : (nm : Int) - 1 = (n' : Int) := by omega
          obtain ⟨gm, cm', hform, _, hcc, _⟩ := own_form HTR.out.mid hnm0
          cases hform
          obtain ⟨cx, _⟩ := own_cells HTR.out.mid (j := n') (by omega)
          have hx : (shF (s.M s.n) t).getD n' 0 = lastOf (shF (s.M s.n) t) := by
            have hl : (shF (s.M s.n) t).length = nm := by have := HTR.out.mid.1; simpa using this
            unfold lastOf
            rw [hl, hn']
            rfl
          rw [hx] at cx
          have HXN := Lib.hid (shT_next (s.M s.n) [] t (by rw [HNM.out]; have := HS.out; omega))
          have HXF := Lib.hid (shF_next (s.M s.n) t)
          generalize lastOf (shF (s.M s.n) t) = x at cx HXN
          obtain ⟨t1, ht1⟩ : ∃ t1, t + 1 = t1 := ⟨_, rfl⟩
          have HT1 := Lib.hid ht1
          have HNN := Lib.hid hn'
          have hlt2 : n' < nm := by omega
          have hcm : n' ≤ cm := by omega
          have htK2 : t1 ≤ K := by omega
          have HS2 := Lib.hid (show n' + t1 = nm0 by have := HS.out; omega)
          have hmeas : n' < nm := by omega
          have hft : hf ≤ t → (t : Int) < 1 := by intro hh; have := HK2.out; omega
          clear hx hn' ht1 hcc
          by_cases hft1 : t < hf
          · have hfe := HFE.out
            clear hft
            go_wp2_with (at_builtin; refine wpList_append_one_n (w0 := wr) Try.underlying23 info_int (by decide) rfl (.tmp 50) (.tmp 57) rfl (rz + 1) (.slice bo t co) (shT (s.M s.n) [] t) t x rfl HTR.out.own t1 HT1.out rfl (by omega) (by have h1 := HTR.out.t.size; have h2 := HTR.out.z.lt; omega) ?_; intro g6 c6 w6 hg6 h6 t6 b6)
            clear hfe
            go_roundw
            case rel => exact ⟨t1, c6, n', cm, _, _, htK2, rfl, rfl, HS2, Lib.hid (by have h7 := (HTR.out.grown h6.out t6.out b6.out).cutm HNN.out; rw [HXN.out, HXF.out, HT1.out] at h7; exact h7)⟩
            case measure => simpa [lenOf] using hmeas
          · have hdec : decide (t < hf) = false := decide_eq_false hft1
            have hone : (t : Int) < 1 := hft (by omega)
            have hfe := HFE.out
            clear hft hft1
            go_wp2_with (at_builtin; refine wpList_append_one_n (w0 := wr) Try.underlying23 info_int (by decide) rfl (.tmp 50) (.tmp 57) rfl (rz + 1) (.slice bo t co) (shT (s.M s.n) [] t) t x rfl HTR.out.own t1 HT1.out rfl (by omega) (by have h1 := HTR.out.t.size; have h2 := HTR.out.z.lt; omega) ?_; intro g6 c6 w6 hg6 h6 t6 b6)
            clear hfe
            go_roundw
            case rel => exact ⟨t1, c6, n', cm, _, _, htK2, rfl, rfl, HS2, Lib.hid (by have h7 := (HTR.out.grown h6.out t6.out b6.out).cutm HNN.out; rw [HXN.out, HXF.out, HT1.out] at h7; exact h7)⟩
            case measure => simpa [lenOf] using hmeas
        · have htK2 : t = K := by omega
          have HF := Lib.hid (show TR w wr bx rz s (some ad) cc ma nm0 mc bo t co ((pulled s g).M g) bm nm cm ((pulled s g).M s.n) by
            rw [pulled_M_n hg, pulled_M_g, HE.out.1, ← HK.out, ← htK2]
            exact HTR.out)
          by_cases hz : 0 < nm
          · have hd1 : decide (t < hf) = false := decide_eq_false (by have := HK2.out; have := HS.out; omega)
            have hd2 : ¬ (t : Int) < 1 := by have := HK2.out; have := HS.out; omega
            have hfe := HFE.out
            clear htK2 hlt
            go_wp2_with fail
            go_meet
            exact ⟨t, co, nm, cm, bo, bm, rfl, rfl, HF⟩
          · have hd0 : decide (0 < nm) = false := decide_eq_false hz
            clear htK2 hlt hz
            go_wp2_with fail
            go_meet
            exact ⟨t, co, nm, cm, bo, bm, rfl, rfl, HF⟩
    · have hn0 : ng ≠ 0 := fun e => he (List.eq_nil_of_length_eq_zero (HNG.out.trans e))
      have h0 : ((ng : Int) == 0) = false := by rw [beq_eq_false_iff_ne]; omega
      obtain rfl : b33 = false := by rw [← HB33.out]; exact h0
      have HE := Lib.hid (pulled_none he)
      clear he hn0 h0
      go_wp2_with fail
      go_meet
      exact ⟨ng, co, nm0, cm, bo, bm, rfl, rfl, by rw [HE.out]; exact HTR⟩
  case rest =>
    clear HTR
    obtain ⟨no, co, nm, cm, bo, bm, rfl, rfl, HTR⟩ := hcut
    have x3 := HTR.out.box.d3
    have fx3 := HTR.out.box.fr 3
    go_upto_region 10 with fail
    clear x3 fx3
    have TX := Lib.hid (setCell_turn wc bx 3 (.slice bm nm cm))
    have HL := Lib.hid HTR.out.lo
    have BX9 := Lib.hid (HTR.out.box.put3 bm nm cm)
    have BZ9 := Lib.hid (HTR.out.z.turn TX.out (fun e => by have e' : rz = bx := e; have := HL.out; omega))
    have far : ∀ (a : Option Addr) (n c k : Nat) (L : List Int), wc.ownsRow (rz + 1) 3 1 (.slice a n c) n (L.map (Value.int .i64)) → (Value.slice a n c).ownBlock = some k → ¬ (k = bx) := fun a n c k L h hk e => by
      have := (h.lt k hk).1
      have := HL.out
      omega
    have O9 := Lib.hid (own_turn HTR.out.own TX.out (fun k hk e => far _ _ _ k _ HTR.out.own hk e))
    have M9 := Lib.hid (own_turn HTR.out.mid TX.out (fun k hk e => far _ _ _ k _ HTR.out.mid hk e))
    have T9 := Lib.hid (HTR.out.t.and TX.out (fun i hi e => by have e' : i = bx := e; have := HL.out; omega))
    have S9 := Lib.hid (show rz < (wc.setCell ⟨bx, 3, none⟩ (.slice bm nm cm)).heap.size from BZ9.out.lt)
    generalize wc.setCell ⟨bx, 3, none⟩ (.slice bm nm cm) = w9 at BX9 BZ9 O9 M9 T9 S9 ⊢
    clear TX far HTR
    have hno : ((pulled s g).M g).length = no := by have := O9.out.1; simpa using this
    have hnmm : ((pulled s g).M s.n).length = nm := by have := M9.out.1; simpa using this
    have HNO := Lib.hid hno
    have HNMM := Lib.hid hnmm
    have hno64 : no ≤ 64 := by rw [← hno]; exact (HG.out.pulled hg).row (i := g) (Nat.le_of_lt hg)
    by_cases he : (pulled s g).M g = []
    · have hz : no = 0 := by rw [← hno, he]; rfl
      have hd0 : decide (0 < no) = false := decide_eq_false (by omega)
      have hMN := mid_none hg he
      have d0 := BX9.out.d0
      have d4 := BX9.out.d4
      have f4 := BX9.out.fr 4
      by_cases hf : s.fresh < s.size
      · have HR2 := Lib.hid (show r = (withF (pulled s g) (s.fresh + 1), (s.fresh : Int), true) by rw [HR.out]; unfold takeN; rw [if_pos he, if_pos hf])
        have HMN := Lib.hid hMN
        obtain ⟨f1, hf1⟩ : ∃ f1 : Nat, (s.fresh : Int) + 1 = (f1 : Int) := ⟨s.fresh + 1, rfl⟩
        have HF1 := Lib.hid (show f1 = s.fresh + 1 by omega)
        have hf1b : f1 ≤ 64 := by omega
        clear hno hnmm hz hMN he
        go_upto_region 15 with fail
        clear d0 d4 f4 hf1
        have TX := Lib.hid (setCell_turn w9 bx 4 (.int .i64 f1))
        have BX8 := Lib.hid (BX9.out.put4 f1)
        have BZ8 := Lib.hid (BZ9.out.turn TX.out (fun e => by have e' : rz = bx := e; have := HL.out; omega))
        have M8 := Lib.hid (own_turn M9.out TX.out (fun k hk e => by have := (M9.out.lt k hk).1; have e' : k = bx := e; have := HL.out; omega))
        have T8 := Lib.hid (T9.out.and TX.out (fun i hi e => by have e' : i = bx := e; have := HL.out; omega))
        generalize w9.setCell ⟨bx, 4, none⟩ (.int .i64 f1) = w8 at BX8 BZ8 M8 T8 ⊢
        clear TX BX9 BZ9 O9 M9 T9
        refine stand_start (by kernel_rfl) 99 (fun w' => w'.cell? ⟨bx, 0, none⟩ = some (.int .i64 s.size) ∧ w'.cell? ⟨bx, 1, none⟩ = some (.int .i64 s.most) ∧ w'.cell? ⟨bx, 2, none⟩ = some (.slice (some ad) s.n cc) ∧ w'.cell? ⟨bx, 3, none⟩ = some (.slice bm nm cm) ∧ w'.cell? ⟨bx, 4, none⟩ = some (.int .i64 f1)) 99 (fun w' => True) ⟨BX8.out.d0, BX8.out.d1, BX8.out.d2, BX8.out.d3, BX8.out.d4⟩ trivial ?_
        refine stand_load3 (i := 0) (v := ?_) rfl (by kernel_rfl) (by kernel_rfl) (by kernel_rfl) (by rfl) (fun _ _ _ h => h) (by decide) (by decide) (by kernel_rfl) (by rfl) ?_ ?_
        rotate_left
        · (intro w hA; (try dsimp only at hA); go_simp; try with_reducible rfl)
        dsimp only [List.set_cons_zero, List.set_cons_succ]
        refine stand_take (i := 1) (v := ?_) rfl (by kernel_rfl) (by kernel_rfl) (by kernel_rfl) (by rfl) (fun _ _ _ h => h) (by decide) (by decide) (by rfl) ?_ ?_
        rotate_left
        · (intro w; go_simp; try with_reducible rfl)
        dsimp only [List.set_cons_zero, List.set_cons_succ]
        refine stand_load3 (i := 2) (v := ?_) rfl (by kernel_rfl) (by kernel_rfl) (by kernel_rfl) (by rfl) (fun _ _ _ h => h) (by decide) (by decide) (by kernel_rfl) (by rfl) ?_ ?_
        rotate_left
        · (intro w hA; (try dsimp only at hA); go_simp; try with_reducible rfl)
        dsimp only [List.set_cons_zero, List.set_cons_succ]
        have hwr : IntKind.i64.wrap ((f1 : Int) - 1) = (s.fresh : Int) := by rw [IntWalk.i64_in _ (by omega)]; have := HF1.out; omega
        refine stand_take (i := 3) (v := ?_) rfl (by kernel_rfl) (by kernel_rfl) (by kernel_rfl) (by rfl) (fun _ _ _ h => h) (by decide) (by decide) (by rfl) ?_ ?_
        rotate_left
        · (intro w; go_simp; try with_reducible rfl)
        dsimp only [List.set_cons_zero, List.set_cons_succ]
        clear hwr
        have z0 := BZ8.out.d0
        have z1 := BZ8.out.d1
        have z2 := BZ8.out.d2
        have z3 := BZ8.out.d3
        have z4 := BZ8.out.d4
        have g0 := BZ8.out.fr 0
        have g1 := BZ8.out.fr 1
        have g2 := BZ8.out.fr 2
        have g3 := BZ8.out.fr 3
        have g4 := BZ8.out.fr 4
        have TF := Lib.hid ((store5_turn w8 rz (.int .i64 s.size) (.int .i64 s.most) (.slice (some ad) s.n cc) (.slice bm nm cm) (.int .i64 f1)).drew)
        have BXF := Lib.hid (BX8.out.turn TF.out (fun e => by have e' : bx = rz := e; have := HL.out; omega))
        refine stand_step (i := 4) (by kernel_rfl) rfl (fun K hK => ?_)
        go_simp
        clear z0 z1 z2 z3 z4 g0 g1 g2 g3 g4
        refine hK.out _ _ (fun _ => ⟨BXF.out.d0, BXF.out.d1, BXF.out.d2, BXF.out.d3, BXF.out.d4⟩) (fun _ => trivial) ?_
        clear hK K
        try simp only [put_laid, List.set_cons_zero, List.set_cons_succ]
        refine stand_take (i := 5) (v := ?_) rfl (by kernel_rfl) (by kernel_rfl) (by kernel_rfl) (by rfl) (fun _ _ _ h => h) (by decide) (by decide) (by rfl) ?_ ?_
        rotate_left
        · (intro w; go_simp; try with_reducible rfl)
        dsimp only [List.set_cons_zero, List.set_cons_succ]
        refine stand_take (i := 6) (v := ?_) rfl (by kernel_rfl) (by kernel_rfl) (by kernel_rfl) (by rfl) (fun _ _ _ h => h) (by decide) (by decide) (by rfl) ?_ ?_
        rotate_left
        · (intro w; go_simp; try with_reducible rfl)
        dsimp only [List.set_cons_zero, List.set_cons_succ]
        refine stand_done (by kernel_rfl) ?_
        go_wp2_with fail
        have BF := Lib.hid (show RBox (((((w8.setCell ⟨rz, 0, none⟩ (.int .i64 s.size)).setCell ⟨rz, 1, none⟩ (.int .i64 s.most)).setCell ⟨rz, 2, none⟩ (.slice (some ad) s.n cc)).setCell ⟨rz, 3, none⟩ (.slice bm nm cm)).setCell ⟨rz, 4, none⟩ (.int .i64 f1)).drew rz s.size s.most (some ad) s.n cc bm nm cm f1 from (BZ8.out.store).drew)
        generalize (((((w8.setCell ⟨rz, 0, none⟩ (.int .i64 s.size)).setCell ⟨rz, 1, none⟩ (.int .i64 s.most)).setCell ⟨rz, 2, none⟩ (.slice (some ad) s.n cc)).setCell ⟨rz, 3, none⟩ (.slice bm nm cm)).setCell ⟨rz, 4, none⟩ (.int .i64 f1)).drew = wf at TF BF BXF ⊢
        have d0 := BF.out.d0
        have d1 := BF.out.d1
        have d2 := BF.out.d2
        have d3 := BF.out.d3
        have d4 := BF.out.d4
        have TW : Turn (fun _ => False) w wf := T8.out.and TF.out (fun i hi e => by have e' : i = rz := e; have := HL.out; omega)
        have MF := own_turn M8.out TF.out (fun k hk e => by have := (M8.out.lt k hk).1; have e' : k = rz := e; omega)
        have hrs : RS wf (midS s ((pulled s g).M s.n)) (some ad) cc bm cm (Dn D w wf) := ((H.out.new TW).mono (fun i e => Or.inl e)).mid' (own_reads MF).2.1 (fun x e => Or.inr (by
          subst e
          have := MF.lt x.block (by rw [own_block]; rfl)
          have := HL.out
          omega)) (own_reads MF).2.2.2
        rw [HMN.out] at hrs
        refine bodyPost_ret (v := .tuple #[ragg s.size s.most (some ad) s.n cc bm nm cm f1, .int .i64 s.fresh, .bool true]) (by simp [results, Try.results16, go_sem, ragg, d0, d1, d2, d3, d4]) rfl ⟨some ad, cc, bm, cm, ?_, ?_, TW⟩
        · rw [HR2.out]
          show _ = Ending.returned (.tuple #[ragg s.size s.most (some ad) s.n cc bm ((pulled s g).M s.n).length cm (s.fresh + 1), .int .i64 s.fresh, .bool true])
          rw [HNMM.out, HF1.out]
        · rw [HR2.out]
          exact ⟨hrs.row, hrs.mid, hrs.midD, hrs.midN, hrs.caD, hrs.caN⟩
      · have HR2 := Lib.hid (show r = (pulled s g, 0, false) by rw [HR.out]; unfold takeN; rw [if_pos he, if_neg hf])
        have HMN := Lib.hid hMN
        have hle : decide (s.fresh < s.size) = false := decide_eq_false hf
        have d1 := BX9.out.d1
        have d2 := BX9.out.d2
        have d3 := BX9.out.d3
        have z0 := BZ9.out.d0
        have z1 := BZ9.out.d1
        have z2 := BZ9.out.d2
        have z3 := BZ9.out.d3
        have z4 := BZ9.out.d4
        have g0 := BZ9.out.fr 0
        have g1 := BZ9.out.fr 1
        have g2 := BZ9.out.fr 2
        have g3 := BZ9.out.fr 3
        have g4 := BZ9.out.fr 4
        clear hno hnmm hz hMN he hf
        go_wp2_with fail
        clear d0 d1 d2 d3 d4 f4 z0 z1 z2 z3 z4 g0 g1 g2 g3 g4
        have TF := Lib.hid (store5_turn w9 rz (.int .i64 s.size) (.int .i64 s.most) (.slice (some ad) s.n cc) (.slice bm nm cm) (.int .i64 s.fresh))
        have BF := Lib.hid (BZ9.out.store (size' := s.size) (most' := s.most) (ca' := some ad) (n' := s.n) (cc' := cc) (ma' := bm) (nm' := nm) (mc' := cm) (fresh' := s.fresh))
        generalize ((((w9.setCell ⟨rz, 0, none⟩ (.int .i64 s.size)).setCell ⟨rz, 1, none⟩ (.int .i64 s.most)).setCell ⟨rz, 2, none⟩ (.slice (some ad) s.n cc)).setCell ⟨rz, 3, none⟩ (.slice bm nm cm)).setCell ⟨rz, 4, none⟩ (.int .i64 s.fresh) = wf at TF BF ⊢
        have d0 := BF.out.d0
        have d1 := BF.out.d1
        have d2 := BF.out.d2
        have d3 := BF.out.d3
        have d4 := BF.out.d4
        have TW : Turn (fun _ => False) w wf := T9.out.and TF.out (fun i hi e => by have e' : i = rz := e; have := HL.out; omega)
        have MF := own_turn M9.out TF.out (fun k hk e => by have := (M9.out.lt k hk).1; have e' : k = rz := e; omega)
        have hrs : RS wf (midS s ((pulled s g).M s.n)) (some ad) cc bm cm (Dn D w wf) := ((H.out.new TW).mono (fun i e => Or.inl e)).mid' (own_reads MF).2.1 (fun x e => Or.inr (by
          subst e
          have := MF.lt x.block (by rw [own_block]; rfl)
          have := HL.out
          omega)) (own_reads MF).2.2.2
        rw [HMN.out] at hrs
        refine bodyPost_ret (v := .tuple #[ragg s.size s.most (some ad) s.n cc bm nm cm s.fresh, .int .i64 0, .bool false]) (by simp [results, Try.results16, go_sem, ragg, d0, d1, d2, d3, d4]) rfl ⟨some ad, cc, bm, cm, ?_, ?_, TW⟩
        · rw [HR2.out]
          show _ = Ending.returned (.tuple #[ragg s.size s.most (some ad) s.n cc bm ((pulled s g).M s.n).length cm s.fresh, .int .i64 0, .bool false])
          rw [HNMM.out]
        · rw [HR2.out]
          exact hrs
    · have HR2 := Lib.hid (show r = (withM (pulled s g) g (cut ((pulled s g).M g)), lastOf ((pulled s g).M g), true) by rw [HR.out]; unfold takeN; rw [if_neg he])
      have hz : no ≠ 0 := fun e => he (List.eq_nil_of_length_eq_zero (hno.trans e))
      obtain ⟨m, hm⟩ : ∃ m, no = m + 1 := ⟨no - 1, by omega⟩
      have hno0 : 0 < no := by omega
      have hm1 : (no : Int) - 1 = (m : Int) := by omega
      obtain ⟨go, co', hform, _, hcc, _⟩ := own_form O9.out hno0
      cases hform
      obtain ⟨cx, _⟩ := own_cells O9.out (j := m) (by omega)
      have hx : ((pulled s g).M g).getD m 0 = lastOf ((pulled s g).M g) := by unfold lastOf; rw [hno, hm]; rfl
      rw [hx] at cx
      have OC := Lib.hid (own_cut O9.out (m := m) (M := cut ((pulled s g).M g)) (by omega) (by unfold cut; rw [hno, hm]; rfl))
      have hlt2 : m < no := by omega
      have hmc : m ≤ co := by omega
      have hmc2 : (m : Int) ≤ (co : Int) := by omega
      have hm0 : (0 : Int) ≤ (m : Int) := by omega
      have HMW := Lib.hid (mid_with hg (cut ((pulled s g).M g)))
      generalize lastOf ((pulled s g).M g) = x at cx HR2
      have hwr : IntKind.i64.wrap ((no : Int) - 1) = (m : Int) := by rw [IntWalk.i64_in _ (by omega)]; exact hm1
      have HWR := Lib.hid hwr
      have HMM := Lib.hid hm
      clear he hz hm hcc hx hno hnmm hwr
      go_upto_region 12 with fail
      clear cx hm1
      have RS9 := Lib.hid (show RS w9.drew (midS s ((pulled s g).M s.n)) (some ad) cc bm cm (fun i => D i ∨ (rz < i ∧ i < w9.heap.size)) from (((H.out.new T9.out).mono (fun i e => Or.inl e)).mid' (own_reads M9.out).2.1 (fun x e => Or.inr (by
          subst e
          have := M9.out.lt x.block (by rw [own_block]; rfl)
          omega)) (own_reads M9.out).2.2.2).new (Turn.refl _ w9).drew)
      have hw := with_any (s := midS s ((pulled s g).M s.n)) (la := some ⟨go, 0, none⟩) (nl := m) (lc := co) (L := cut ((pulled s g).M g)) w9.drew RS9.out hn8 hg (own_reads OC.out).2.1 (by rw [cut_length, HNO.out, HMM.out]; rfl) (fun x e => Or.inr (by
          cases e
          have := O9.out.lt go rfl
          show rz < go ∧ go < w9.heap.size
          omega)) (fun e => (by cases e)) hmc
      have hml : ((midS s ((pulled s g).M s.n)).M s.n).length = nm := (congrArg List.length (upd_same s.M s.n _)).trans HNMM.out
      have hw2 : Calls Try.prog 31 #[.agg #[.int .i64 s.size, .int .i64 s.most, .slice (some ad) s.n cc, .slice bm nm cm, .int .i64 s.fresh], .int .i64 g, .slice (some ⟨go, 0, none⟩) m co] w9.drew (WithPost (midS s ((pulled s g).M s.n)) (withM (midS s ((pulled s g).M s.n)) g (cut ((pulled s g).M g))) bm cm (fun i => D i ∨ (rz < i ∧ i < w9.heap.size)) w9.drew) := by
        have hw3 : Calls Try.prog 31 #[.agg #[.int .i64 s.size, .int .i64 s.most, .slice (some ad) s.n cc, .slice bm ((midS s ((pulled s g).M s.n)).M s.n).length cm, .int .i64 s.fresh], .int .i64 g, .slice (some ⟨go, 0, none⟩) m co] w9.drew (WithPost (midS s ((pulled s g).M s.n)) (withM (midS s ((pulled s g).M s.n)) g (cut ((pulled s g).M g))) bm cm (fun i => D i ∨ (rz < i ∧ i < w9.heap.size)) w9.drew) := hw
        rw [hml] at hw3
        exact hw3
      have hml2 : ((withM (midS s ((pulled s g).M s.n)) g (cut ((pulled s g).M g))).M s.n).length = nm := (congrArg List.length (upd_other _ _ (show s.n ≠ g by omega))).trans hml
      have HW2 := Lib.hid (show Calls Try.prog 31 #[.agg #[.int .i64 s.size, .int .i64 s.most, .slice (some ad) s.n cc, .slice bm nm cm, .int .i64 s.fresh], .int .i64 g, .slice (some ⟨go, 0, none⟩) m co] w9.drew (fun e w' => ∃ cb cc', e = .returned (.agg #[.int .i64 s.size, .int .i64 s.most, .slice (some ⟨cb, 0, none⟩) s.n cc', .slice bm nm cm, .int .i64 s.fresh]) ∧ RS w' (withM (pulled s g) g (cut ((pulled s g).M g))) (some ⟨cb, 0, none⟩) cc' bm cm (Dn (fun i => D i ∨ (rz < i ∧ i < w9.heap.size)) w9.drew w') ∧ Turn (fun _ => False) w9.drew w') from hw2.mono (by
        rintro e w' ⟨cb, cc', rfl, h1, h2⟩
        rw [HMW.out] at h1
        refine ⟨cb, cc', ?_, h1, h2⟩
        show Ending.returned (ragg s.size s.most (some ⟨cb, 0, none⟩) s.n cc' bm ((withM (midS s ((pulled s g).M s.n)) g (cut ((pulled s g).M g))).M s.n).length cm s.fresh) = _
        rw [hml2]
        rfl))
      clear hw hw2 hml hml2
      refine stand_start (by kernel_rfl) 7 (fun w' => w'.cell? ⟨bx, 0, none⟩ = some (.int .i64 s.size) ∧ w'.cell? ⟨bx, 1, none⟩ = some (.int .i64 s.most) ∧ w'.cell? ⟨bx, 2, none⟩ = some (.slice (some ad) s.n cc) ∧ w'.cell? ⟨bx, 3, none⟩ = some (.slice bm nm cm) ∧ w'.cell? ⟨bx, 4, none⟩ = some (.int .i64 s.fresh)) 7 (fun w' => True) ⟨BX9.out.d0, BX9.out.d1, BX9.out.d2, BX9.out.d3, BX9.out.d4⟩ trivial ?_
      refine stand_load1 (i := 0) (v := ?_) rfl (by kernel_rfl) (by kernel_rfl) (by kernel_rfl) (by rfl) (fun _ _ _ h => h) (by decide) (by decide) (by kernel_rfl) (by rfl) ?_ ?_
      rotate_left
      · (intro w hA; (try dsimp only at hA); go_simp; try with_reducible rfl)
      dsimp only [List.set_cons_zero, List.set_cons_succ]
      refine stand_take (i := 1) (v := ?_) rfl (by kernel_rfl) (by kernel_rfl) (by kernel_rfl) (by rfl) (fun _ _ _ h => h) (by decide) (by decide) (by rfl) ?_ ?_
      rotate_left
      · (intro w; go_simp; try with_reducible rfl)
      dsimp only [List.set_cons_zero, List.set_cons_succ]
      refine stand_take (i := 2) (v := ?_) rfl (by kernel_rfl) (by kernel_rfl) (by kernel_rfl) (by rfl) (fun _ _ _ h => h) (by decide) (by decide) (by rfl) ?_ ?_
      rotate_left
      · (intro w; go_simp; try with_reducible rfl)
      dsimp only [List.set_cons_zero, List.set_cons_succ]
      refine stand_take (i := 3) (v := ?_) rfl (by kernel_rfl) (by kernel_rfl) (by kernel_rfl) (by rfl) (fun _ _ _ h => h) (by decide) (by decide) (by rfl) ?_ ?_
      rotate_left
      · (intro w; go_simp; try with_reducible rfl)
      dsimp only [List.set_cons_zero, List.set_cons_succ]
      refine stand_take (i := 4) (v := ?_) rfl (by kernel_rfl) (by kernel_rfl) (by kernel_rfl) (by rfl) (fun _ _ _ h => h) (by decide) (by decide) (by rfl) ?_ ?_
      rotate_left
      · (intro w; go_simp; try with_reducible rfl)
      dsimp only [List.set_cons_zero, List.set_cons_succ]
      have hwr := HWR.out
      refine stand_take (i := 5) (v := ?_) rfl (by kernel_rfl) (by kernel_rfl) (by kernel_rfl) (by rfl) (fun _ _ _ h => h) (by decide) (by decide) (by rfl) ?_ ?_
      rotate_left
      · (intro w; go_simp; try with_reducible rfl)
      dsimp only [List.set_cons_zero, List.set_cons_succ]
      clear hwr
      refine stand_take (i := 6) (v := ?_) rfl (by kernel_rfl) (by kernel_rfl) (by kernel_rfl) (by rfl) (fun _ _ _ h => h) (by decide) (by decide) (by rfl) ?_ ?_
      rotate_left
      · (intro w; go_simp; try with_reducible rfl)
      dsimp only [List.set_cons_zero, List.set_cons_succ]
      refine stand_take (i := 8) (v := ?_) rfl (by kernel_rfl) (by kernel_rfl) (by kernel_rfl) (by rfl) (fun _ _ _ h => h) (by decide) (by decide) (by rfl) ?_ ?_
      rotate_left
      · (intro w; go_simp; try with_reducible rfl)
      dsimp only [List.set_cons_zero, List.set_cons_succ]
      refine stand_step (i := 7) (by kernel_rfl) rfl (fun K hK => ?_)
      go_simp
      refine HW2.out.mono ?_
      rintro e w7 ⟨cb, cc7, rfl, rs7, t7⟩
      have RS7 := Lib.hid rs7
      have T7 := Lib.hid t7
      clear rs7 t7
      refine hK.out _ _ (past (by kernel_rfl)) (past (by kernel_rfl)) ?_
      clear hK K
      try simp only [put_laid, List.set_cons_zero, List.set_cons_succ]
      have BZ7 := Lib.hid (BZ9.out.turn ((Turn.refl (fun _ => False) w9).drew.trans T7.out) id)
      have z0 := BZ7.out.d0
      have z1 := BZ7.out.d1
      have z2 := BZ7.out.d2
      have z3 := BZ7.out.d3
      have z4 := BZ7.out.d4
      have g0 := BZ7.out.fr 0
      have g1 := BZ7.out.fr 1
      have g2 := BZ7.out.fr 2
      have g3 := BZ7.out.fr 3
      have g4 := BZ7.out.fr 4
      refine stand_step (i := 9) (by kernel_rfl) rfl (fun K hK => ?_)
      go_simp
      clear z0 z1 z2 z3 z4 g0 g1 g2 g3 g4
      refine hK.out _ _ (past (by kernel_rfl)) (past (by kernel_rfl)) ?_
      clear hK K
      try simp only [put_laid, List.set_cons_zero, List.set_cons_succ]
      refine stand_take (i := 10) (v := ?_) rfl (by kernel_rfl) (by kernel_rfl) (by kernel_rfl) (by rfl) (fun _ _ _ h => h) (by decide) (by decide) (by rfl) ?_ ?_
      rotate_left
      · (intro w; go_simp; try with_reducible rfl)
      dsimp only [List.set_cons_zero, List.set_cons_succ]
      refine stand_take (i := 11) (v := ?_) rfl (by kernel_rfl) (by kernel_rfl) (by kernel_rfl) (by rfl) (fun _ _ _ h => h) (by decide) (by decide) (by rfl) ?_ ?_
      rotate_left
      · (intro w; go_simp; try with_reducible rfl)
      dsimp only [List.set_cons_zero, List.set_cons_succ]
      refine stand_done (by kernel_rfl) ?_
      go_wp2_with fail
      have TF := Lib.hid ((store5_turn w7 rz (.int .i64 s.size) (.int .i64 s.most) (.slice (some ⟨cb, 0, none⟩) s.n cc7) (.slice bm nm cm) (.int .i64 s.fresh)))
      have BF := Lib.hid (BZ7.out.store (size' := s.size) (most' := s.most) (ca' := some ⟨cb, 0, none⟩) (n' := s.n) (cc' := cc7) (ma' := bm) (nm' := nm) (mc' := cm) (fresh' := s.fresh))
      generalize ((((w7.setCell ⟨rz, 0, none⟩ (.int .i64 s.size)).setCell ⟨rz, 1, none⟩ (.int .i64 s.most)).setCell ⟨rz, 2, none⟩ (.slice (some ⟨cb, 0, none⟩) s.n cc7)).setCell ⟨rz, 3, none⟩ (.slice bm nm cm)).setCell ⟨rz, 4, none⟩ (.int .i64 s.fresh) = wf at TF BF ⊢
      have d0 := BF.out.d0
      have d1 := BF.out.d1
      have d2 := BF.out.d2
      have d3 := BF.out.d3
      have d4 := BF.out.d4
      have T97 : Turn (fun _ => False) w w7 := (T9.out.drewN 1).trans T7.out
      have TW : Turn (fun _ => False) w wf := T97.and TF.out (fun i hi e => by have e' : i = rz := e; have := HL.out; omega)
      have hsz := T9.out.size
      have hsz7 : w9.heap.size ≤ w7.heap.size := T7.out.size
      have hszf := TF.out.size
      have hrs := (RS7.out.turn TF.out (fun i hi e => by
        have e' : i = rz := e
        have hs9 := S9.out
        have hlo := HL.out
        rcases hi with (h1 | h1) | h1
        · have := HDB.out i h1; omega
        · omega
        · have h2 : w9.heap.size ≤ i := h1.1
          omega)).mono (D' := Dn D w wf) (fun i hi => by
        have hlo := HL.out
        rcases hi with (h1 | h1) | h1
        · exact Or.inl h1
        · exact Or.inr ⟨by omega, by omega⟩
        · have h2 : w9.heap.size ≤ i := h1.1
          exact Or.inr ⟨by omega, by omega⟩)
      refine bodyPost_ret (v := .tuple #[ragg s.size s.most (some ⟨cb, 0, none⟩) s.n cc7 bm nm cm s.fresh, .int .i64 x, .bool true]) (by simp [results, Try.results16, go_sem, ragg, d0, d1, d2, d3, d4]) rfl ⟨some ⟨cb, 0, none⟩, cc7, bm, cm, ?_, ?_, TW⟩
      · rw [HR2.out]
        show _ = Ending.returned (.tuple #[ragg s.size s.most (some ⟨cb, 0, none⟩) s.n cc7 bm ((withM (pulled s g) g (cut ((pulled s g).M g))).M s.n).length cm s.fresh, .int .i64 x, .bool true])
        rw [show (withM (pulled s g) g (cut ((pulled s g).M g))).M s.n = (pulled s g).M s.n from upd_other _ _ (by omega), HNMM.out]
      · rw [HR2.out]
        exact hrs

end Go.Proofs.Ytmjenbkhmhpleaa
