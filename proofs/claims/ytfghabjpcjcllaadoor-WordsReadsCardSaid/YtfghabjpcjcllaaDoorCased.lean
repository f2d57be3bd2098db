/- The document's cased: words behind a select's as its cases. -/
import Derived.Test.YtfghabjpcjcllaaDoorOneW
import Derived.Test.YtfghabjpcjcllaaDoorMPure
import Derived.Test.YtfghabjpcjcllaaDoorDOnS
namespace Go.Proofs.YtfghabjpcjcllaaDoor
open Go.RowKit
set_option linter.unusedVariables false

def GivesO (w : World) (o : Option (List Cas × Bool)) (e : Ending) (w' : World) : Prop := Turn (fun _ => False) w w' ∧ ∃ (r : OpV) (ok : Bool), e = .returned (.tuple #[r.val, .bool ok]) ∧ ok = o.isSome ∧ ∀ cs el, o = some (cs, el) → BOp w' 40 r ⟨9, 0, 0, 0, cs, el⟩

theorem gives_of {w w' : World} {o : Option (List Cas × Bool)} {r : OpV} {ok : Bool} (t : Turn (fun _ => False) w w') (h1 : ok = o.isSome) (h2 : ∀ cs el, o = some (cs, el) → BOp w' 40 r ⟨9, 0, 0, 0, cs, el⟩) : GivesO w o (.returned (.tuple #[r.val, .bool ok])) w' := ⟨t, r, ok, rfl, h1, h2⟩
set_option maxRecDepth 100000 in
set_option maxHeartbeats 4000000 in
theorem rcased_any (s : Sl) (W : List Tx) (n : Nat) (o : Option (List Cas × Bool)) (w : World) (hw : RTs w s W) (hn : W.length = n) (hm : n ≤ 100000) (ho : casedG n [] false W = o) (hf : ∀ x ∈ W, x.length ≤ 100000) :
    Calls Tryd.prog 51 #[.slice s.ao n s.cap] w (GivesO w o) := by
  have HW := Lib.hid hw
  have HF := Lib.hid hf
  have HO := Lib.hid ho
  have HN := Lib.hid hn
  clear hw hf ho hn
  have A0 := Lib.hid (ons_new w 9)
  have G0 := Lib.hid (GCs.nil ((w.alloc (.cells #[.int .i64 0, .int .i64 0, .int .i64 0, .int .i64 0, .slice none 0 0, .bool false] 25)).alloc (.cells #[.int .i64 9, .int .i64 0, .int .i64 0, .int .i64 0, .slice none 0 0, .bool false] 25)) 40 (w.heap.size + 1 + 1))
  obtain ⟨ao, len, cap⟩ := s
  dsimp only
  go_enter Tryd.func51, Tryd.ntmps51
  go_upto_region 3 with fail
  generalize (w.alloc (.cells #[.int .i64 0, .int .i64 0, .int .i64 0, .int .i64 0, .slice none 0 0, .bool false] 25)).alloc (.cells #[.int .i64 9, .int .i64 0, .int .i64 0, .int .i64 0, .slice none 0 0, .bool false] 25) = w0 at A0 G0 ⊢
  obtain ⟨rz, hrz⟩ : ∃ b, w.heap.size = b := ⟨_, rfl⟩
  obtain ⟨bx, hbx⟩ : ∃ b, w.heap.size + 1 = b := ⟨_, rfl⟩
  rw [hbx, hrz] at A0
  rw [hbx] at G0
  rw [hbx, hrz]
  have HRZ := Lib.hid hrz
  clear hbx hrz
  go_loopw [5] (fun s5 wr => ∃ (k : Nat) (sl : Sl) (cs : List Cas) (els : Bool), s5 = .int .i64 k ∧ k ≤ n ∧ cs.length ≤ k ∧ Hid (OnS w wr rz bx 9 0 0 0 sl.val els) ∧ Hid (GCs wr 40 (bx + 1) sl cs) ∧ Hid (∃ f, n ≤ f + k ∧ casedG f cs els (W.drop k) = o)) (fun s5 _ => n - (intOf s5).toNat)
  case atStart => exact ⟨0, ⟨none, 0, 0⟩, [], false, rfl, Nat.zero_le _, Nat.le_refl _, A0, G0, Lib.hid ⟨n, Nat.le_refl _, HO.out⟩⟩
  case round =>
    clear A0 G0
    obtain ⟨k, ⟨sao, slen, scap⟩, cs, els, rfl, hk, hcl, A, G, HE⟩ := hrel
    have A : Hid (OnS w wr rz bx 9 0 0 0 (.slice sao slen scap) els) := A
    by_cases hlt : k < n
    · obtain ⟨x, hx⟩ : ∃ x, W[k]? = some x := ⟨_, List.getElem?_eq_getElem (by rw [HN.out]; exact hlt)⟩
      obtain ⟨a, ha, hcx⟩ := (HW.out.new A.out.t).at hx
      dsimp only at ha
      subst ha
      obtain ⟨b, hb⟩ : ∃ b, k + 1 = b := ⟨_, rfl⟩
      have hbI : (k : Int) + 1 = (b : Int) := by omega
      obtain ⟨f, hfn, hC⟩ : ∃ f, n ≤ f + 1 + k ∧ (if x ≠ wBar ∨ els = true then none else if (W.drop b).takeWhile notBar = [wElse] then casedG f cs true ((W.drop b).dropWhile notBar) else match oneV ((W.drop b).takeWhile notBar) with | none => none | some c => casedG f (cs ++ [c]) els ((W.drop b).dropWhile notBar)) = o := by
        obtain ⟨f, h1, h2⟩ := HE.out
        obtain ⟨hl, e⟩ := List.getElem?_eq_some_iff.1 hx
        rw [List.drop_eq_getElem_cons hl, e, hb] at h2
        cases f with
        | zero => omega
        | succ f => exact ⟨f, h1, h2⟩
      have HC := Lib.hid hC
      have HX := Lib.hid hx
      have HFN := Lib.hid hfn
      have HB := Lib.hid hb
      have hbn : b ≤ n := by omega
      obtain ⟨Sx, hSx⟩ : ∃ S, bs x = S := ⟨_, rfl⟩
      rw [hSx] at hcx
      have HSX := Lib.hid hSx
      have HCX := Lib.hid hcx
      clear hC hx hfn hb hSx HE hcx
      obtain ⟨⟨c0, c1, c2, c3, c4, c5⟩, g0, g1, g2, g3, g4, g5⟩ := A.out.x.cells
      go_upto_region 5 with fail
      go_loopw [6] (fun s6 wi => ∃ (j : Nat), s6 = .int .i64 j ∧ b ≤ j ∧ j ≤ n ∧ wi = wr ∧ Hid (∀ m y, b ≤ m → m < j → W[m]? = some y → y ≠ wBar)) (fun s6 _ => n - (intOf s6).toNat)
      case atStart => exact ⟨b, rfl, Nat.le_refl _, hbn, rfl, Lib.hid fun m y h1 h2 => absurd h2 (by omega)⟩
      case round =>
        obtain ⟨j, rfl, hbj, hjn, rfl, HM⟩ := hrel
        by_cases hlt2 : j < n
        · obtain ⟨y, hy⟩ : ∃ y, W[j]? = some y := ⟨_, List.getElem?_eq_getElem (by rw [HN.out]; exact hlt2)⟩
          obtain ⟨a', ha', hcy⟩ := (HW.out.new A.out.t).at hy
          cases ha'
          have HY := Lib.hid hy
          obtain ⟨yb, hyb⟩ : ∃ yb, decide (y = wBar) = yb := ⟨_, rfl⟩
          have hql := lit_text y wBar hyb
          unfold wBar at hql
          obtain ⟨Sy, hSy⟩ : ∃ S, bs y = S := ⟨_, rfl⟩
          rw [hSy] at hcy hql
          cases yb
          · have hny : y ≠ wBar := of_decide_eq_false hyb
            have HNY := Lib.hid hny
            clear hny hyb hy hSy
            go_wp2_with fail
            go_roundw
            case rel => exact ⟨j + 1, by go_num, by omega, by omega, trivial, Lib.hid fun m z h1 h2 hz => by
              rcases Nat.lt_or_ge m j with h | h
              · exact HM.out m z h1 h hz
              · obtain rfl : m = j := by omega
                rw [HY.out] at hz
                cases hz
                exact HNY.out⟩
            case measure => simp [intOf]; omega
          · have hyy : y = wBar := of_decide_eq_true hyb
            have HST := Lib.hid (show j = W.length ∨ W[j]? = some wBar from Or.inr (by rw [HY.out, hyy]))
            clear hyb hy hSy hyy
            have hsp := span_at hbj HM.out HST.out
            have hC := HC.out
            rw [hsp.1, hsp.2] at hC
            obtain ⟨P, hP⟩ : ∃ P, (W.drop b).take (j - b) = P := ⟨_, rfl⟩
            have HPL := Lib.hid (show P.length = j - b by rw [← hP, List.length_take, List.length_drop, HN.out]; omega)
            have HPF := Lib.hid (show ∀ z ∈ P, z.length ≤ 100000 from fun z hz => HF.out z (List.mem_of_mem_drop (List.mem_of_mem_take (hP ▸ hz))))
            have HPR := Lib.hid (hP ▸ part_rd (HW.out.new A.out.t) hbj (by rw [HN.out]; exact hjn))
            rw [hP] at hC
            have HC2 := Lib.hid hC
            clear hsp hC hP
            obtain ⟨xb, hxb⟩ : ∃ xb, decide (x = wBar) = xb := ⟨_, rfl⟩
            have hqx := lit_text x wBar hxb
            unfold wBar at hqx
            rw [HSX.out] at hqx
            have hcx := HCX.out
            cases xb
            · have HNO := Lib.hid (show o = none by have h := HC2.out; rw [if_pos (Or.inl (of_decide_eq_false hxb))] at h; exact h.symm)
              clear hxb
              obtain ⟨⟨z0, z1, z2, z3, z4, z5⟩, y0, y1, y2, y3, y4, y5⟩ := A.out.z.cells
              go_wp2_with fail
              clear c0 c1 c2 c3 c4 c5 g0 g1 g2 g3 g4 g5
              clear z0 z1 z2 z3 z4 z5 y0 y1 y2 y3 y4 y5
              have ZF := Lib.hid (A.out.z.all 9 0 0 0 (.slice sao slen scap) els)
              have TF := Lib.hid (A.out.t.and (six_turn wr rz (.int .i64 9) (.int .i64 0) (.int .i64 0) (.int .i64 0) (.slice sao slen scap) (.bool els)) (fun q hq e => by have := A.out.low; omega))
              have GF := Lib.hid (G.out.far (six_turn wr rz (.int .i64 9) (.int .i64 0) (.int .i64 0) (.int .i64 0) (.slice sao slen scap) (.bool els)) (fun q e => by have := A.out.nxt; omega))
              generalize ((((((wr.setCell ⟨rz, 0, none⟩ (.int .i64 9)).setCell ⟨rz, 1, none⟩ (.int .i64 0)).setCell ⟨rz, 2, none⟩ (.int .i64 0)).setCell ⟨rz, 3, none⟩ (.int .i64 0)).setCell ⟨rz, 4, none⟩ (.slice sao slen scap)).setCell ⟨rz, 5, none⟩ (.bool els)) = wf at ZF TF GF ⊢
              obtain ⟨⟨k0, k1, k2, k3, k4, k5⟩, _⟩ := ZF.out.cells
              refine bodyPost_ret (v := .tuple #[.agg #[.int .i64 9, .int .i64 0, .int .i64 0, .int .i64 0, .slice sao slen scap, .bool els], .bool false]) (by simp [results, Tryd.results51, go_sem, k0, k1, k2, k3, k4, k5]) rfl (gives_of (r := ⟨9, 0, 0, 0, ⟨sao, slen, scap⟩, els⟩) TF.out ?_ ?_)
              · rw [HNO.out]
                rfl
              · intro cs' el' h
                rw [HNO.out] at h
                cases h
            · cases els
              · have hxe : x = wBar := of_decide_eq_true hxb
                have HC3 := Lib.hid (show (if P = [wElse] then casedG f cs true (W.drop j) else match oneV P with | none => none | some c => casedG f (cs ++ [c]) false (W.drop j)) = o by have h := HC2.out; rw [if_neg (by rintro (h | h) <;> first | exact h hxe | cases h)] at h; exact h)
                clear hxb hxe
                have hcap : j ≤ cap := by
                  have h1 := HW.out.ok.len
                  have h2 := HW.out.ok.cap
                  dsimp only at h1 h2
                  have := HN.out
                  omega
                have hsl := mid_texts ⟨some a, len, cap⟩ (n := n) hbj hcap
                obtain ⟨m, hm0⟩ : ∃ m, j - b = m := ⟨_, rfl⟩
                obtain ⟨⟨pao, plen, pcap⟩, hpv⟩ : ∃ v, partV ⟨some a, len, cap⟩ b j = v := ⟨_, rfl⟩
                obtain rfl : plen = m := by rw [← hm0, ← show (partV ⟨some a, len, cap⟩ b j).len = j - b from rfl, hpv]
                rw [hpv] at hsl
                dsimp only at hsl
                have hpr := HPR.out
                rw [hpv] at hpr
                have HPR := Lib.hid hpr
                have hpl := HPL.out
                rw [hm0] at hpl
                have HPL := Lib.hid hpl
                have hmn : plen ≤ 100000 := by omega
                have hkj : cs.length ≤ j := by omega
                clear hpr hpl hpv hm0 hcap
                by_cases hel : P = [wElse]
                · have HC4 := Lib.hid (show casedG f cs true (W.drop j) = o by have h := HC3.out; rw [if_pos hel] at h; exact h)
                  obtain ⟨ad, had, hcp⟩ := HPR.out.at (i := 0) (x := wElse) (by rw [hel]; rfl)
                  dsimp only at had
                  subst had
                  rw [addr_zero] at hcp
                  obtain rfl : plen = 1 := by rw [← HPL.out, hel]; rfl
                  obtain ⟨Sp, hSp⟩ : ∃ S, bs wElse = S := ⟨_, rfl⟩
                  have hqp := lit_text wElse wElse (b := true) (by simp)
                  rw [hSp] at hqp hcp
                  unfold wElse at hqp
                  clear hSp hel
                  go_wp2_with fail
                  have A2 := Lib.hid (A.out.put5 true)
                  have G2 := Lib.hid (G.out.far (set_turn wr bx 5 (.bool true)) (fun q e => by omega))
                  clear c0 c1 c2 c3 c4 c5 g0 g1 g2 g3 g4 g5
                  generalize wr.setCell ⟨bx, 5, none⟩ (.bool true) = w2 at A2 G2 ⊢
                  go_roundw
                  case rel => exact ⟨j, ⟨sao, slen, scap⟩, cs, true, rfl, hjn, hkj, A2, G2, Lib.hid ⟨f, by have := HFN.out; have := HB.out; omega, HC4.out⟩⟩
                  case measure => have := HB.out; simp [intOf]; omega
                · have HC5 := Lib.hid (show (match oneV P with | none => none | some c => casedG f (cs ++ [c]) false (W.drop j)) = o by have h := HC3.out; rw [if_neg hel] at h; exact h)
                  obtain ⟨oc, hoc⟩ : ∃ oc, oneV P = oc := ⟨_, rfl⟩
                  have CO := Lib.hid (fun w h => rone_any ⟨pao, plen, pcap⟩ P plen oc w h HPL.out hmn hoc HPF.out)
                  have h5 := HC5.out
                  rw [hoc] at h5
                  have HC6 := Lib.hid h5
                  clear h5 hoc
                  by_cases hp1 : plen = 1
                  · subst hp1
                    obtain ⟨p0, hp0⟩ : ∃ p0, P = [p0] := by
                      have h := HPL.out
                      match P, h with
                      | [x], _ => exact ⟨x, rfl⟩
                    obtain ⟨ad, had, hcp⟩ := HPR.out.at (i := 0) (x := p0) (by rw [hp0]; rfl)
                    dsimp only at had
                    subst had
                    rw [addr_zero] at hcp
                    obtain ⟨Sp, hSp⟩ : ∃ S, bs p0 = S := ⟨_, rfl⟩
                    have hqp := lit_text p0 wElse (b := false) (by
                      rw [decide_eq_false_iff_not]
                      intro e
                      exact hel (by rw [hp0, e]))
                    rw [hSp] at hqp hcp
                    unfold wElse at hqp
                    clear hSp hel hp0
                    go_wp2_with fail
                    refine (CO.out _ HPR.out).mono ?_
                    rintro e w1 ⟨t1, ⟨ps, pc, pv⟩, ok, rfl, hok, hcc⟩
                    have A := Lib.hid (A.out.new t1)
                    have G := Lib.hid (G.out.new t1)
                    clear t1
                    clear c0 c1 c2 c3 c4 c5 g0 g1 g2 g3 g4 g5
                    obtain ⟨⟨c0, c1, c2, c3, c4, c5⟩, g0, g1, g2, g3, g4, g5⟩ := A.out.x.cells
                    unfold Cas.val
                    go_upto_region 13 with fail
                    have A := Lib.hid (A.out.new ((Turn.refl (fun _ => False) w1).alloc (.cells #[.bool ps, .int .i64 pc, .int .i64 pv] 40)))
                    have G := Lib.hid (G.out.new ((Turn.refl (fun _ => False) w1).alloc (.cells #[.bool ps, .int .i64 pc, .int .i64 pv] 40)))
                    have C : Hid (Three (w1.alloc (.cells #[.bool ps, .int .i64 pc, .int .i64 pv] 40)) w1.heap.size ps pc pv) := Lib.hid (blk_new w1 _ 40)
                    obtain ⟨cb, hcb⟩ : ∃ b, w1.heap.size = b := ⟨_, rfl⟩
                    rw [hcb] at C ⊢
                    clear c0 c1 c2 c3 c4 c5 g0 g1 g2 g3 g4 g5
                    generalize w1.alloc (.cells #[.bool ps, .int .i64 pc, .int .i64 pv] 40) = w2 at A G C ⊢
                    clear hcb
                    obtain ⟨⟨c0, c1, c2, c3, c4, c5⟩, g0, g1, g2, g3, g4, g5⟩ := A.out.x.cells
                    cases oc with
                    | none =>
                      have HNO := Lib.hid (show o = none from HC6.out.symm)
                      subst hok
                      obtain ⟨⟨z0, z1, z2, z3, z4, z5⟩, y0, y1, y2, y3, y4, y5⟩ := A.out.z.cells
                      go_wp2_with fail
                      clear c0 c1 c2 c3 c4 c5 g0 g1 g2 g3 g4 g5
                      clear z0 z1 z2 z3 z4 z5 y0 y1 y2 y3 y4 y5
                      have ZF := Lib.hid (A.out.z.all 9 0 0 0 (.slice sao slen scap) false)
                      have TF := Lib.hid (A.out.t.and (six_turn w2 rz (.int .i64 9) (.int .i64 0) (.int .i64 0) (.int .i64 0) (.slice sao slen scap) (.bool false)) (fun q hq e => by have := A.out.low; omega))
                      have GF := Lib.hid (G.out.far (six_turn w2 rz (.int .i64 9) (.int .i64 0) (.int .i64 0) (.int .i64 0) (.slice sao slen scap) (.bool false)) (fun q e => by have := A.out.nxt; omega))
                      generalize ((((((w2.setCell ⟨rz, 0, none⟩ (.int .i64 9)).setCell ⟨rz, 1, none⟩ (.int .i64 0)).setCell ⟨rz, 2, none⟩ (.int .i64 0)).setCell ⟨rz, 3, none⟩ (.int .i64 0)).setCell ⟨rz, 4, none⟩ (.slice sao slen scap)).setCell ⟨rz, 5, none⟩ (.bool false)) = wf at ZF TF GF ⊢
                      obtain ⟨⟨k0, k1, k2, k3, k4, k5⟩, _⟩ := ZF.out.cells
                      refine bodyPost_ret (v := .tuple #[.agg #[.int .i64 9, .int .i64 0, .int .i64 0, .int .i64 0, .slice sao slen scap, .bool false], .bool false]) (by simp [results, Tryd.results51, go_sem, k0, k1, k2, k3, k4, k5]) rfl (gives_of (r := ⟨9, 0, 0, 0, ⟨sao, slen, scap⟩, false⟩) TF.out ?_ ?_)
                      · rw [HNO.out]
                        rfl
                      · intro cs' el' h
                        rw [HNO.out] at h
                        cases h
                    | some c' =>
                      obtain rfl := hcc c' rfl
                      subst hok
                      have hbx2 : bx + 1 ≤ w2.heap.size := A.out.x.lt
                      obtain ⟨⟨d0, d1, d2⟩, _⟩ := C.out.cells
                      obtain ⟨k1, hk1⟩ : ∃ k1, cs.length + 1 = k1 := ⟨_, rfl⟩
                      have HK1 := Lib.hid hk1
                      have hk1j : k1 ≤ j := by have := HB.out; omega
                      clear hk1
                      go_upto_region 16 with (at_builtin; refine wpList_append_case Tryd.underlying23 info_case rfl (by decide) rfl (.tmp 64) (.tmp 66) rfl ⟨sao, slen, scap⟩ cs ⟨ps, pc, pv⟩ rfl rfl G.out rfl k1 HK1.out (by omega) hbx2 ?_; intro g gc w3 hg h3 t3 b3; have A3 := Lib.hid (A.out.turned t3.out (fun q e => by have := G.out.low q e; omega)); clear c0 c1 c2 c3 c4 c5 g0 g1 g2 g3 g4 g5; obtain ⟨⟨c0, c1, c2, c3, c4, c5⟩, g0, g1, g2, g3, g4, g5⟩ := A3.out.x.cells)
                      have A4 := Lib.hid (A3.out.put4 (.slice (some ⟨g, 0, none⟩) k1 gc))
                      have G4 := Lib.hid (h3.out.far (set_turn w3 bx 4 (.slice (some ⟨g, 0, none⟩) k1 gc)) (fun q e => by omega))
                      clear c0 c1 c2 c3 c4 c5 g0 g1 g2 g3 g4 g5
                      clear h3 t3 b3 A3 d0 d1 d2
                      generalize w3.setCell ⟨bx, 4, none⟩ (.slice (some ⟨g, 0, none⟩) k1 gc) = w4 at A4 G4 ⊢
                      go_wp2_with fail
                      go_roundw
                      case rel => exact ⟨j, ⟨some ⟨g, 0, none⟩, k1, gc⟩, cs ++ [⟨ps, pc, pv⟩], false, rfl, hjn, by rw [List.length_append, List.length_singleton, HK1.out]; exact hk1j, A4, G4, Lib.hid ⟨f, by have := HFN.out; have := HB.out; omega, HC6.out⟩⟩
                      case measure => have := HB.out; simp [intOf]; omega
                  · clear hel
                    go_wp2_with fail
                    refine (CO.out _ HPR.out).mono ?_
                    rintro e w1 ⟨t1, ⟨ps, pc, pv⟩, ok, rfl, hok, hcc⟩
                    have A := Lib.hid (A.out.new t1)
                    have G := Lib.hid (G.out.new t1)
                    clear t1
                    clear c0 c1 c2 c3 c4 c5 g0 g1 g2 g3 g4 g5
                    obtain ⟨⟨c0, c1, c2, c3, c4, c5⟩, g0, g1, g2, g3, g4, g5⟩ := A.out.x.cells
                    unfold Cas.val
                    go_upto_region 13 with fail
                    have A := Lib.hid (A.out.new ((Turn.refl (fun _ => False) w1).alloc (.cells #[.bool ps, .int .i64 pc, .int .i64 pv] 40)))
                    have G := Lib.hid (G.out.new ((Turn.refl (fun _ => False) w1).alloc (.cells #[.bool ps, .int .i64 pc, .int .i64 pv] 40)))
                    have C : Hid (Three (w1.alloc (.cells #[.bool ps, .int .i64 pc, .int .i64 pv] 40)) w1.heap.size ps pc pv) := Lib.hid (blk_new w1 _ 40)
                    obtain ⟨cb, hcb⟩ : ∃ b, w1.heap.size = b := ⟨_, rfl⟩
                    rw [hcb] at C ⊢
                    clear c0 c1 c2 c3 c4 c5 g0 g1 g2 g3 g4 g5
                    generalize w1.alloc (.cells #[.bool ps, .int .i64 pc, .int .i64 pv] 40) = w2 at A G C ⊢
                    clear hcb
                    obtain ⟨⟨c0, c1, c2, c3, c4, c5⟩, g0, g1, g2, g3, g4, g5⟩ := A.out.x.cells
                    cases oc with
                    | none =>
                      have HNO := Lib.hid (show o = none from HC6.out.symm)
                      subst hok
                      obtain ⟨⟨z0, z1, z2, z3, z4, z5⟩, y0, y1, y2, y3, y4, y5⟩ := A.out.z.cells
                      go_wp2_with fail
                      clear c0 c1 c2 c3 c4 c5 g0 g1 g2 g3 g4 g5
                      clear z0 z1 z2 z3 z4 z5 y0 y1 y2 y3 y4 y5
                      have ZF := Lib.hid (A.out.z.all 9 0 0 0 (.slice sao slen scap) false)
                      have TF := Lib.hid (A.out.t.and (six_turn w2 rz (.int .i64 9) (.int .i64 0) (.int .i64 0) (.int .i64 0) (.slice sao slen scap) (.bool false)) (fun q hq e => by have := A.out.low; omega))
                      have GF := Lib.hid (G.out.far (six_turn w2 rz (.int .i64 9) (.int .i64 0) (.int .i64 0) (.int .i64 0) (.slice sao slen scap) (.bool false)) (fun q e => by have := A.out.nxt; omega))
                      generalize ((((((w2.setCell ⟨rz, 0, none⟩ (.int .i64 9)).setCell ⟨rz, 1, none⟩ (.int .i64 0)).setCell ⟨rz, 2, none⟩ (.int .i64 0)).setCell ⟨rz, 3, none⟩ (.int .i64 0)).setCell ⟨rz, 4, none⟩ (.slice sao slen scap)).setCell ⟨rz, 5, none⟩ (.bool false)) = wf at ZF TF GF ⊢
                      obtain ⟨⟨k0, k1, k2, k3, k4, k5⟩, _⟩ := ZF.out.cells
                      refine bodyPost_ret (v := .tuple #[.agg #[.int .i64 9, .int .i64 0, .int .i64 0, .int .i64 0, .slice sao slen scap, .bool false], .bool false]) (by simp [results, Tryd.results51, go_sem, k0, k1, k2, k3, k4, k5]) rfl (gives_of (r := ⟨9, 0, 0, 0, ⟨sao, slen, scap⟩, false⟩) TF.out ?_ ?_)
                      · rw [HNO.out]
                        rfl
                      · intro cs' el' h
                        rw [HNO.out] at h
                        cases h
                    | some c' =>
                      obtain rfl := hcc c' rfl
                      subst hok
                      have hbx2 : bx + 1 ≤ w2.heap.size := A.out.x.lt
                      obtain ⟨⟨d0, d1, d2⟩, _⟩ := C.out.cells
                      obtain ⟨k1, hk1⟩ : ∃ k1, cs.length + 1 = k1 := ⟨_, rfl⟩
                      have HK1 := Lib.hid hk1
                      have hk1j : k1 ≤ j := by have := HB.out; omega
                      clear hk1
                      go_upto_region 16 with (at_builtin; refine wpList_append_case Tryd.underlying23 info_case rfl (by decide) rfl (.tmp 64) (.tmp 66) rfl ⟨sao, slen, scap⟩ cs ⟨ps, pc, pv⟩ rfl rfl G.out rfl k1 HK1.out (by omega) hbx2 ?_; intro g gc w3 hg h3 t3 b3; have A3 := Lib.hid (A.out.turned t3.out (fun q e => by have := G.out.low q e; omega)); clear c0 c1 c2 c3 c4 c5 g0 g1 g2 g3 g4 g5; obtain ⟨⟨c0, c1, c2, c3, c4, c5⟩, g0, g1, g2, g3, g4, g5⟩ := A3.out.x.cells)
                      have A4 := Lib.hid (A3.out.put4 (.slice (some ⟨g, 0, none⟩) k1 gc))
                      have G4 := Lib.hid (h3.out.far (set_turn w3 bx 4 (.slice (some ⟨g, 0, none⟩) k1 gc)) (fun q e => by omega))
                      clear c0 c1 c2 c3 c4 c5 g0 g1 g2 g3 g4 g5
                      clear h3 t3 b3 A3 d0 d1 d2
                      generalize w3.setCell ⟨bx, 4, none⟩ (.slice (some ⟨g, 0, none⟩) k1 gc) = w4 at A4 G4 ⊢
                      go_wp2_with fail
                      go_roundw
                      case rel => exact ⟨j, ⟨some ⟨g, 0, none⟩, k1, gc⟩, cs ++ [⟨ps, pc, pv⟩], false, rfl, hjn, by rw [List.length_append, List.length_singleton, HK1.out]; exact hk1j, A4, G4, Lib.hid ⟨f, by have := HFN.out; have := HB.out; omega, HC6.out⟩⟩
                      case measure => have := HB.out; simp [intOf]; omega
              · have HNO := Lib.hid (show o = none by have h := HC2.out; rw [if_pos (Or.inr rfl)] at h; exact h.symm)
                clear hxb
                obtain ⟨⟨z0, z1, z2, z3, z4, z5⟩, y0, y1, y2, y3, y4, y5⟩ := A.out.z.cells
                go_wp2_with fail
                clear c0 c1 c2 c3 c4 c5 g0 g1 g2 g3 g4 g5
                clear z0 z1 z2 z3 z4 z5 y0 y1 y2 y3 y4 y5
                have ZF := Lib.hid (A.out.z.all 9 0 0 0 (.slice sao slen scap) true)
                have TF := Lib.hid (A.out.t.and (six_turn wr rz (.int .i64 9) (.int .i64 0) (.int .i64 0) (.int .i64 0) (.slice sao slen scap) (.bool true)) (fun q hq e => by have := A.out.low; omega))
                have GF := Lib.hid (G.out.far (six_turn wr rz (.int .i64 9) (.int .i64 0) (.int .i64 0) (.int .i64 0) (.slice sao slen scap) (.bool true)) (fun q e => by have := A.out.nxt; omega))
                generalize ((((((wr.setCell ⟨rz, 0, none⟩ (.int .i64 9)).setCell ⟨rz, 1, none⟩ (.int .i64 0)).setCell ⟨rz, 2, none⟩ (.int .i64 0)).setCell ⟨rz, 3, none⟩ (.int .i64 0)).setCell ⟨rz, 4, none⟩ (.slice sao slen scap)).setCell ⟨rz, 5, none⟩ (.bool true)) = wf at ZF TF GF ⊢
                obtain ⟨⟨k0, k1, k2, k3, k4, k5⟩, _⟩ := ZF.out.cells
                refine bodyPost_ret (v := .tuple #[.agg #[.int .i64 9, .int .i64 0, .int .i64 0, .int .i64 0, .slice sao slen scap, .bool true], .bool false]) (by simp [results, Tryd.results51, go_sem, k0, k1, k2, k3, k4, k5]) rfl (gives_of (r := ⟨9, 0, 0, 0, ⟨sao, slen, scap⟩, true⟩) TF.out ?_ ?_)
                · rw [HNO.out]
                  rfl
                · intro cs' el' h
                  rw [HNO.out] at h
                  cases h
        · obtain rfl : j = n := by omega
          have HST := Lib.hid (show j = W.length ∨ W[j]? = some wBar from Or.inl HN.out.symm)
          have hsp := span_at hbj HM.out HST.out
          have hC := HC.out
          rw [hsp.1, hsp.2] at hC
          obtain ⟨P, hP⟩ : ∃ P, (W.drop b).take (j - b) = P := ⟨_, rfl⟩
          have HPL := Lib.hid (show P.length = j - b by rw [← hP, List.length_take, List.length_drop, HN.out]; omega)
          have HPF := Lib.hid (show ∀ z ∈ P, z.length ≤ 100000 from fun z hz => HF.out z (List.mem_of_mem_drop (List.mem_of_mem_take (hP ▸ hz))))
          have HPR := Lib.hid (hP ▸ part_rd (HW.out.new A.out.t) hbj (by rw [HN.out]; exact hjn))
          rw [hP] at hC
          have HC2 := Lib.hid hC
          clear hsp hC hP
          obtain ⟨xb, hxb⟩ : ∃ xb, decide (x = wBar) = xb := ⟨_, rfl⟩
          have hqx := lit_text x wBar hxb
          unfold wBar at hqx
          rw [HSX.out] at hqx
          have hcx := HCX.out
          cases xb
          · have HNO := Lib.hid (show o = none by have h := HC2.out; rw [if_pos (Or.inl (of_decide_eq_false hxb))] at h; exact h.symm)
            clear hxb
            obtain ⟨⟨z0, z1, z2, z3, z4, z5⟩, y0, y1, y2, y3, y4, y5⟩ := A.out.z.cells
            go_wp2_with fail
            clear c0 c1 c2 c3 c4 c5 g0 g1 g2 g3 g4 g5
            clear z0 z1 z2 z3 z4 z5 y0 y1 y2 y3 y4 y5
            have ZF := Lib.hid (A.out.z.all 9 0 0 0 (.slice sao slen scap) els)
            have TF := Lib.hid (A.out.t.and (six_turn wr rz (.int .i64 9) (.int .i64 0) (.int .i64 0) (.int .i64 0) (.slice sao slen scap) (.bool els)) (fun q hq e => by have := A.out.low; omega))
            have GF := Lib.hid (G.out.far (six_turn wr rz (.int .i64 9) (.int .i64 0) (.int .i64 0) (.int .i64 0) (.slice sao slen scap) (.bool els)) (fun q e => by have := A.out.nxt; omega))
            generalize ((((((wr.setCell ⟨rz, 0, none⟩ (.int .i64 9)).setCell ⟨rz, 1, none⟩ (.int .i64 0)).setCell ⟨rz, 2, none⟩ (.int .i64 0)).setCell ⟨rz, 3, none⟩ (.int .i64 0)).setCell ⟨rz, 4, none⟩ (.slice sao slen scap)).setCell ⟨rz, 5, none⟩ (.bool els)) = wf at ZF TF GF ⊢
            obtain ⟨⟨k0, k1, k2, k3, k4, k5⟩, _⟩ := ZF.out.cells
            refine bodyPost_ret (v := .tuple #[.agg #[.int .i64 9, .int .i64 0, .int .i64 0, .int .i64 0, .slice sao slen scap, .bool els], .bool false]) (by simp [results, Tryd.results51, go_sem, k0, k1, k2, k3, k4, k5]) rfl (gives_of (r := ⟨9, 0, 0, 0, ⟨sao, slen, scap⟩, els⟩) TF.out ?_ ?_)
            · rw [HNO.out]
              rfl
            · intro cs' el' h
              rw [HNO.out] at h
              cases h
          · cases els
            · have hxe : x = wBar := of_decide_eq_true hxb
              have HC3 := Lib.hid (show (if P = [wElse] then casedG f cs true (W.drop j) else match oneV P with | none => none | some c => casedG f (cs ++ [c]) false (W.drop j)) = o by have h := HC2.out; rw [if_neg (by rintro (h | h) <;> first | exact h hxe | cases h)] at h; exact h)
              clear hxb hxe
              have hcap : j ≤ cap := by
                have h1 := HW.out.ok.len
                have h2 := HW.out.ok.cap
                dsimp only at h1 h2
                have := HN.out
                omega
              have hsl := mid_texts ⟨some a, len, cap⟩ (n := j) hbj hcap
              obtain ⟨m, hm0⟩ : ∃ m, j - b = m := ⟨_, rfl⟩
              obtain ⟨⟨pao, plen, pcap⟩, hpv⟩ : ∃ v, partV ⟨some a, len, cap⟩ b j = v := ⟨_, rfl⟩
              obtain rfl : plen = m := by rw [← hm0, ← show (partV ⟨some a, len, cap⟩ b j).len = j - b from rfl, hpv]
              rw [hpv] at hsl
              dsimp only at hsl
              have hpr := HPR.out
              rw [hpv] at hpr
              have HPR := Lib.hid hpr
              have hpl := HPL.out
              rw [hm0] at hpl
              have HPL := Lib.hid hpl
              have hmn : plen ≤ 100000 := by omega
              have hkj : cs.length ≤ j := by omega
              clear hpr hpl hpv hm0 hcap
              by_cases hel : P = [wElse]
              · have HC4 := Lib.hid (show casedG f cs true (W.drop j) = o by have h := HC3.out; rw [if_pos hel] at h; exact h)
                obtain ⟨ad, had, hcp⟩ := HPR.out.at (i := 0) (x := wElse) (by rw [hel]; rfl)
                dsimp only at had
                subst had
                rw [addr_zero] at hcp
                obtain rfl : plen = 1 := by rw [← HPL.out, hel]; rfl
                obtain ⟨Sp, hSp⟩ : ∃ S, bs wElse = S := ⟨_, rfl⟩
                have hqp := lit_text wElse wElse (b := true) (by simp)
                rw [hSp] at hqp hcp
                unfold wElse at hqp
                clear hSp hel
                go_wp2_with fail
                have A2 := Lib.hid (A.out.put5 true)
                have G2 := Lib.hid (G.out.far (set_turn wr bx 5 (.bool true)) (fun q e => by omega))
                clear c0 c1 c2 c3 c4 c5 g0 g1 g2 g3 g4 g5
                generalize wr.setCell ⟨bx, 5, none⟩ (.bool true) = w2 at A2 G2 ⊢
                go_roundw
                case rel => exact ⟨j, ⟨sao, slen, scap⟩, cs, true, rfl, hjn, hkj, A2, G2, Lib.hid ⟨f, by have := HFN.out; have := HB.out; omega, HC4.out⟩⟩
                case measure => have := HB.out; simp [intOf]; omega
              · have HC5 := Lib.hid (show (match oneV P with | none => none | some c => casedG f (cs ++ [c]) false (W.drop j)) = o by have h := HC3.out; rw [if_neg hel] at h; exact h)
                obtain ⟨oc, hoc⟩ : ∃ oc, oneV P = oc := ⟨_, rfl⟩
                have CO := Lib.hid (fun w h => rone_any ⟨pao, plen, pcap⟩ P plen oc w h HPL.out hmn hoc HPF.out)
                have h5 := HC5.out
                rw [hoc] at h5
                have HC6 := Lib.hid h5
                clear h5 hoc
                by_cases hp1 : plen = 1
                · subst hp1
                  obtain ⟨p0, hp0⟩ : ∃ p0, P = [p0] := by
                    have h := HPL.out
                    match P, h with
                    | [x], _ => exact ⟨x, rfl⟩
                  obtain ⟨ad, had, hcp⟩ := HPR.out.at (i := 0) (x := p0) (by rw [hp0]; rfl)
                  dsimp only at had
                  subst had
                  rw [addr_zero] at hcp
                  obtain ⟨Sp, hSp⟩ : ∃ S, bs p0 = S := ⟨_, rfl⟩
                  have hqp := lit_text p0 wElse (b := false) (by
                    rw [decide_eq_false_iff_not]
                    intro e
                    exact hel (by rw [hp0, e]))
                  rw [hSp] at hqp hcp
                  unfold wElse at hqp
                  clear hSp hel hp0
                  go_wp2_with fail
                  refine (CO.out _ HPR.out).mono ?_
                  rintro e w1 ⟨t1, ⟨ps, pc, pv⟩, ok, rfl, hok, hcc⟩
                  have A := Lib.hid (A.out.new t1)
                  have G := Lib.hid (G.out.new t1)
                  clear t1
                  clear c0 c1 c2 c3 c4 c5 g0 g1 g2 g3 g4 g5
                  obtain ⟨⟨c0, c1, c2, c3, c4, c5⟩, g0, g1, g2, g3, g4, g5⟩ := A.out.x.cells
                  unfold Cas.val
                  go_upto_region 13 with fail
                  have A := Lib.hid (A.out.new ((Turn.refl (fun _ => False) w1).alloc (.cells #[.bool ps, .int .i64 pc, .int .i64 pv] 40)))
                  have G := Lib.hid (G.out.new ((Turn.refl (fun _ => False) w1).alloc (.cells #[.bool ps, .int .i64 pc, .int .i64 pv] 40)))
                  have C : Hid (Three (w1.alloc (.cells #[.bool ps, .int .i64 pc, .int .i64 pv] 40)) w1.heap.size ps pc pv) := Lib.hid (blk_new w1 _ 40)
                  obtain ⟨cb, hcb⟩ : ∃ b, w1.heap.size = b := ⟨_, rfl⟩
                  rw [hcb] at C ⊢
                  clear c0 c1 c2 c3 c4 c5 g0 g1 g2 g3 g4 g5
                  generalize w1.alloc (.cells #[.bool ps, .int .i64 pc, .int .i64 pv] 40) = w2 at A G C ⊢
                  clear hcb
                  obtain ⟨⟨c0, c1, c2, c3, c4, c5⟩, g0, g1, g2, g3, g4, g5⟩ := A.out.x.cells
                  cases oc with
                  | none =>
                    have HNO := Lib.hid (show o = none from HC6.out.symm)
                    subst hok
                    obtain ⟨⟨z0, z1, z2, z3, z4, z5⟩, y0, y1, y2, y3, y4, y5⟩ := A.out.z.cells
                    go_wp2_with fail
                    clear c0 c1 c2 c3 c4 c5 g0 g1 g2 g3 g4 g5
                    clear z0 z1 z2 z3 z4 z5 y0 y1 y2 y3 y4 y5
                    have ZF := Lib.hid (A.out.z.all 9 0 0 0 (.slice sao slen scap) false)
                    have TF := Lib.hid (A.out.t.and (six_turn w2 rz (.int .i64 9) (.int .i64 0) (.int .i64 0) (.int .i64 0) (.slice sao slen scap) (.bool false)) (fun q hq e => by have := A.out.low; omega))
                    have GF := Lib.hid (G.out.far (six_turn w2 rz (.int .i64 9) (.int .i64 0) (.int .i64 0) (.int .i64 0) (.slice sao slen scap) (.bool false)) (fun q e => by have := A.out.nxt; omega))
                    generalize ((((((w2.setCell ⟨rz, 0, none⟩ (.int .i64 9)).setCell ⟨rz, 1, none⟩ (.int .i64 0)).setCell ⟨rz, 2, none⟩ (.int .i64 0)).setCell ⟨rz, 3, none⟩ (.int .i64 0)).setCell ⟨rz, 4, none⟩ (.slice sao slen scap)).setCell ⟨rz, 5, none⟩ (.bool false)) = wf at ZF TF GF ⊢
                    obtain ⟨⟨k0, k1, k2, k3, k4, k5⟩, _⟩ := ZF.out.cells
                    refine bodyPost_ret (v := .tuple #[.agg #[.int .i64 9, .int .i64 0, .int .i64 0, .int .i64 0, .slice sao slen scap, .bool false], .bool false]) (by simp [results, Tryd.results51, go_sem, k0, k1, k2, k3, k4, k5]) rfl (gives_of (r := ⟨9, 0, 0, 0, ⟨sao, slen, scap⟩, false⟩) TF.out ?_ ?_)
                    · rw [HNO.out]
                      rfl
                    · intro cs' el' h
                      rw [HNO.out] at h
                      cases h
                  | some c' =>
                    obtain rfl := hcc c' rfl
                    subst hok
                    have hbx2 : bx + 1 ≤ w2.heap.size := A.out.x.lt
                    obtain ⟨⟨d0, d1, d2⟩, _⟩ := C.out.cells
                    obtain ⟨k1, hk1⟩ : ∃ k1, cs.length + 1 = k1 := ⟨_, rfl⟩
                    have HK1 := Lib.hid hk1
                    have hk1j : k1 ≤ j := by have := HB.out; omega
                    clear hk1
                    go_upto_region 16 with (at_builtin; refine wpList_append_case Tryd.underlying23 info_case rfl (by decide) rfl (.tmp 64) (.tmp 66) rfl ⟨sao, slen, scap⟩ cs ⟨ps, pc, pv⟩ rfl rfl G.out rfl k1 HK1.out (by omega) hbx2 ?_; intro g gc w3 hg h3 t3 b3; have A3 := Lib.hid (A.out.turned t3.out (fun q e => by have := G.out.low q e; omega)); clear c0 c1 c2 c3 c4 c5 g0 g1 g2 g3 g4 g5; obtain ⟨⟨c0, c1, c2, c3, c4, c5⟩, g0, g1, g2, g3, g4, g5⟩ := A3.out.x.cells)
                    have A4 := Lib.hid (A3.out.put4 (.slice (some ⟨g, 0, none⟩) k1 gc))
                    have G4 := Lib.hid (h3.out.far (set_turn w3 bx 4 (.slice (some ⟨g, 0, none⟩) k1 gc)) (fun q e => by omega))
                    clear c0 c1 c2 c3 c4 c5 g0 g1 g2 g3 g4 g5
                    clear h3 t3 b3 A3 d0 d1 d2
                    generalize w3.setCell ⟨bx, 4, none⟩ (.slice (some ⟨g, 0, none⟩) k1 gc) = w4 at A4 G4 ⊢
                    go_wp2_with fail
                    go_roundw
                    case rel => exact ⟨j, ⟨some ⟨g, 0, none⟩, k1, gc⟩, cs ++ [⟨ps, pc, pv⟩], false, rfl, hjn, by rw [List.length_append, List.length_singleton, HK1.out]; exact hk1j, A4, G4, Lib.hid ⟨f, by have := HFN.out; have := HB.out; omega, HC6.out⟩⟩
                    case measure => have := HB.out; simp [intOf]; omega
                · clear hel
                  go_wp2_with fail
                  refine (CO.out _ HPR.out).mono ?_
                  rintro e w1 ⟨t1, ⟨ps, pc, pv⟩, ok, rfl, hok, hcc⟩
                  have A := Lib.hid (A.out.new t1)
                  have G := Lib.hid (G.out.new t1)
                  clear t1
                  clear c0 c1 c2 c3 c4 c5 g0 g1 g2 g3 g4 g5
                  obtain ⟨⟨c0, c1, c2, c3, c4, c5⟩, g0, g1, g2, g3, g4, g5⟩ := A.out.x.cells
                  unfold Cas.val
                  go_upto_region 13 with fail
                  have A := Lib.hid (A.out.new ((Turn.refl (fun _ => False) w1).alloc (.cells #[.bool ps, .int .i64 pc, .int .i64 pv] 40)))
                  have G := Lib.hid (G.out.new ((Turn.refl (fun _ => False) w1).alloc (.cells #[.bool ps, .int .i64 pc, .int .i64 pv] 40)))
                  have C : Hid (Three (w1.alloc (.cells #[.bool ps, .int .i64 pc, .int .i64 pv] 40)) w1.heap.size ps pc pv) := Lib.hid (blk_new w1 _ 40)
                  obtain ⟨cb, hcb⟩ : ∃ b, w1.heap.size = b := ⟨_, rfl⟩
                  rw [hcb] at C ⊢
                  clear c0 c1 c2 c3 c4 c5 g0 g1 g2 g3 g4 g5
                  generalize w1.alloc (.cells #[.bool ps, .int .i64 pc, .int .i64 pv] 40) = w2 at A G C ⊢
                  clear hcb
                  obtain ⟨⟨c0, c1, c2, c3, c4, c5⟩, g0, g1, g2, g3, g4, g5⟩ := A.out.x.cells
                  cases oc with
                  | none =>
                    have HNO := Lib.hid (show o = none from HC6.out.symm)
                    subst hok
                    obtain ⟨⟨z0, z1, z2, z3, z4, z5⟩, y0, y1, y2, y3, y4, y5⟩ := A.out.z.cells
                    go_wp2_with fail
                    clear c0 c1 c2 c3 c4 c5 g0 g1 g2 g3 g4 g5
                    clear z0 z1 z2 z3 z4 z5 y0 y1 y2 y3 y4 y5
                    have ZF := Lib.hid (A.out.z.all 9 0 0 0 (.slice sao slen scap) false)
                    have TF := Lib.hid (A.out.t.and (six_turn w2 rz (.int .i64 9) (.int .i64 0) (.int .i64 0) (.int .i64 0) (.slice sao slen scap) (.bool false)) (fun q hq e => by have := A.out.low; omega))
                    have GF := Lib.hid (G.out.far (six_turn w2 rz (.int .i64 9) (.int .i64 0) (.int .i64 0) (.int .i64 0) (.slice sao slen scap) (.bool false)) (fun q e => by have := A.out.nxt; omega))
                    generalize ((((((w2.setCell ⟨rz, 0, none⟩ (.int .i64 9)).setCell ⟨rz, 1, none⟩ (.int .i64 0)).setCell ⟨rz, 2, none⟩ (.int .i64 0)).setCell ⟨rz, 3, none⟩ (.int .i64 0)).setCell ⟨rz, 4, none⟩ (.slice sao slen scap)).setCell ⟨rz, 5, none⟩ (.bool false)) = wf at ZF TF GF ⊢
                    obtain ⟨⟨k0, k1, k2, k3, k4, k5⟩, _⟩ := ZF.out.cells
                    refine bodyPost_ret (v := .tuple #[.agg #[.int .i64 9, .int .i64 0, .int .i64 0, .int .i64 0, .slice sao slen scap, .bool false], .bool false]) (by simp [results, Tryd.results51, go_sem, k0, k1, k2, k3, k4, k5]) rfl (gives_of (r := ⟨9, 0, 0, 0, ⟨sao, slen, scap⟩, false⟩) TF.out ?_ ?_)
                    · rw [HNO.out]
                      rfl
                    · intro cs' el' h
                      rw [HNO.out] at h
                      cases h
                  | some c' =>
                    obtain rfl := hcc c' rfl
                    subst hok
                    have hbx2 : bx + 1 ≤ w2.heap.size := A.out.x.lt
                    obtain ⟨⟨d0, d1, d2⟩, _⟩ := C.out.cells
                    obtain ⟨k1, hk1⟩ : ∃ k1, cs.length + 1 = k1 := ⟨_, rfl⟩
                    have HK1 := Lib.hid hk1
                    have hk1j : k1 ≤ j := by have := HB.out; omega
                    clear hk1
                    go_upto_region 16 with (at_builtin; refine wpList_append_case Tryd.underlying23 info_case rfl (by decide) rfl (.tmp 64) (.tmp 66) rfl ⟨sao, slen, scap⟩ cs ⟨ps, pc, pv⟩ rfl rfl G.out rfl k1 HK1.out (by omega) hbx2 ?_; intro g gc w3 hg h3 t3 b3; have A3 := Lib.hid (A.out.turned t3.out (fun q e => by have := G.out.low q e; omega)); clear c0 c1 c2 c3 c4 c5 g0 g1 g2 g3 g4 g5; obtain ⟨⟨c0, c1, c2, c3, c4, c5⟩, g0, g1, g2, g3, g4, g5⟩ := A3.out.x.cells)
                    have A4 := Lib.hid (A3.out.put4 (.slice (some ⟨g, 0, none⟩) k1 gc))
                    have G4 := Lib.hid (h3.out.far (set_turn w3 bx 4 (.slice (some ⟨g, 0, none⟩) k1 gc)) (fun q e => by omega))
                    clear c0 c1 c2 c3 c4 c5 g0 g1 g2 g3 g4 g5
                    clear h3 t3 b3 A3 d0 d1 d2
                    generalize w3.setCell ⟨bx, 4, none⟩ (.slice (some ⟨g, 0, none⟩) k1 gc) = w4 at A4 G4 ⊢
                    go_wp2_with fail
                    go_roundw
                    case rel => exact ⟨j, ⟨some ⟨g, 0, none⟩, k1, gc⟩, cs ++ [⟨ps, pc, pv⟩], false, rfl, hjn, by rw [List.length_append, List.length_singleton, HK1.out]; exact hk1j, A4, G4, Lib.hid ⟨f, by have := HFN.out; have := HB.out; omega, HC6.out⟩⟩
                    case measure => have := HB.out; simp [intOf]; omega
            · have HNO := Lib.hid (show o = none by have h := HC2.out; rw [if_pos (Or.inr rfl)] at h; exact h.symm)
              clear hxb
              obtain ⟨⟨z0, z1, z2, z3, z4, z5⟩, y0, y1, y2, y3, y4, y5⟩ := A.out.z.cells
              go_wp2_with fail
              clear c0 c1 c2 c3 c4 c5 g0 g1 g2 g3 g4 g5
              clear z0 z1 z2 z3 z4 z5 y0 y1 y2 y3 y4 y5
              have ZF := Lib.hid (A.out.z.all 9 0 0 0 (.slice sao slen scap) true)
              have TF := Lib.hid (A.out.t.and (six_turn wr rz (.int .i64 9) (.int .i64 0) (.int .i64 0) (.int .i64 0) (.slice sao slen scap) (.bool true)) (fun q hq e => by have := A.out.low; omega))
              have GF := Lib.hid (G.out.far (six_turn wr rz (.int .i64 9) (.int .i64 0) (.int .i64 0) (.int .i64 0) (.slice sao slen scap) (.bool true)) (fun q e => by have := A.out.nxt; omega))
              generalize ((((((wr.setCell ⟨rz, 0, none⟩ (.int .i64 9)).setCell ⟨rz, 1, none⟩ (.int .i64 0)).setCell ⟨rz, 2, none⟩ (.int .i64 0)).setCell ⟨rz, 3, none⟩ (.int .i64 0)).setCell ⟨rz, 4, none⟩ (.slice sao slen scap)).setCell ⟨rz, 5, none⟩ (.bool true)) = wf at ZF TF GF ⊢
              obtain ⟨⟨k0, k1, k2, k3, k4, k5⟩, _⟩ := ZF.out.cells
              refine bodyPost_ret (v := .tuple #[.agg #[.int .i64 9, .int .i64 0, .int .i64 0, .int .i64 0, .slice sao slen scap, .bool true], .bool false]) (by simp [results, Tryd.results51, go_sem, k0, k1, k2, k3, k4, k5]) rfl (gives_of (r := ⟨9, 0, 0, 0, ⟨sao, slen, scap⟩, true⟩) TF.out ?_ ?_)
              · rw [HNO.out]
                rfl
              · intro cs' el' h
                rw [HNO.out] at h
                cases h
    · obtain rfl : k = n := by omega
      have HSO := Lib.hid (show o = some (cs, els) by
        obtain ⟨f, _, h2⟩ := HE.out
        rw [List.drop_of_length_le (by rw [HN.out]; exact Nat.le_refl _)] at h2
        rw [← h2]
        cases f <;> rfl)
      clear HE
      obtain ⟨⟨c0, c1, c2, c3, c4, c5⟩, g0, g1, g2, g3, g4, g5⟩ := A.out.x.cells
      obtain ⟨⟨z0, z1, z2, z3, z4, z5⟩, y0, y1, y2, y3, y4, y5⟩ := A.out.z.cells
      go_wp2_with fail
      clear c0 c1 c2 c3 c4 c5 g0 g1 g2 g3 g4 g5
      clear z0 z1 z2 z3 z4 z5 y0 y1 y2 y3 y4 y5
      have ZF := Lib.hid (A.out.z.all 9 0 0 0 (.slice sao slen scap) els)
      have TF := Lib.hid (A.out.t.and (six_turn wr rz (.int .i64 9) (.int .i64 0) (.int .i64 0) (.int .i64 0) (.slice sao slen scap) (.bool els)) (fun q hq e => by have := A.out.low; omega))
      have GF := Lib.hid (G.out.far (six_turn wr rz (.int .i64 9) (.int .i64 0) (.int .i64 0) (.int .i64 0) (.slice sao slen scap) (.bool els)) (fun q e => by have := A.out.nxt; omega))
      generalize ((((((wr.setCell ⟨rz, 0, none⟩ (.int .i64 9)).setCell ⟨rz, 1, none⟩ (.int .i64 0)).setCell ⟨rz, 2, none⟩ (.int .i64 0)).setCell ⟨rz, 3, none⟩ (.int .i64 0)).setCell ⟨rz, 4, none⟩ (.slice sao slen scap)).setCell ⟨rz, 5, none⟩ (.bool els)) = wf at ZF TF GF ⊢
      obtain ⟨⟨k0, k1, k2, k3, k4, k5⟩, _⟩ := ZF.out.cells
      refine bodyPost_ret (v := .tuple #[.agg #[.int .i64 9, .int .i64 0, .int .i64 0, .int .i64 0, .slice sao slen scap, .bool els], .bool true]) (by simp [results, Tryd.results51, go_sem, k0, k1, k2, k3, k4, k5]) rfl (gives_of (r := ⟨9, 0, 0, 0, ⟨sao, slen, scap⟩, els⟩) TF.out ?_ ?_)
      · rw [HSO.out]
        rfl
      · intro cs' el' h
        rw [HSO.out] at h
        cases h
        exact ⟨⟨rfl, rfl, rfl, rfl, rfl, GF.out.done.r⟩, GF.out.done.typ⟩
end Go.Proofs.YtfghabjpcjcllaaDoor
